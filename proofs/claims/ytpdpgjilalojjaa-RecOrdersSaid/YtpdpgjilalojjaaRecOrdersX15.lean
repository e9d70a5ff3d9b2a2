/- Texts of this seat, merged: what the proof reaches. -/
import Derived.Test.YtpdpgjilalojjaaRecOrdersX4
import Derived.RangeFuncNested
import Derived.Test.YtpdpgjilalojjaaRecOrdersX14
import Derived.Test.YtpdpgjilalojjaaRecOrdersX5
import Derived.Test.YtpdpgjilalojjaaRecOrdersX3
import Derived.Laws.AppendOwn
import Derived.OwnWalk
import Derived.Laws.StructEq
import Derived.Test.YtpdpgjilalojjaaRecOrdersX6
import Derived.Test.YtpdpgjilalojjaaRecOrdersX13
import Derived.Deep.SlicePairs
import Derived.OpenShut
import Derived.SizedLaws
namespace Go.Proofs.Ytpdpgjilalojjaa
namespace Base
end Base
namespace Bk
end Bk
namespace Byt
end Byt
namespace Head
end Head
namespace Hp
end Hp
namespace Mem
end Mem
namespace Rec
end Rec
namespace Tre
end Tre
namespace Txt
end Txt
end Go.Proofs.Ytpdpgjilalojjaa
section
namespace Go.Proofs.Ytpdpgjilalojjaa.Bk
open Go.ChangeShapes Go.WideShapes Go.ChangeAt Go.RowKit Base Byt
set_option linter.unusedVariables false
def Blk (W:World) (b:Nat) (t:TypeId) (cs:Array Value):Prop:=W.heap[b]? = some (.cells cs t (0,0))
section
variable {W W':World} {b:Nat} {t:TypeId} {cs:Array Value}
theorem Blk.lt (h:Blk W b t cs):b < W.heap.size:=(Array.getElem?_eq_some_iff.1 h).1
theorem Blk.cell (h:Blk W b t cs) (i:Nat):W.cell? ⟨b,i,none⟩=cs[i]?:=by simp [World.cell?,show W.heap[b]? = _ from h]
theorem Blk.frozen (h:Blk W b t cs) (i:Nat):W.frozen? ⟨b,i,none⟩=false:=by simp [World.frozen?,show W.heap[b]? = _ from h]
theorem Blk.new (W:World) (t:TypeId) (cs:Array Value):Blk (W.alloc (.cells cs t)) W.heap.size t cs:=World.alloc_heap_new W _
theorem Blk.kept (h:Blk W b t cs) {row:Option Nat} (hg:W.grownBy W' row) (hr:∀ r,row=some r → ∃ o:Obj,W.heap[r]? = some o∧o.isCells=false):Blk W' b t cs:=
 (grownBy_keeps_cells hg hr h rfl).trans h
theorem Blk.alloc (h:Blk W b t cs) (o:Obj):Blk (W.alloc o) b t cs:=h.kept (World.grownBy_alloc W o none) (fun r e => by cases e)
theorem Blk.drew (h:Blk W b t cs):Blk W.drew b t cs:=h
theorem Blk.below (h:Blk W b t cs) {n:Nat} (hb:Below n W W') (hn:b < n):Blk W' b t cs:=(hb.block b hn).trans h
theorem Blk.keptS {S:Nat → Prop} (h:Blk W b t cs) (hk:Kept S W W') (hn:¬ S b):Blk W' b t cs:=hk.some_ h hn
theorem Blk.set (h:Blk W b t cs) (i:Nat) (v:Value) (hi:i < cs.size):Blk (W.setCell ⟨b,i,none⟩ v) b t (cs.set i v hi):=by
 obtain ⟨hl,he⟩:=Array.getElem?_eq_some_iff.1 h;unfold Blk World.setCell;refine Array.getElem?_eq_some_iff.2 ⟨by simpa using hl,?_⟩
 rw [Array.getElem_modify,if_pos rfl,he];simp [Array.setIfInBounds,hi]
end
end Go.Proofs.Ytpdpgjilalojjaa.Bk
end
section
namespace Go.Proofs.Ytpdpgjilalojjaa.Mem
open Go.ChangeShapes Go.WideShapes Go.ChangeAt Go.RowKit Base Byt Txt Bk Go.Lib
set_option linter.unusedVariables false
set_option maxRecDepth 100000
structure MP where
 m:MemV
 p:Option Addr
 c:Nat
def zeroM:MemV:=⟨[],[],0,0,0,0,0,[]⟩
def zeroP:MP:=⟨zeroM,none,0⟩
def memC (m:MemV) (p:Option Addr) (c:Nat):Array Value:=#[.string (str m.path),.string (str m.target),.int .u8 (m.kind.toNat:Int),.int .i64 m.mode,.int .i64 m.uid,.int .i64 m.gid,.int .i64 m.time,.slice p m.body.length c]
def MP.cs (x:MP):Array Value:=memC x.m x.p x.c
theorem MP.cs_list (x:MP):x.cs.toList=[.string (str x.m.path),.string (str x.m.target),.int .u8 (x.m.kind.toNat:Int),.int .i64 x.m.mode,.int .i64 x.m.uid,.int .i64 x.m.gid,.int .i64 x.m.time,.slice x.p x.m.body.length x.c]:=rfl
structure BodyAt (w:World) (x:MP):Prop where
 bat:BAt w x.p x.m.body.length x.m.body
 le:x.m.body.length≤x.c
 mx:x.c≤maxLen
theorem BodyAt.kept {S:Nat → Prop} {w w':World} {x:MP} (h:BodyAt w x) (hk:Kept S w w') (hn:0 < x.m.body.length → ∀ a,x.p=some a → ¬ S a.block):BodyAt w' x:=⟨h.bat.kept hk hn,h.le,h.mx⟩
theorem BodyAt.below {w w':World} {x:MP} (h:BodyAt w x) (hb:Below w.heap.size w w'):BodyAt w' x:=⟨h.bat.below hb,h.le,h.mx⟩
def MemsAt (w:World) (p:Option Addr) (n:Nat) (xs:List MP):Prop:=
 xs.length=n∧(∀ x ∈ xs,BodyAt w x)∧(0 < n → ∃ b o,p=some ⟨b,o,none⟩∧b < w.heap.size ∧ ∀ i,i < n → ∀ j,j < 8 → w.cell? ⟨b,o+8 * i+j,none⟩=(xs.getD i zeroP).cs[j]?)
theorem MemsAt.below {w w':World} {p:Option Addr} {n:Nat} {xs:List MP} (h:MemsAt w p n xs) (hb:Below w.heap.size w w'):MemsAt w' p n xs:=by
 refine ⟨h.1,fun x hx => (h.2.1 x hx).below hb,fun h0 => ?_⟩
 obtain ⟨b,o,rfl,hbw,hc⟩:=h.2.2 h0;refine ⟨b,o,rfl,Nat.lt_of_lt_of_le hbw hb.size,fun i hi j hj => ?_⟩
 rw [hb.cell (p:=⟨b,o+8 * i+j,none⟩) hbw];exact hc i hi j hj
theorem MemsAt.cells {w:World} {p:Option Addr} {n:Nat} {xs:List MP} (h:MemsAt w p n xs) {i:Nat} (hi:i < n):∃ b o,p=some ⟨b,o,none⟩∧b < w.heap.size∧BodyAt w (xs.getD i zeroP) ∧
 w.cell? ⟨b,o+8 * i,none⟩=some (.string (str (xs.getD i zeroP).m.path))∧w.cell? ⟨b,o+8 * i+1,none⟩=some (.string (str (xs.getD i zeroP).m.target)) ∧
 w.cell? ⟨b,o+8 * i+2,none⟩=some (.int .u8 ((xs.getD i zeroP).m.kind.toNat:Int))∧w.cell? ⟨b,o+8 * i+3,none⟩=some (.int .i64 (xs.getD i zeroP).m.mode) ∧
 w.cell? ⟨b,o+8 * i+4,none⟩=some (.int .i64 (xs.getD i zeroP).m.uid)∧w.cell? ⟨b,o+8 * i+5,none⟩=some (.int .i64 (xs.getD i zeroP).m.gid) ∧
 w.cell? ⟨b,o+8 * i+6,none⟩=some (.int .i64 (xs.getD i zeroP).m.time)∧w.cell? ⟨b,o+8 * i+7,none⟩=some (.slice (xs.getD i zeroP).p (xs.getD i zeroP).m.body.length (xs.getD i zeroP).c):=by
 obtain ⟨b,o,rfl,hbw,hc⟩:=h.2.2 (by omega)
 have hb:BodyAt w (xs.getD i zeroP):=h.2.1 _ (by
  have hl:i < xs.length:=by rw [h.1];exact hi
  rw [List.getD,List.getElem?_eq_getElem hl]
  exact List.getElem_mem hl)
 exact ⟨b,o,rfl,hbw,hb,hc i hi 0 (by omega),hc i hi 1 (by omega),hc i hi 2 (by omega),hc i hi 3 (by omega),hc i hi 4 (by omega),hc i hi 5 (by omega),hc i hi 6 (by omega),hc i hi 7 (by omega)⟩
end Go.Proofs.Ytpdpgjilalojjaa.Mem
end
section
namespace Go.Proofs.Ytpdpgjilalojjaa.Itm
open Go.ChangeShapes Go.WideShapes Go.ChangeAt Go.RowKit Base Byt Txt Bk Mem Tre Go.Lib
set_option linter.unusedVariables false
set_option maxRecDepth 100000
structure IP where
 m:ItemV
 p:Option Addr
 c:Nat
def zeroJ:IP:=⟨zeroI,none,0⟩
def itmC (m:ItemV) (p:Option Addr) (c:Nat):Array Value:=#[.string (str m.key),.int .i64 m.seq,.slice p m.data.length c]
def IP.cs (x:IP):Array Value:=itmC x.m x.p x.c
theorem IP.cs_list (x:IP):x.cs.toList=[.string (str x.m.key),.int .i64 x.m.seq,.slice x.p x.m.data.length x.c]:=rfl
structure DatAt (w:World) (x:IP):Prop where
 bat:BAt w x.p x.m.data.length x.m.data
 le:x.m.data.length≤x.c
 mx:x.c≤maxLen
theorem DatAt.kept {S:Nat → Prop} {w w':World} {x:IP} (h:DatAt w x) (hk:Kept S w w') (hn:0 < x.m.data.length → ∀ a,x.p=some a → ¬ S a.block):DatAt w' x:=⟨h.bat.kept hk hn,h.le,h.mx⟩
theorem DatAt.below {w w':World} {x:IP} (h:DatAt w x) (hb:Below w.heap.size w w'):DatAt w' x:=⟨h.bat.below hb,h.le,h.mx⟩
def flatJ (xs:List IP):List Value:=xs.flatMap fun x => x.cs.toList
theorem flatJ_cons (x:IP) (xs:List IP):flatJ (x :: xs)=x.cs.toList++flatJ xs:=rfl
theorem flatJ_length (xs:List IP):(flatJ xs).length=3 * xs.length:=by
 induction xs with
 | nil => rfl
 | cons x xs ih => rw [flatJ_cons,List.length_append,ih,IP.cs_list,List.length_cons];simp only [List.length_cons,List.length_nil];omega
theorem flatJ_get (xs:List IP):∀ i,i < xs.length → ∀ j,j < 3 → (flatJ xs)[3 * i+j]? = (xs.getD i zeroJ).cs[j]?:=by
 induction xs with
 | nil => intro i h;simp at h
 | cons x xs ih =>
   intro i h j hj;rw [flatJ_cons];have hl:x.cs.toList.length=3:=rfl
   cases i with
   | zero => rw [List.getElem?_append_left (by omega),show 3 * 0+j=j by omega,Array.getElem?_toList];rfl
   | succ i =>
     rw [List.getElem?_append_right (by omega),hl,show 3 * (i+1)+j - 3=3 * i+j by omega,ih i (by simpa using h) j hj]
     rfl
def ItemsAt (w:World) (p:Option Addr) (n:Nat) (xs:List IP):Prop:=
 xs.length=n∧(∀ x ∈ xs,DatAt w x)∧(0 < n → ∃ b o,p=some ⟨b,o,none⟩∧b < w.heap.size ∧ ∀ i,i < n → ∀ j,j < 3 → w.cell? ⟨b,o+3 * i+j,none⟩=(xs.getD i zeroJ).cs[j]?)
theorem ItemsAt.below {w w':World} {p:Option Addr} {n:Nat} {xs:List IP} (h:ItemsAt w p n xs) (hb:Below w.heap.size w w'):ItemsAt w' p n xs:=by
 refine ⟨h.1,fun x hx => (h.2.1 x hx).below hb,fun h0 => ?_⟩
 obtain ⟨b,o,rfl,hbw,hc⟩:=h.2.2 h0;refine ⟨b,o,rfl,Nat.lt_of_lt_of_le hbw hb.size,fun i hi j hj => ?_⟩
 rw [hb.cell (p:=⟨b,o+3 * i+j,none⟩) hbw];exact hc i hi j hj
def Cells3 (w:World) (b o:Nat) (y:IP):Prop:=
 w.cell? ⟨b,o,none⟩=some (.string (str y.m.key))∧w.cell? ⟨b,o+1,none⟩=some (.int .i64 y.m.seq)∧w.cell? ⟨b,o+2,none⟩=some (.slice y.p y.m.data.length y.c)
theorem Cells3.below {w w':World} {b o:Nat} {y:IP} (h:Cells3 w b o y) (hb:b < w.heap.size) (hw:Below w.heap.size w w'):Cells3 w' b o y:=by
 unfold Cells3 at h ⊢;simp only [hw.cell (p:=⟨b,_,none⟩) hb];exact h
theorem ItemsAt.cells3 {w:World} {p:Option Addr} {n:Nat} {xs:List IP} (h:ItemsAt w p n xs) {i:Nat} (hi:i < n):∃ b o,p=some ⟨b,o,none⟩∧b < w.heap.size∧DatAt w (xs.getD i zeroJ)∧Cells3 w b (o+i * 3) (xs.getD i zeroJ):=by
 obtain ⟨b,o,rfl,hbw,hc⟩:=h.2.2 (by omega)
 have hb:DatAt w (xs.getD i zeroJ):=h.2.1 _ (by
  have hl:i < xs.length:=by rw [h.1];exact hi
  rw [List.getD,List.getElem?_eq_getElem hl]
  exact List.getElem_mem hl)
 rw [Nat.mul_comm i 3];exact ⟨b,o,rfl,hbw,hb,hc i hi 0 (by omega),hc i hi 1 (by omega),hc i hi 2 (by omega)⟩
theorem takeJ_succ (xs:List IP) (k:Nat) (h:k < xs.length):(xs.take (k+1)).map IP.m=(xs.take k).map IP.m++[(xs.getD k zeroJ).m]:=by
 rw [List.take_succ_eq_append_getElem h,List.map_append,List.getD,List.getElem?_eq_getElem h];rfl
theorem getJ_mem (xs:List IP) (k:Nat) (h:k < xs.length):xs.getD k zeroJ ∈ xs:=by
 rw [List.getD,List.getElem?_eq_getElem h];exact List.getElem_mem h
theorem ItemsAt.drop {w:World} {p:Option Addr} {n:Nat} {xs:List IP} (h:ItemsAt w p n xs) {k:Nat} (hk:k≤n):ItemsAt w p k (xs.take k):=by
 refine ⟨by rw [List.length_take,h.1];omega,fun x hx => h.2.1 x (List.mem_of_mem_take hx),fun h0 => ?_⟩
 obtain ⟨b,o,rfl,hb,hc⟩:=h.2.2 (by omega)
 refine ⟨b,o,rfl,hb,fun i hi j hj => ?_⟩
 rw [hc i (by omega) j hj]
 congr 2
 simp [List.getD,hi]
end Go.Proofs.Ytpdpgjilalojjaa.Itm
end
section
namespace Go.Proofs.Ytpdpgjilalojjaa.Mem
open Go.ChangeShapes Go.WideShapes Go.ChangeAt Go.RowKit Go.Deep Base Byt Txt Bk Hp Head Rec Go.Lib
set_option linter.unusedVariables false
set_option maxRecDepth 100000
theorem cellsY:Try.prog.cellsOf 22=1:=by kernel_rfl
instance:Inhabited MP:=⟨zeroP⟩
section
variable {H:Type} {enc:TypeId × Value → H} {w:World} {base:Nat} {held:Bool}
end
end Go.Proofs.Ytpdpgjilalojjaa.Mem
end
section
namespace Go.Proofs.Ytpdpgjilalojjaa.Itm
open Go.ChangeShapes Go.WideShapes Go.ChangeAt Go.RowKit Go.Deep Base Byt Txt Bk Hp Head Rec Mem Tre Go.Lib
set_option linter.unusedVariables false
set_option maxRecDepth 100000
theorem list3 {α:Type} (l:List α) (h:l.length=3):∃ a b c,l=[a,b,c]:=by
 match l,h with
 | [a,b,c],_ => exact ⟨a,b,c,rfl⟩
theorem cellsJ3:Try.prog.cellsOf 24=3:=by kernel_rfl
instance:Inhabited IP:=⟨zeroJ⟩
def WfI (m:ItemV):Prop:=(Lit.int .i64 m.seq).wf=true
def RoomI (x:IP):Prop:=x.m.key.length≤140737488351232∧x.c≤140737488351232
section
variable {H:Type} {enc:TypeId × Value → H} {w:World} {base:Nat} {held:Bool}
theorem item_cells {cs:List Value} {d:DataW H} {ps:List MemPlace} {fuel:Nat} (hw:∀ z ∈ d.weights Try.prog 24,z≤reachBytes)
 (hf:DataW.trod enc Try.prog w base (fun _ => true) held fuel 24 cs=some (d,ps)) :
 ∃ x:IP,cs=x.cs.toList∧DatAt w x∧WfI x.m∧RoomI x:=by
 obtain ⟨xs,n,rfl,hx,hl,hxl,hall⟩:=DataW.trod_struct Try.underlying24 hf;rw [cellsJ3] at hl;obtain ⟨a,b,c,rfl⟩:=list3 cs hl;obtain ⟨x0,x1,x4,rfl⟩:=list3 xs (by simpa using hxl)
 have h0:=hall 0 _ rfl;have h1:=hall 1 _ rfl;have h4:=hall 2 _ rfl;simp only [List.getElem_toArray,List.getElem_cons_zero,List.getElem_cons_succ,cellsS,cellsI,cellsY,List.drop_zero,List.drop_succ_cons,List.take_succ_cons,List.take_zero,List.getElem?_cons_zero,List.getElem?_cons_succ] at h0 h1 h4;obtain ⟨s0,e0,rfl,z0⟩:=DataW.trod_string Try.underlying9 h0;obtain ⟨m0,f0,rfl,q0⟩:=DataW.trod_int Try.underlying3 h1;simp only [List.cons.injEq,and_true] at e0 f0;subst e0 f0;simp only [Prod.mk.injEq,List.map_cons,List.map_nil] at hx;obtain ⟨hd,_⟩:=hx
 have ew:d.weights Try.prog 24=DataW.weightsEach Try.prog [9,3,22] [.lit (.string s0.data.toList),.lit (.int .i64 m0),x4.1]:=by
  rw [hd];simp only [DataW.weights,Try.underlying24];rfl
 have w0:=hw s0.data.toList.length (by rw [ew];simp [DataW.weightsEach,DataW.weights])
 have w4:∀ z ∈ x4.1.weights Try.prog 22,z≤reachBytes:=fun z hz => hw z (by
  rw [ew];simp only [DataW.weightsEach,List.mem_append]
  exact .inr (.inr (.inl hz)))
 simp only [reachBytes] at w0;rcases open_ints Try.underlying22 Try.underlying5 cellsU h4 with ⟨hcs,_⟩ | ⟨x,l,cp,zs,hcs,_,hlc,hmx,hz,hxx,hcell,hwz⟩
 ·simp only [List.cons.injEq,and_true] at hcs
  subst hcs;refine ⟨⟨⟨s0.data.toList,m0,[]⟩,none,0⟩,?_,⟨fun h0 => by simp at h0,Nat.le_refl _,by show (0:Nat)≤maxLen;decide⟩,q0,by omega,by show 0≤_;omega⟩
  rw [IP.cs_list,str_of];rfl
 ·simp only [List.cons.injEq,and_true] at hcs
  subst hcs;simp only [if_true] at hz;have hrow:IsRow .u8 w (some x) l cp zs:=.inr ⟨_,rfl,hlc,hmx,hz,fun i hi => hcell i hi,hwz⟩
  obtain ⟨b1,b2,b3,b4⟩:=bat_of_row hrow
  have wc:=w4 (cp * 1) (by
   rw [hxx];simp only [DataW.weights,Try.underlying22,List.mem_cons,List.mem_append,lits,List.length_map,List.length_take,List.length_drop];refine .inl ?_
   rw [(by kernel_rfl:Try.prog.bytesOf 5=1)]
   congr 1
   omega)
  simp only [reachBytes] at wc;refine ⟨⟨⟨s0.data.toList,m0,bytesOf (zs.take l)⟩,some x,cp⟩,?_,⟨?_,?_,hmx⟩,q0,by omega,by show cp≤_;omega⟩
  ·rw [IP.cs_list,str_of]
   simp only [b2]
  ·show BAt w (some x) (bytesOf (zs.take l)).length (bytesOf (zs.take l))
   rw [b2];exact b1
  ·show (bytesOf (zs.take l)).length≤cp
   rw [b2];exact hlc
theorem item_open {v:Value} {d:DataW H} {ps:List MemPlace} {ts:List TypeId} {ds:List (DataW H)} (hz:(DataW.weightsEach Try.prog ts ds).all (· ≤ reachBytes)=true) {j:Nat} (ht:ts[j]? = some 24) (hd:ds[j]? = some d)
 (h:DataW.Trod enc Try.prog w base (fun _ => true) held 24 v d ps) :
 ∃ x:IP,v=.agg x.cs∧DatAt w x∧WfI x.m∧RoomI x:=by
 obtain ⟨fuel,hf⟩:=h;have hw:=List.all_eq_true.1 hz;obtain ⟨x,h1,h2⟩:=item_cells (fun z hzz => of_decide_eq_true (hw _ (DataW.weights_mem_each ht hd _ hzz))) hf
 refine ⟨x,?_,h2⟩
 obtain ⟨cs,rfl⟩:∃ cs,v=.agg cs:=by
  have hl:=congrArg List.length h1;rw [IP.cs_list] at hl
  cases v<;>first | exact ⟨_,rfl⟩ | (simp [Value.cells] at hl)
 congr 1
 apply Array.toList_inj.1;exact h1
end
end Go.Proofs.Ytpdpgjilalojjaa.Itm
end
section
namespace Go.Proofs.Ytpdpgjilalojjaa.Mem
open Go.ChangeShapes Go.WideShapes Go.ChangeAt Go.RowKit Base Byt Txt Bk Go.Lib
set_option linter.unusedVariables false
set_option maxRecDepth 100000
theorem bat_lt {w:World} {p:Option Addr} {m:Nat} {bs:List UInt8} (h:BAt w p m bs) (h0:0 < m) {y:Addr} (hy:p=some y):y.block < w.heap.size:=by
 obtain ⟨b,o,he,hb,_⟩:=h.cell h0;rw [hy] at he
 cases he
 exact hb
def Cells8 (w:World) (b o:Nat) (y:MP):Prop:=
 w.cell? ⟨b,o,none⟩=some (.string (str y.m.path))∧w.cell? ⟨b,o+1,none⟩=some (.string (str y.m.target))∧w.cell? ⟨b,o+2,none⟩=some (.int .u8 (y.m.kind.toNat:Int))∧w.cell? ⟨b,o+3,none⟩=some (.int .i64 y.m.mode) ∧
 w.cell? ⟨b,o+4,none⟩=some (.int .i64 y.m.uid)∧w.cell? ⟨b,o+5,none⟩=some (.int .i64 y.m.gid)∧w.cell? ⟨b,o+6,none⟩=some (.int .i64 y.m.time)∧w.cell? ⟨b,o+7,none⟩=some (.slice y.p y.m.body.length y.c)
theorem Cells8.below {w w':World} {b o:Nat} {y:MP} (h:Cells8 w b o y) (hb:b < w.heap.size) (hw:Below w.heap.size w w'):Cells8 w' b o y:=by
 unfold Cells8 at h ⊢;simp only [hw.cell (p:=⟨b,_,none⟩) hb];exact h
end Go.Proofs.Ytpdpgjilalojjaa.Mem
end
section
namespace Go.Proofs.Ytpdpgjilalojjaa.Tre
open Go.ChangeShapes Go.WideShapes Go.ChangeAt Go.RowKit Base Byt Txt Bk Mem Go.Lib
set_option linter.unusedVariables false
set_option maxRecDepth 100000
structure NP where
 m:NodeV
 p:Option Addr
 c:Nat
def zeroQ:NP:=⟨zeroN,none,0⟩
def nodC (m:NodeV) (p:Option Addr) (c:Nat):Array Value:=#[.string (str m.path),.string (str m.target),.string (str m.leader),.int .u8 (m.kind.toNat:Int),.int .i64 m.mode,.int .i64 m.uid,.int .i64 m.gid,.int .i64 m.time,.slice p m.body.length c]
def NP.cs (x:NP):Array Value:=nodC x.m x.p x.c
theorem NP.cs_list (x:NP):x.cs.toList=[.string (str x.m.path),.string (str x.m.target),.string (str x.m.leader),.int .u8 (x.m.kind.toNat:Int),.int .i64 x.m.mode,.int .i64 x.m.uid,.int .i64 x.m.gid,.int .i64 x.m.time,.slice x.p x.m.body.length x.c]:=rfl
structure BodAt (w:World) (x:NP):Prop where
 bat:BAt w x.p x.m.body.length x.m.body
 le:x.m.body.length≤x.c
 mx:x.c≤maxLen
theorem BodAt.kept {S:Nat → Prop} {w w':World} {x:NP} (h:BodAt w x) (hk:Kept S w w') (hn:0 < x.m.body.length → ∀ a,x.p=some a → ¬ S a.block):BodAt w' x:=⟨h.bat.kept hk hn,h.le,h.mx⟩
theorem BodAt.below {w w':World} {x:NP} (h:BodAt w x) (hb:Below w.heap.size w w'):BodAt w' x:=⟨h.bat.below hb,h.le,h.mx⟩
def NodesAt (w:World) (p:Option Addr) (n:Nat) (xs:List NP):Prop:=
 xs.length=n∧(∀ x ∈ xs,BodAt w x)∧(0 < n → ∃ b o,p=some ⟨b,o,none⟩∧b < w.heap.size ∧ ∀ i,i < n → ∀ j,j < 9 → w.cell? ⟨b,o+9 * i+j,none⟩=(xs.getD i zeroQ).cs[j]?)
theorem NodesAt.below {w w':World} {p:Option Addr} {n:Nat} {xs:List NP} (h:NodesAt w p n xs) (hb:Below w.heap.size w w'):NodesAt w' p n xs:=by
 refine ⟨h.1,fun x hx => (h.2.1 x hx).below hb,fun h0 => ?_⟩
 obtain ⟨b,o,rfl,hbw,hc⟩:=h.2.2 h0;refine ⟨b,o,rfl,Nat.lt_of_lt_of_le hbw hb.size,fun i hi j hj => ?_⟩
 rw [hb.cell (p:=⟨b,o+9 * i+j,none⟩) hbw];exact hc i hi j hj
def Cells9 (w:World) (b o:Nat) (y:NP):Prop:=
 w.cell? ⟨b,o,none⟩=some (.string (str y.m.path))∧w.cell? ⟨b,o+1,none⟩=some (.string (str y.m.target))∧w.cell? ⟨b,o+2,none⟩=some (.string (str y.m.leader))∧w.cell? ⟨b,o+3,none⟩=some (.int .u8 (y.m.kind.toNat:Int))∧w.cell? ⟨b,o+4,none⟩=some (.int .i64 y.m.mode) ∧
 w.cell? ⟨b,o+5,none⟩=some (.int .i64 y.m.uid)∧w.cell? ⟨b,o+6,none⟩=some (.int .i64 y.m.gid)∧w.cell? ⟨b,o+7,none⟩=some (.int .i64 y.m.time)∧w.cell? ⟨b,o+8,none⟩=some (.slice y.p y.m.body.length y.c)
theorem Cells9.below {w w':World} {b o:Nat} {y:NP} (h:Cells9 w b o y) (hb:b < w.heap.size) (hw:Below w.heap.size w w'):Cells9 w' b o y:=by
 unfold Cells9 at h ⊢;simp only [hw.cell (p:=⟨b,_,none⟩) hb];exact h
theorem NodesAt.drop {w:World} {p:Option Addr} {n:Nat} {xs:List NP} (h:NodesAt w p n xs) {k:Nat} (hk:k≤n):NodesAt w p k (xs.take k):=by
 refine ⟨by rw [List.length_take,h.1];omega,fun x hx => h.2.1 x (List.mem_of_mem_take hx),fun h0 => ?_⟩
 obtain ⟨b,o,rfl,hb,hc⟩:=h.2.2 (by omega)
 refine ⟨b,o,rfl,hb,fun i hi j hj => ?_⟩
 rw [hc i (by omega) j hj]
 congr 2
 simp [List.getD,hi]
end Go.Proofs.Ytpdpgjilalojjaa.Tre
end
section
namespace Go.Proofs.Ytpdpgjilalojjaa.Itm
open Go.ChangeShapes Go.WideShapes Go.ChangeAt Go.RowKit Base Byt Txt Bk Mem Tre Go.Lib
set_option linter.unusedVariables false
set_option maxRecDepth 100000
def Ri (W:World) (g:Nat) (ys:List IP):Prop:=∃ cur,Blk W g 24 cur∧3 * ys.length≤cur.size ∧ ∀ i,i < ys.length → ∀ j,j < 3 → cur[3 * i+j]? = (ys.getD i zeroJ).cs[j]?
theorem Ri.cells3 {W:World} {g:Nat} {ys:List IP} (h:Ri W g ys) {k:Nat} (hk:k < ys.length):Cells3 W g (k * 3) (ys.getD k zeroJ):=by
 obtain ⟨cur,hb,_,hc⟩:=h
 have key:∀ j,j < 3 → W.cell? ⟨g,k * 3+j,none⟩=(ys.getD k zeroJ).cs[j]?:=fun j hj => by
  rw [hb.cell,Nat.mul_comm,hc k hk j hj]
 exact ⟨key 0 (by omega),key 1 (by omega),key 2 (by omega)⟩
theorem Ri.items {W:World} {g:Nat} {ys:List IP} (h:Ri W g ys) (hb:∀ y ∈ ys,DatAt W y):ItemsAt W (some ⟨g,0,none⟩) ys.length ys:=by
 obtain ⟨cur,hB,_,hc⟩:=h;exact ⟨rfl,hb,fun _ => ⟨g,0,rfl,hB.lt,fun i hi j hj => by rw [Nat.zero_add,hB.cell,hc i hi j hj]⟩⟩
end Go.Proofs.Ytpdpgjilalojjaa.Itm
end
