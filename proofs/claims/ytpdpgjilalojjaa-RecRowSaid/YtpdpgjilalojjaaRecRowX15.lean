/- Texts of this seat, merged: what the proof reaches. -/
import Derived.Test.YtpdpgjilalojjaaRecRowX4
import Derived.RangeFuncNested
import Derived.Test.YtpdpgjilalojjaaRecRowX14
import Derived.Test.YtpdpgjilalojjaaRecRowX5
import Derived.Test.YtpdpgjilalojjaaRecRowX3
import Derived.Laws.AppendOwn
import Derived.OwnWalk
import Derived.Laws.StructEq
import Derived.Test.YtpdpgjilalojjaaRecRowX6
import Derived.Test.YtpdpgjilalojjaaRecRowX13
import Derived.Deep.SlicePairs
import Derived.OpenShut
import Derived.SizedLaws
namespace Go.Proofs.Ytpdpgjilalojjaa
namespace Base
end Base
namespace Bk
end Bk
namespace Block
end Block
namespace Byt
end Byt
namespace Head
end Head
namespace Hp
end Hp
namespace Mem
end Mem
namespace Rec
end Rec
namespace Tre
end Tre
namespace Txt
end Txt
end Go.Proofs.Ytpdpgjilalojjaa
section
namespace Go.Proofs.Ytpdpgjilalojjaa.Bk
open Go.ChangeShapes Go.WideShapes Go.ChangeAt Go.RowKit Base Byt
set_option linter.unusedVariables false
def Blk (W:World) (b:Nat) (t:TypeId) (cs:Array Value):Prop:=W.heap[b]? = some (.cells cs t (0,0))
section
variable {W W':World} {b:Nat} {t:TypeId} {cs:Array Value}
theorem Blk.lt (h:Blk W b t cs):b < W.heap.size:=(Array.getElem?_eq_some_iff.1 h).1
theorem Blk.cell (h:Blk W b t cs) (i:Nat):W.cell? ⟨b,i,none⟩=cs[i]?:=by simp [World.cell?,show W.heap[b]? = _ from h]
theorem Blk.frozen (h:Blk W b t cs) (i:Nat):W.frozen? ⟨b,i,none⟩=false:=by simp [World.frozen?,show W.heap[b]? = _ from h]
theorem Blk.new (W:World) (t:TypeId) (cs:Array Value):Blk (W.alloc (.cells cs t)) W.heap.size t cs:=World.alloc_heap_new W _
theorem Blk.kept (h:Blk W b t cs) {row:Option Nat} (hg:W.grownBy W' row) (hr:∀ r,row=some r → ∃ o:Obj,W.heap[r]? = some o∧o.isCells=false):Blk W' b t cs:=
 (grownBy_keeps_cells hg hr h rfl).trans h
theorem Blk.alloc (h:Blk W b t cs) (o:Obj):Blk (W.alloc o) b t cs:=h.kept (World.grownBy_alloc W o none) (fun r e => by cases e)
theorem Blk.drewN (h:Blk W b t cs) (n:Nat):Blk (W.drewN n) b t cs:=h
theorem Blk.drew (h:Blk W b t cs):Blk W.drew b t cs:=h
theorem Blk.below (h:Blk W b t cs) {n:Nat} (hb:Below n W W') (hn:b < n):Blk W' b t cs:=(hb.block b hn).trans h
theorem Blk.keptS {S:Nat → Prop} (h:Blk W b t cs) (hk:Kept S W W') (hn:¬ S b):Blk W' b t cs:=hk.some_ h hn
theorem Blk.set (h:Blk W b t cs) (i:Nat) (v:Value) (hi:i < cs.size):Blk (W.setCell ⟨b,i,none⟩ v) b t (cs.set i v hi):=by
 obtain ⟨hl,he⟩:=Array.getElem?_eq_some_iff.1 h;unfold Blk World.setCell;refine Array.getElem?_eq_some_iff.2 ⟨by simpa using hl,?_⟩
 rw [Array.getElem_modify,if_pos rfl,he];simp [Array.setIfInBounds,hi]
end
end Go.Proofs.Ytpdpgjilalojjaa.Bk
end
section
namespace Go.Proofs.Ytpdpgjilalojjaa.Mem
open Go.ChangeShapes Go.WideShapes Go.ChangeAt Go.RowKit Base Byt Txt Bk Go.Lib
set_option linter.unusedVariables false
set_option maxRecDepth 100000
structure MP where
 m:MemV
 p:Option Addr
 c:Nat
def zeroM:MemV:=⟨[],[],0,0,0,0,0,[]⟩
def zeroP:MP:=⟨zeroM,none,0⟩
def memC (m:MemV) (p:Option Addr) (c:Nat):Array Value:=#[.string (str m.path),.string (str m.target),.int .u8 (m.kind.toNat:Int),.int .i64 m.mode,.int .i64 m.uid,.int .i64 m.gid,.int .i64 m.time,.slice p m.body.length c]
def MP.cs (x:MP):Array Value:=memC x.m x.p x.c
theorem MP.cs_list (x:MP):x.cs.toList=[.string (str x.m.path),.string (str x.m.target),.int .u8 (x.m.kind.toNat:Int),.int .i64 x.m.mode,.int .i64 x.m.uid,.int .i64 x.m.gid,.int .i64 x.m.time,.slice x.p x.m.body.length x.c]:=rfl
structure BodyAt (w:World) (x:MP):Prop where
 bat:BAt w x.p x.m.body.length x.m.body
 le:x.m.body.length≤x.c
 mx:x.c≤maxLen
theorem BodyAt.kept {S:Nat → Prop} {w w':World} {x:MP} (h:BodyAt w x) (hk:Kept S w w') (hn:0 < x.m.body.length → ∀ a,x.p=some a → ¬ S a.block):BodyAt w' x:=⟨h.bat.kept hk hn,h.le,h.mx⟩
theorem BodyAt.below {w w':World} {x:MP} (h:BodyAt w x) (hb:Below w.heap.size w w'):BodyAt w' x:=⟨h.bat.below hb,h.le,h.mx⟩
def MemsAt (w:World) (p:Option Addr) (n:Nat) (xs:List MP):Prop:=
 xs.length=n∧(∀ x ∈ xs,BodyAt w x)∧(0 < n → ∃ b o,p=some ⟨b,o,none⟩∧b < w.heap.size ∧ ∀ i,i < n → ∀ j,j < 8 → w.cell? ⟨b,o+8 * i+j,none⟩=(xs.getD i zeroP).cs[j]?)
theorem MemsAt.below {w w':World} {p:Option Addr} {n:Nat} {xs:List MP} (h:MemsAt w p n xs) (hb:Below w.heap.size w w'):MemsAt w' p n xs:=by
 refine ⟨h.1,fun x hx => (h.2.1 x hx).below hb,fun h0 => ?_⟩
 obtain ⟨b,o,rfl,hbw,hc⟩:=h.2.2 h0;refine ⟨b,o,rfl,Nat.lt_of_lt_of_le hbw hb.size,fun i hi j hj => ?_⟩
 rw [hb.cell (p:=⟨b,o+8 * i+j,none⟩) hbw];exact hc i hi j hj
theorem MemsAt.cells {w:World} {p:Option Addr} {n:Nat} {xs:List MP} (h:MemsAt w p n xs) {i:Nat} (hi:i < n):∃ b o,p=some ⟨b,o,none⟩∧b < w.heap.size∧BodyAt w (xs.getD i zeroP) ∧
 w.cell? ⟨b,o+8 * i,none⟩=some (.string (str (xs.getD i zeroP).m.path))∧w.cell? ⟨b,o+8 * i+1,none⟩=some (.string (str (xs.getD i zeroP).m.target)) ∧
 w.cell? ⟨b,o+8 * i+2,none⟩=some (.int .u8 ((xs.getD i zeroP).m.kind.toNat:Int))∧w.cell? ⟨b,o+8 * i+3,none⟩=some (.int .i64 (xs.getD i zeroP).m.mode) ∧
 w.cell? ⟨b,o+8 * i+4,none⟩=some (.int .i64 (xs.getD i zeroP).m.uid)∧w.cell? ⟨b,o+8 * i+5,none⟩=some (.int .i64 (xs.getD i zeroP).m.gid) ∧
 w.cell? ⟨b,o+8 * i+6,none⟩=some (.int .i64 (xs.getD i zeroP).m.time)∧w.cell? ⟨b,o+8 * i+7,none⟩=some (.slice (xs.getD i zeroP).p (xs.getD i zeroP).m.body.length (xs.getD i zeroP).c):=by
 obtain ⟨b,o,rfl,hbw,hc⟩:=h.2.2 (by omega)
 have hb:BodyAt w (xs.getD i zeroP):=h.2.1 _ (by
  have hl:i < xs.length:=by rw [h.1];exact hi
  rw [List.getD,List.getElem?_eq_getElem hl]
  exact List.getElem_mem hl)
 exact ⟨b,o,rfl,hbw,hb,hc i hi 0 (by omega),hc i hi 1 (by omega),hc i hi 2 (by omega),hc i hi 3 (by omega),hc i hi 4 (by omega),hc i hi 5 (by omega),hc i hi 6 (by omega),hc i hi 7 (by omega)⟩
theorem run_append_newS {P:Program} {w:World} (base:Nat) (t ty e:TypeId) (i:TypeInfo) (z:Value) (size bytes:Nat) (ht:P.underlying t=some (.slice e)) (hi:P.info? e=some i) (hz:i.zero=some z)
 (hsize:i.size=size) (hby:i.bytes=bytes) (hzs:z.cells.size=size) (hsz:0 < size)
 (v:Value) (n:Nat) (xs:List Value) (hown:w.ownsRow base e size v n xs)
 (a:Addr) (m c:Nat) (news:List Value) (hl:news.length=m * size) (hnews:∀ j u,news[j]? = some u → w.cell? (a.add j)=some u) (h1:∀ u ∈ news,u.oneCell'=true)
 (h63:n+m≤maxLen) (hbytes:(n+m) * bytes≤140737488355328) (hbase:base≤w.heap.size) :
 ∃ v' w',(Builtin.append_ #[t,t] ty #[v,.slice (some a) m c]).run P w=.ok v' w'∧w'.ownsRow base e size v' (n+m) (xs++news)∧w.grownBy w' v.ownBlock∧NewOr w v v':=by
 obtain ⟨v',w',hr,h2,h3,h4⟩:=run_append_own (P:=P) w base t ty e i z size bytes ht hi hz hsize hby hzs hsz v n xs hown a m c news hl hnews h1 h63 hbytes hbase;refine ⟨v',w',hr,h2,h3,?_⟩;have hown':=hown;rcases hown.2 with ⟨rfl,rfl⟩ | ⟨g,cap,cur,rfl,hbg,hg,hnc,hcm,hcs,htake⟩
 ·have hx:xs=[]:=List.eq_nil_of_length_eq_zero (by simpa using hown.1)
  subst hx;obtain ⟨v2,w2,hr2,h22,_,_⟩:=run_append_own (P:=P) w w.heap.size t ty e i z size bytes ht hi hz hsize hby hzs hsz _ 0 [] (World.ownsRow_nil w w.heap.size e size) a m c news hl hnews h1 h63 hbytes (Nat.le_refl _);rw [hr] at hr2
  cases hr2
  exact fun k hk => Or.inr (h22.lt k hk).1
 ·by_cases hroom:n+m≤cap
  ·obtain ⟨w2,hr2,_,_⟩:=run_append_own_spare (P:=P) w base t ty e i size ht hi hsize g n cap xs hown' a m c news hl hnews h1 hroom
   rw [hr] at hr2
   cases hr2
   exact fun k hk => Or.inl hk
  ·have holds:∀ j u,xs[j]? = some u → w.cell? ((⟨g,0,none⟩:Addr).add j)=some u:=hown'.cells (g:=g) rfl
   have hr2:=run_append_grow (P:=P) w t ty e i z ht hi hz ⟨g,0,none⟩ n cap xs (by rw [hsize];exact hown'.1) holds a m c news (by rw [hsize];exact hl) hnews (by omega) (by unfold maxLen at h63;omega) (growslice_fits (by omega) (by rw [hby];exact hbytes))
   rw [hr] at hr2
   cases hr2
   exact fun k hk => Or.inr (by simp [Value.ownBlock] at hk;omega)
end Go.Proofs.Ytpdpgjilalojjaa.Mem
end
section
namespace Go.Proofs.Ytpdpgjilalojjaa.Itm
open Go.ChangeShapes Go.WideShapes Go.ChangeAt Go.RowKit Base Byt Txt Bk Mem Tre Go.Lib
set_option linter.unusedVariables false
set_option maxRecDepth 100000
structure IP where
 m:ItemV
 p:Option Addr
 c:Nat
def zeroJ:IP:=⟨zeroI,none,0⟩
def itmC (m:ItemV) (p:Option Addr) (c:Nat):Array Value:=#[.string (str m.key),.int .i64 m.seq,.slice p m.data.length c]
def IP.cs (x:IP):Array Value:=itmC x.m x.p x.c
theorem IP.cs_list (x:IP):x.cs.toList=[.string (str x.m.key),.int .i64 x.m.seq,.slice x.p x.m.data.length x.c]:=rfl
structure DatAt (w:World) (x:IP):Prop where
 bat:BAt w x.p x.m.data.length x.m.data
 le:x.m.data.length≤x.c
 mx:x.c≤maxLen
theorem DatAt.kept {S:Nat → Prop} {w w':World} {x:IP} (h:DatAt w x) (hk:Kept S w w') (hn:0 < x.m.data.length → ∀ a,x.p=some a → ¬ S a.block):DatAt w' x:=⟨h.bat.kept hk hn,h.le,h.mx⟩
theorem DatAt.below {w w':World} {x:IP} (h:DatAt w x) (hb:Below w.heap.size w w'):DatAt w' x:=⟨h.bat.below hb,h.le,h.mx⟩
def flatJ (xs:List IP):List Value:=xs.flatMap fun x => x.cs.toList
def ItemsAt (w:World) (p:Option Addr) (n:Nat) (xs:List IP):Prop:=
 xs.length=n∧(∀ x ∈ xs,DatAt w x)∧(0 < n → ∃ b o,p=some ⟨b,o,none⟩∧b < w.heap.size ∧ ∀ i,i < n → ∀ j,j < 3 → w.cell? ⟨b,o+3 * i+j,none⟩=(xs.getD i zeroJ).cs[j]?)
theorem ItemsAt.below {w w':World} {p:Option Addr} {n:Nat} {xs:List IP} (h:ItemsAt w p n xs) (hb:Below w.heap.size w w'):ItemsAt w' p n xs:=by
 refine ⟨h.1,fun x hx => (h.2.1 x hx).below hb,fun h0 => ?_⟩
 obtain ⟨b,o,rfl,hbw,hc⟩:=h.2.2 h0;refine ⟨b,o,rfl,Nat.lt_of_lt_of_le hbw hb.size,fun i hi j hj => ?_⟩
 rw [hb.cell (p:=⟨b,o+3 * i+j,none⟩) hbw];exact hc i hi j hj
theorem items_nil (w:World) (p:Option Addr):ItemsAt w p 0 []:=⟨rfl,fun x hx => by simp at hx,fun h => by omega⟩
def Cells3 (w:World) (b o:Nat) (y:IP):Prop:=
 w.cell? ⟨b,o,none⟩=some (.string (str y.m.key))∧w.cell? ⟨b,o+1,none⟩=some (.int .i64 y.m.seq)∧w.cell? ⟨b,o+2,none⟩=some (.slice y.p y.m.data.length y.c)
theorem Cells3.below {w w':World} {b o:Nat} {y:IP} (h:Cells3 w b o y) (hb:b < w.heap.size) (hw:Below w.heap.size w w'):Cells3 w' b o y:=by
 unfold Cells3 at h ⊢;simp only [hw.cell (p:=⟨b,_,none⟩) hb];exact h
theorem ItemsAt.cells3 {w:World} {p:Option Addr} {n:Nat} {xs:List IP} (h:ItemsAt w p n xs) {i:Nat} (hi:i < n):∃ b o,p=some ⟨b,o,none⟩∧b < w.heap.size∧DatAt w (xs.getD i zeroJ)∧Cells3 w b (o+i * 3) (xs.getD i zeroJ):=by
 obtain ⟨b,o,rfl,hbw,hc⟩:=h.2.2 (by omega)
 have hb:DatAt w (xs.getD i zeroJ):=h.2.1 _ (by
  have hl:i < xs.length:=by rw [h.1];exact hi
  rw [List.getD,List.getElem?_eq_getElem hl]
  exact List.getElem_mem hl)
 rw [Nat.mul_comm i 3];exact ⟨b,o,rfl,hbw,hb,hc i hi 0 (by omega),hc i hi 1 (by omega),hc i hi 2 (by omega)⟩
theorem takeJ_succ (xs:List IP) (k:Nat) (h:k < xs.length):(xs.take (k+1)).map IP.m=(xs.take k).map IP.m++[(xs.getD k zeroJ).m]:=by
 rw [List.take_succ_eq_append_getElem h,List.map_append,List.getD,List.getElem?_eq_getElem h];rfl
theorem getJ_mem (xs:List IP) (k:Nat) (h:k < xs.length):xs.getD k zeroJ ∈ xs:=by
 rw [List.getD,List.getElem?_eq_getElem h];exact List.getElem_mem h
theorem getJ_map (xs:List IP) (k:Nat):(xs.map IP.m).getD k zeroI=(xs.getD k zeroJ).m:=by
 rw [List.getD,List.getD,List.getElem?_map]
 cases xs[k]?<;>rfl
theorem ItemsAt.drop {w:World} {p:Option Addr} {n:Nat} {xs:List IP} (h:ItemsAt w p n xs) {k:Nat} (hk:k≤n):ItemsAt w p k (xs.take k):=by
 refine ⟨by rw [List.length_take,h.1];omega,fun x hx => h.2.1 x (List.mem_of_mem_take hx),fun h0 => ?_⟩
 obtain ⟨b,o,rfl,hb,hc⟩:=h.2.2 (by omega)
 refine ⟨b,o,rfl,hb,fun i hi j hj => ?_⟩
 rw [hc i (by omega) j hj]
 congr 2
 simp [List.getD,hi]
end Go.Proofs.Ytpdpgjilalojjaa.Itm
end
section
namespace Go.Proofs.Ytpdpgjilalojjaa.Mem
open Go.ChangeShapes Go.WideShapes Go.ChangeAt Go.RowKit Go.Deep Base Byt Txt Bk Hp Head Rec Go.Lib
set_option linter.unusedVariables false
set_option maxRecDepth 100000
theorem cellsY:Try.prog.cellsOf 22=1:=by kernel_rfl
instance:Inhabited MP:=⟨zeroP⟩
section
variable {H:Type} {enc:TypeId × Value → H} {w:World} {base:Nat} {held:Bool}
end
end Go.Proofs.Ytpdpgjilalojjaa.Mem
end
section
namespace Go.Proofs.Ytpdpgjilalojjaa.Itm
open Go.ChangeShapes Go.WideShapes Go.ChangeAt Go.RowKit Go.Deep Base Byt Txt Bk Hp Head Rec Mem Tre Go.Lib
set_option linter.unusedVariables false
set_option maxRecDepth 100000
theorem list3 {α:Type} (l:List α) (h:l.length=3):∃ a b c,l=[a,b,c]:=by
 match l,h with
 | [a,b,c],_ => exact ⟨a,b,c,rfl⟩
theorem cellsJ3:Try.prog.cellsOf 24=3:=by kernel_rfl
instance:Inhabited IP:=⟨zeroJ⟩
def WfI (m:ItemV):Prop:=(Lit.int .i64 m.seq).wf=true
def RoomI (x:IP):Prop:=x.m.key.length≤140737488351232∧x.c≤140737488351232
section
variable {H:Type} {enc:TypeId × Value → H} {w:World} {base:Nat} {held:Bool}
theorem item_cells {cs:List Value} {d:DataW H} {ps:List MemPlace} {fuel:Nat} (hw:∀ z ∈ d.weights Try.prog 24,z≤reachBytes)
 (hf:DataW.trod enc Try.prog w base (fun _ => true) held fuel 24 cs=some (d,ps)) :
 ∃ x:IP,cs=x.cs.toList∧DatAt w x∧WfI x.m∧RoomI x:=by
 obtain ⟨xs,n,rfl,hx,hl,hxl,hall⟩:=DataW.trod_struct Try.underlying24 hf;rw [cellsJ3] at hl;obtain ⟨a,b,c,rfl⟩:=list3 cs hl;obtain ⟨x0,x1,x4,rfl⟩:=list3 xs (by simpa using hxl)
 have h0:=hall 0 _ rfl;have h1:=hall 1 _ rfl;have h4:=hall 2 _ rfl;simp only [List.getElem_toArray,List.getElem_cons_zero,List.getElem_cons_succ,cellsS,cellsI,cellsY,List.drop_zero,List.drop_succ_cons,List.take_succ_cons,List.take_zero,List.getElem?_cons_zero,List.getElem?_cons_succ] at h0 h1 h4;obtain ⟨s0,e0,rfl,z0⟩:=DataW.trod_string Try.underlying9 h0;obtain ⟨m0,f0,rfl,q0⟩:=DataW.trod_int Try.underlying3 h1;simp only [List.cons.injEq,and_true] at e0 f0;subst e0 f0;simp only [Prod.mk.injEq,List.map_cons,List.map_nil] at hx;obtain ⟨hd,_⟩:=hx
 have ew:d.weights Try.prog 24=DataW.weightsEach Try.prog [9,3,22] [.lit (.string s0.data.toList),.lit (.int .i64 m0),x4.1]:=by
  rw [hd];simp only [DataW.weights,Try.underlying24];rfl
 have w0:=hw s0.data.toList.length (by rw [ew];simp [DataW.weightsEach,DataW.weights])
 have w4:∀ z ∈ x4.1.weights Try.prog 22,z≤reachBytes:=fun z hz => hw z (by
  rw [ew];simp only [DataW.weightsEach,List.mem_append]
  exact .inr (.inr (.inl hz)))
 simp only [reachBytes] at w0;rcases open_ints Try.underlying22 Try.underlying5 cellsU h4 with ⟨hcs,_⟩ | ⟨x,l,cp,zs,hcs,_,hlc,hmx,hz,hxx,hcell,hwz⟩
 ·simp only [List.cons.injEq,and_true] at hcs
  subst hcs;refine ⟨⟨⟨s0.data.toList,m0,[]⟩,none,0⟩,?_,⟨fun h0 => by simp at h0,Nat.le_refl _,by show (0:Nat)≤maxLen;decide⟩,q0,by omega,by show 0≤_;omega⟩
  rw [IP.cs_list,str_of];rfl
 ·simp only [List.cons.injEq,and_true] at hcs
  subst hcs;simp only [if_true] at hz;have hrow:IsRow .u8 w (some x) l cp zs:=.inr ⟨_,rfl,hlc,hmx,hz,fun i hi => hcell i hi,hwz⟩
  obtain ⟨b1,b2,b3,b4⟩:=bat_of_row hrow
  have wc:=w4 (cp * 1) (by
   rw [hxx];simp only [DataW.weights,Try.underlying22,List.mem_cons,List.mem_append,lits,List.length_map,List.length_take,List.length_drop];refine .inl ?_
   rw [(by kernel_rfl:Try.prog.bytesOf 5=1)]
   congr 1
   omega)
  simp only [reachBytes] at wc;refine ⟨⟨⟨s0.data.toList,m0,bytesOf (zs.take l)⟩,some x,cp⟩,?_,⟨?_,?_,hmx⟩,q0,by omega,by show cp≤_;omega⟩
  ·rw [IP.cs_list,str_of]
   simp only [b2]
  ·show BAt w (some x) (bytesOf (zs.take l)).length (bytesOf (zs.take l))
   rw [b2];exact b1
  ·show (bytesOf (zs.take l)).length≤cp
   rw [b2];exact hlc
theorem items_open {a:Option Addr} {len cap:Nat} {d:DataW H} {ps:List MemPlace} {ts:List TypeId} {ds:List (DataW H)} (hz:(DataW.weightsEach Try.prog ts ds).all (· ≤ reachBytes)=true) {j:Nat} (ht:ts[j]? = some 26) (hd:ds[j]? = some d)
 (h:DataW.Trod enc Try.prog w base (fun _ => true) held 26 (.slice a len cap) d ps) :
 ∃ xs:List IP,ItemsAt w a len xs∧len≤cap∧cap≤maxLen∧cap * 48≤140737488351232 ∧ ∀ x ∈ xs,WfI x.m∧RoomI x:=by
 obtain ⟨fuel,hf⟩:=h;rcases open_slice Try.underlying26 hf with ⟨hcs,_⟩ | ⟨x,l,c,m,n,D,Pl,hcs,hb,hl,hm,hmm,hdd,hx⟩
 ·simp [Value.cells] at hcs
  obtain ⟨rfl,rfl,rfl⟩:=hcs;exact ⟨[],items_nil w none,by omega,by omega,by omega,fun x hx => by simp at hx⟩
 ·simp [Value.cells] at hcs
  obtain ⟨rfl,rfl,rfl⟩:=hcs;simp only [if_true] at hmm;subst hmm;simp only [Prod.mk.injEq] at hdd;obtain ⟨hdd,_⟩:=hdd;have hw:=List.all_eq_true.1 hz
  have key:∀ i,i < len → ∃ q:IP,w.cells? base (x.add (i * 3)) 3=some q.cs.toList∧DatAt w q∧WfI q.m∧RoomI q:=fun i hi => by
   obtain ⟨cs',h1,h2⟩:=hx i (by omega)
   rw [cellsJ3] at h1;have hmem:D i ∈ (List.range len).map D:=List.mem_map.2 ⟨i,List.mem_range.2 hi,rfl⟩
   obtain ⟨q,rfl,g⟩:=item_cells (fun z hzz => by
    have hin:z ∈ d.weights Try.prog 26:=by
     rw [hdd];simp only [DataW.weights,Try.underlying26,List.mem_cons,List.mem_append];exact .inr (.inl (weights_all hmem hzz))
    exact of_decide_eq_true (hw _ (DataW.weights_mem_each ht hd _ hin))) h2
   exact ⟨q,h1,g⟩
  obtain ⟨q,hq⟩:=choose_lt key
  have hget:∀ i,i < len → ((List.range len).map q).getD i zeroJ=q i:=fun i hi => by
   simp [List.getD,hi]
  have hbytes:m * 48 ∈ d.weights Try.prog 26:=by
   rw [hdd];simp only [DataW.weights,Try.underlying26,List.mem_cons,List.mem_append,List.length_map,List.length_range];refine .inl ?_
   rw [(by kernel_rfl:Try.prog.bytesOf 24=48)]
   congr 1
   omega
  have hby:=of_decide_eq_true (hw _ (DataW.weights_mem_each ht hd _ hbytes));simp only [reachBytes] at hby;refine ⟨(List.range len).map q,⟨by simp,fun y hy => ?_,fun h0 => ?_⟩,hl,hm,hby,fun y hy => ?_⟩
  ·obtain ⟨i,hi,rfl⟩:=List.mem_map.1 hy
   exact (hq i (List.mem_range.1 hi)).2.1
  ·obtain ⟨_,_,hc0⟩:=World.cells?_some (hq 0 h0).1
   have c0:w.cell? ((x.add (0 * 3)).add 0)=some (.string (str (q 0).m.key)):=hc0 0 (by omega)
   have hx0:x=⟨x.block,x.off,none⟩:=by
    obtain ⟨b,o,s⟩:=x
    have hs:s=none:=by
     have:w.cell? (⟨b,o,s⟩:Addr)=some (.string (str (q 0).m.key)):=by simpa [Addr.add] using c0
     exact World.cell?_spot this
    rw [hs]
   refine ⟨x.block,x.off,by rw [← hx0],?_,fun i hi j hj => ?_⟩
   ·have c0':w.cell? ((x.add (0 * 3)).add 0)=some (.string (str (q 0).m.key)):=c0
    first | rw [hx0,Lib.add_plain,Lib.add_plain] at c0' | rw [hx0,WideShapes.add_plain,WideShapes.add_plain] at c0'
    have c1':=World.block_lt_of_cell? _ _ c0';exact c1'
   ·obtain ⟨_,_,hci⟩:=World.cells?_some (hq i hi).1
    have:=hci j hj
    first | rw [hx0,Lib.add_plain,Lib.add_plain] at this | rw [hx0,WideShapes.add_plain,WideShapes.add_plain] at this
    rw [hget i hi,show x.off+3 * i+j=x.off+i * 3+j by omega,this,Array.getElem?_toList]
  ·obtain ⟨i,hi,rfl⟩:=List.mem_map.1 hy
   exact (hq i (List.mem_range.1 hi)).2.2
end
end Go.Proofs.Ytpdpgjilalojjaa.Itm
end
section
namespace Go.Proofs.Ytpdpgjilalojjaa.Mem
open Go.ChangeShapes Go.WideShapes Go.ChangeAt Go.RowKit Base Byt Txt Bk Go.Lib
set_option linter.unusedVariables false
set_option maxRecDepth 100000
theorem bat_lt {w:World} {p:Option Addr} {m:Nat} {bs:List UInt8} (h:BAt w p m bs) (h0:0 < m) {y:Addr} (hy:p=some y):y.block < w.heap.size:=by
 obtain ⟨b,o,he,hb,_⟩:=h.cell h0;rw [hy] at he
 cases he
 exact hb
def Cells8 (w:World) (b o:Nat) (y:MP):Prop:=
 w.cell? ⟨b,o,none⟩=some (.string (str y.m.path))∧w.cell? ⟨b,o+1,none⟩=some (.string (str y.m.target))∧w.cell? ⟨b,o+2,none⟩=some (.int .u8 (y.m.kind.toNat:Int))∧w.cell? ⟨b,o+3,none⟩=some (.int .i64 y.m.mode) ∧
 w.cell? ⟨b,o+4,none⟩=some (.int .i64 y.m.uid)∧w.cell? ⟨b,o+5,none⟩=some (.int .i64 y.m.gid)∧w.cell? ⟨b,o+6,none⟩=some (.int .i64 y.m.time)∧w.cell? ⟨b,o+7,none⟩=some (.slice y.p y.m.body.length y.c)
theorem Cells8.below {w w':World} {b o:Nat} {y:MP} (h:Cells8 w b o y) (hb:b < w.heap.size) (hw:Below w.heap.size w w'):Cells8 w' b o y:=by
 unfold Cells8 at h ⊢;simp only [hw.cell (p:=⟨b,_,none⟩) hb];exact h
end Go.Proofs.Ytpdpgjilalojjaa.Mem
end
section
namespace Go.Proofs.Ytpdpgjilalojjaa.Itm
open Go.ChangeShapes Go.WideShapes Go.ChangeAt Go.RowKit Base Byt Txt Bk Block Rec Mem Tre Go.Lib
set_option linter.unusedVariables false
def rowI (l:List ItemV):List UInt8:=l.flatMap bytesI
theorem getI_eq {l:List ItemV} {i:Nat} (h:i < l.length):l.getD i zeroI=l[i]:=by rw [List.getD,List.getElem?_eq_getElem h];rfl
theorem rowI_succ {l:List ItemV} {i:Nat} (h:i < l.length):rowI (l.take (i+1))=rowI (l.take i)++bytesI (l.getD i zeroI):=by
 unfold rowI;rw [List.take_succ_eq_append_getElem h,List.flatMap_append,getI_eq h];simp
theorem rowI_split (l:List ItemV) (i:Nat):rowI l=rowI (l.take i)++rowI (l.drop i):=by
 unfold rowI;rw [← List.flatMap_append,List.take_append_drop]
theorem rowI_le (l:List ItemV) (i:Nat):(rowI (l.take i)).length≤(rowI l).length:=by
 rw [rowI_split l i,List.length_append];omega
theorem rowI_drop {l:List ItemV} {i:Nat} (h:i < l.length):(rowI l).drop (rowI (l.take i)).length=bytesI (l.getD i zeroI)++rowI (l.drop (i+1)):=by
 conv => lhs;rw [rowI_split l i]
 rw [List.drop_append_of_le_length (Nat.le_refl _),List.drop_of_length_le (Nat.le_refl _),List.nil_append,List.drop_eq_getElem_cons h,getI_eq h];rfl
def endL (l:List ItemV) (i:Nat):Nat:=(rowI (l.take (i+1))).length
theorem endL_eq {l:List ItemV} {i:Nat} (h:i < l.length):endL l i=(rowI (l.take i)).length+(bytesI (l.getD i zeroI)).length:=by
 unfold endL;rw [rowI_succ h,List.length_append]
def endsI (l:List ItemV) (k:Nat):List Value:=(List.range k).map fun i => .int .i64 ((endL l i:Nat):Int)
theorem endsI_succ (l:List ItemV) (k:Nat):endsI l (k+1)=endsI l k++[.int .i64 ((endL l k:Nat):Int)]:=by
 unfold endsI;rw [List.range_succ,List.map_append];rfl
theorem endsI_get {l:List ItemV} {k i:Nat} (h:i < k):(endsI l k)[i]? = some (.int .i64 ((endL l i:Nat):Int)):=by
 unfold endsI;rw [List.getElem?_map,List.getElem?_range h];rfl
theorem row_get {l:List ItemV} {i K:Nat} (hm:∀ x ∈ l,mayI x=true) (hi:i < l.length) (hat:(rowI (l.take i)).length≤K) :
 beginsI (((rowI l).drop (rowI (l.take i)).length).take (K - (rowI (l.take i)).length))=if endL l i≤K then (l.getD i zeroI,(bytesI (l.getD i zeroI)).length,true) else (zeroI,0,false):=by
 have hx:mayI (l.getD i zeroI)=true:=by rw [getI_eq hi];exact hm _ (List.getElem_mem hi)
 rw [rowI_drop hi];have he:=endL_eq hi
 by_cases h:endL l i≤K
 ·rw [if_pos h,List.take_append,List.take_of_length_le (by omega)]
  exact begins_bytes hx _
 ·rw [if_neg h]
  exact begins_cut hx _ (by omega)
theorem append_int {w:World} {ops:Array Oper} {rest:List Oper} {o:Oper} {a:Act} {Q:Exit → Act → World → Prop} (hgd:o.guard=none) (s x:Operand)
 (ho:o.op=.call { callee:=.builtin .append,args:=#[s,x],argTypes:=#[41,41] })
 (base:Nat) (v:Value) (n:Nat) (xs:List Value) (hs:a.eval s=v) (hown:w.ownsRow base 3 1 v n xs)
 (b c:Nat) (z:Int) (hx:a.eval x=.slice (some ⟨b,0,none⟩) 1 c) (hb:Blk w b 3 #[.int .i64 z]) (hsum:n≤1000000) (hbase:base≤w.heap.size)
 (h:∀ v' w',w'.ownsRow base 3 1 v' (n+1) (xs++[.int .i64 z]) → w.grownBy w' v.ownBlock → wpList Try.prog ops Q rest (a.put o.dst v') w'):wpList Try.prog ops Q (o :: rest) a w:=by
 obtain ⟨i0,hi,hz0,hz1,hz2⟩:=info_parts infoI64
 obtain ⟨v',w',hr,h2,h3,h4⟩:=run_append_newS (P:=Try.prog) base 41 o.type 3 i0 _ 1 8 Try.underlying41 hi hz0 hz1 hz2 rfl (by decide) v n xs hown ⟨b,0,none⟩ 1 c [.int .i64 z] rfl (by
  intro j u hj;rw [WideShapes.add_plain,Nat.zero_add,hb.cell,← Array.getElem?_toList]
  exact hj) (fun u hu => by rw [List.mem_singleton.1 hu];rfl) (by unfold maxLen;omega) (by omega) hbase
 refine wpList_plain hgd fun K hK => ?_
 unfold Oper.wp;simp [execOp,ho,resolve,invoke,builtin,hs,hx,hr,Result.andThen];exact hK _ _ (h v' w' h2 h3)
theorem rows_two {w:World} {B B':Nat} {v v':Value} {n n':Nat} {xs ys:List Value} (h:w.ownsRow B 5 1 v n xs) (h':w.ownsRow B' 3 1 v' n' ys):∀ k,v.ownBlock=some k → v'.ownBlock≠some k:=fun k hk hk' => by
 rcases h.2 with ⟨rfl,_⟩ | ⟨g,cap,cur,rfl,_,hg,_⟩
 ·cases hk
 ·rcases h'.2 with ⟨rfl,_⟩ | ⟨g',cap',cur',rfl,_,hg',_⟩
  ·cases hk'
  ·cases hk
   cases hk'
   rw [hg] at hg'
   cases hg'
end Go.Proofs.Ytpdpgjilalojjaa.Itm
end
