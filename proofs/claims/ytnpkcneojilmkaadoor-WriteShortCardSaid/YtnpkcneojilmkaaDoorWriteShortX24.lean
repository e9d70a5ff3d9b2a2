/- Texts of this seat, merged: what the proof reaches. -/
import Derived.Test.YtnpkcneojilmkaaDoorWriteShortX10
import Derived.RangeFuncNested
import Derived.Test.YtnpkcneojilmkaaDoorWriteShortX20
import Derived.Test.YtnpkcneojilmkaaDoorWriteShortX11
import Derived.Test.YtnpkcneojilmkaaDoorWriteShortX8
import Derived.Laws.AppendOwn
import Derived.OwnWalk
import Derived.Laws.StructEq
import Derived.Test.YtnpkcneojilmkaaDoorWriteShortX12
import Derived.Test.YtnpkcneojilmkaaDoorWriteShortX22
import Derived.Deep.SlicePairs
import Derived.OpenShut
import Derived.SizedLaws
section
namespace Go.Proofs.YtnpkcneojilmkaaDoor.Bk
open Go.ChangeShapes Go.WideShapes Go.ChangeAt Go.RowKit Base Byt
set_option linter.unusedVariables false
def Blk (W:World) (b:Nat) (t:TypeId) (cs:Array Value):Prop:=W.heap[b]? = some (.cells cs t (0,0))
section
variable {W W':World} {b:Nat} {t:TypeId} {cs:Array Value}
theorem Blk.lt (h:Blk W b t cs):b < W.heap.size:=(Array.getElem?_eq_some_iff.1 h).1
theorem Blk.cell (h:Blk W b t cs) (i:Nat):W.cell? ⟨b,i,none⟩=cs[i]?:=by simp [World.cell?,show W.heap[b]? = _ from h]
theorem Blk.frozen (h:Blk W b t cs) (i:Nat):W.frozen? ⟨b,i,none⟩=false:=by simp [World.frozen?,show W.heap[b]? = _ from h]
theorem Blk.new (W:World) (t:TypeId) (cs:Array Value):Blk (W.alloc (.cells cs t)) W.heap.size t cs:=World.alloc_heap_new W _
theorem Blk.kept (h:Blk W b t cs) {row:Option Nat} (hg:W.grownBy W' row) (hr:∀ r,row=some r → ∃ o:Obj,W.heap[r]? = some o∧o.isCells=false):Blk W' b t cs:=
 (grownBy_keeps_cells hg hr h rfl).trans h
theorem Blk.alloc (h:Blk W b t cs) (o:Obj):Blk (W.alloc o) b t cs:=h.kept (World.grownBy_alloc W o none) (fun r e => by cases e)
theorem Blk.drewN (h:Blk W b t cs) (n:Nat):Blk (W.drewN n) b t cs:=h
theorem Blk.drew (h:Blk W b t cs):Blk W.drew b t cs:=h
theorem Blk.below (h:Blk W b t cs) {n:Nat} (hb:Below n W W') (hn:b < n):Blk W' b t cs:=(hb.block b hn).trans h
theorem Blk.keptS {S:Nat → Prop} (h:Blk W b t cs) (hk:Kept S W W') (hn:¬ S b):Blk W' b t cs:=hk.some_ h hn
theorem Blk.set (h:Blk W b t cs) (i:Nat) (v:Value) (hi:i < cs.size):Blk (W.setCell ⟨b,i,none⟩ v) b t (cs.set i v hi):=by
 obtain ⟨hl,he⟩:=Array.getElem?_eq_some_iff.1 h;unfold Blk World.setCell;refine Array.getElem?_eq_some_iff.2 ⟨by simpa using hl,?_⟩
 rw [Array.getElem_modify,if_pos rfl,he];simp [Array.setIfInBounds,hi]
theorem Blk.other (h:Blk W b t cs) {b' i:Nat} (hne:b'≠b) (v:Value):Blk (W.setCell ⟨b',i,none⟩ v) b t cs:=by
 unfold Blk;rw [Below.heap_setCell _ _ _ _ (fun e => hne (by simpa using e.symm))]
 exact h
end
end Go.Proofs.YtnpkcneojilmkaaDoor.Bk
end
section
namespace Go.Proofs.YtnpkcneojilmkaaDoor.Mem
open Go.ChangeShapes Go.WideShapes Go.ChangeAt Go.RowKit Base Byt Txt Bk Go.Lib
set_option linter.unusedVariables false
set_option maxRecDepth 100000
structure MP where
 m:MemV
 p:Option Addr
 c:Nat
def zeroM:MemV:=⟨[],[],0,0,0,0,0,[]⟩
def zeroP:MP:=⟨zeroM,none,0⟩
def memC (m:MemV) (p:Option Addr) (c:Nat):Array Value:=#[.string (str m.path),.string (str m.target),.int .u8 (m.kind.toNat:Int),.int .i64 m.mode,.int .i64 m.uid,.int .i64 m.gid,.int .i64 m.time,.slice p m.body.length c]
def MP.cs (x:MP):Array Value:=memC x.m x.p x.c
theorem MP.cs_list (x:MP):x.cs.toList=[.string (str x.m.path),.string (str x.m.target),.int .u8 (x.m.kind.toNat:Int),.int .i64 x.m.mode,.int .i64 x.m.uid,.int .i64 x.m.gid,.int .i64 x.m.time,.slice x.p x.m.body.length x.c]:=rfl
structure BodyAt (w:World) (x:MP):Prop where
 bat:BAt w x.p x.m.body.length x.m.body
 le:x.m.body.length≤x.c
 mx:x.c≤maxLen
theorem BodyAt.kept {S:Nat → Prop} {w w':World} {x:MP} (h:BodyAt w x) (hk:Kept S w w') (hn:0 < x.m.body.length → ∀ a,x.p=some a → ¬ S a.block):BodyAt w' x:=⟨h.bat.kept hk hn,h.le,h.mx⟩
theorem BodyAt.below {w w':World} {x:MP} (h:BodyAt w x) (hb:Below w.heap.size w w'):BodyAt w' x:=⟨h.bat.below hb,h.le,h.mx⟩
def MemsAt (w:World) (p:Option Addr) (n:Nat) (xs:List MP):Prop:=
 xs.length=n∧(∀ x ∈ xs,BodyAt w x)∧(0 < n → ∃ b o,p=some ⟨b,o,none⟩∧b < w.heap.size ∧ ∀ i,i < n → ∀ j,j < 8 → w.cell? ⟨b,o+8 * i+j,none⟩=(xs.getD i zeroP).cs[j]?)
theorem MemsAt.below {w w':World} {p:Option Addr} {n:Nat} {xs:List MP} (h:MemsAt w p n xs) (hb:Below w.heap.size w w'):MemsAt w' p n xs:=by
 refine ⟨h.1,fun x hx => (h.2.1 x hx).below hb,fun h0 => ?_⟩
 obtain ⟨b,o,rfl,hbw,hc⟩:=h.2.2 h0;refine ⟨b,o,rfl,Nat.lt_of_lt_of_le hbw hb.size,fun i hi j hj => ?_⟩
 rw [hb.cell (p:=⟨b,o+8 * i+j,none⟩) hbw];exact hc i hi j hj
theorem MemsAt.cells {w:World} {p:Option Addr} {n:Nat} {xs:List MP} (h:MemsAt w p n xs) {i:Nat} (hi:i < n):∃ b o,p=some ⟨b,o,none⟩∧b < w.heap.size∧BodyAt w (xs.getD i zeroP) ∧
 w.cell? ⟨b,o+8 * i,none⟩=some (.string (str (xs.getD i zeroP).m.path))∧w.cell? ⟨b,o+8 * i+1,none⟩=some (.string (str (xs.getD i zeroP).m.target)) ∧
 w.cell? ⟨b,o+8 * i+2,none⟩=some (.int .u8 ((xs.getD i zeroP).m.kind.toNat:Int))∧w.cell? ⟨b,o+8 * i+3,none⟩=some (.int .i64 (xs.getD i zeroP).m.mode) ∧
 w.cell? ⟨b,o+8 * i+4,none⟩=some (.int .i64 (xs.getD i zeroP).m.uid)∧w.cell? ⟨b,o+8 * i+5,none⟩=some (.int .i64 (xs.getD i zeroP).m.gid) ∧
 w.cell? ⟨b,o+8 * i+6,none⟩=some (.int .i64 (xs.getD i zeroP).m.time)∧w.cell? ⟨b,o+8 * i+7,none⟩=some (.slice (xs.getD i zeroP).p (xs.getD i zeroP).m.body.length (xs.getD i zeroP).c):=by
 obtain ⟨b,o,rfl,hbw,hc⟩:=h.2.2 (by omega)
 have hb:BodyAt w (xs.getD i zeroP):=h.2.1 _ (by
  have hl:i < xs.length:=by rw [h.1];exact hi
  rw [List.getD,List.getElem?_eq_getElem hl]
  exact List.getElem_mem hl)
 exact ⟨b,o,rfl,hbw,hb,hc i hi 0 (by omega),hc i hi 1 (by omega),hc i hi 2 (by omega),hc i hi 3 (by omega),hc i hi 4 (by omega),hc i hi 5 (by omega),hc i hi 6 (by omega),hc i hi 7 (by omega)⟩
end Go.Proofs.YtnpkcneojilmkaaDoor.Mem
end
section
namespace Go.Proofs.YtnpkcneojilmkaaDoor.Mem
open Go.ChangeShapes Go.WideShapes Go.ChangeAt Go.RowKit Go.Deep Base Byt Txt Bk Hp Head Rec Go.Lib
set_option linter.unusedVariables false
set_option maxRecDepth 100000
theorem list8 {α:Type} (l:List α) (h:l.length=8):∃ a b c d e f g i,l=[a,b,c,d,e,f,g,i]:=by
 match l,h with
 | [a,b,c,d,e,f,g,i],_ => exact ⟨a,b,c,d,e,f,g,i,rfl⟩
theorem list5 {α:Type} (l:List α) (h:l.length=5):∃ a b c d e,l=[a,b,c,d,e]:=by
 match l,h with
 | [a,b,c,d,e],_ => exact ⟨a,b,c,d,e,rfl⟩
theorem cells8:Tryd.prog.cellsOf 26=8:=by kernel_rfl
theorem cellsY:Tryd.prog.cellsOf 24=1:=by kernel_rfl
instance:Inhabited MP:=⟨zeroP⟩
def WfM (m:MemV):Prop:=(Lit.int .i64 m.mode).wf=true∧(Lit.int .i64 m.uid).wf=true∧(Lit.int .i64 m.gid).wf=true∧(Lit.int .i64 m.time).wf=true
def RoomM (x:MP):Prop:=x.m.path.length≤140737488351232∧x.m.target.length≤140737488351232∧x.c≤140737488351232
section
variable {H:Type} {enc:TypeId × Value → H} {w:World} {base:Nat} {held:Bool}
theorem mem_cells {cs:List Value} {d:DataW H} {ps:List MemPlace} {fuel:Nat} (hw:∀ z ∈ d.weights Tryd.prog 26,z≤reachBytes)
 (hf:DataW.trod enc Tryd.prog w base (fun _ => true) held fuel 26 cs=some (d,ps)) :
 ∃ x:MP,cs=x.cs.toList∧BodyAt w x∧WfM x.m∧RoomM x:=by
 obtain ⟨xs,n,rfl,hx,hl,hxl,hall⟩:=DataW.trod_struct Tryd.underlying26 hf;rw [cells8] at hl;obtain ⟨a,b,c,e,f,g,i,j,rfl⟩:=list8 cs hl;obtain ⟨x0,x1,x2,x3,x4,rfl⟩:=list5 xs (by simpa using hxl)
 have h0:=hall 0 _ rfl;have h1:=hall 1 _ rfl;have h2:=hall 2 _ rfl;have h3:=hall 3 _ rfl;have h4:=hall 4 _ rfl;simp only [List.getElem_toArray,List.getElem_cons_zero,List.getElem_cons_succ,cellsM,cellsS,cellsU,cellsY,List.drop_zero,List.drop_succ_cons,List.take_succ_cons,List.take_zero,List.getElem?_cons_zero,List.getElem?_cons_succ] at h0 h1 h2 h3 h4;obtain ⟨s0,e0,rfl,z0⟩:=DataW.trod_string Tryd.underlying9 h0;obtain ⟨s1,e1,rfl,z1⟩:=DataW.trod_string Tryd.underlying9 h1;obtain ⟨k2,e2,rfl,z2⟩:=DataW.trod_int Tryd.underlying5 h2;obtain ⟨ys,n',rfl,hy,hl',hyl,hall'⟩:=DataW.trod_struct Tryd.underlying23 h3
 obtain ⟨y0,y1,y2,y3,rfl⟩:=list4 ys (by simpa using hyl)
 have g0:=hall' 0 _ rfl;have g1:=hall' 1 _ rfl;have g2:=hall' 2 _ rfl;have g3:=hall' 3 _ rfl;simp only [List.getElem_toArray,List.getElem_cons_zero,List.getElem_cons_succ,cellsI,List.drop_zero,List.drop_succ_cons,List.take_succ_cons,List.take_zero,List.getElem?_cons_zero,List.getElem?_cons_succ] at g0 g1 g2 g3;obtain ⟨m0,f0,rfl,q0⟩:=DataW.trod_int Tryd.underlying3 g0;obtain ⟨m1,f1,rfl,q1⟩:=DataW.trod_int Tryd.underlying3 g1;obtain ⟨m2,f2,rfl,q2⟩:=DataW.trod_int Tryd.underlying3 g2;obtain ⟨m3,f3,rfl,q3⟩:=DataW.trod_int Tryd.underlying3 g3;simp only [List.cons.injEq,and_true] at e0 e1 e2 f0 f1 f2 f3
 subst e0 e1 e2 f0 f1 f2 f3;obtain ⟨k0,k1⟩:=wf8 z2;simp only [Prod.mk.injEq,List.map_cons,List.map_nil] at hx;obtain ⟨hd,_⟩:=hx
 have ew:d.weights Tryd.prog 26=DataW.weightsEach Tryd.prog [9,9,5,23,24] [.lit (.string s0.data.toList),.lit (.string s1.data.toList),.lit (.int .u8 k2),x3.1,x4.1]:=by
  rw [hd];simp only [DataW.weights,Tryd.underlying26];rfl
 have w0:=hw s0.data.toList.length (by rw [ew];simp [DataW.weightsEach,DataW.weights])
 have w1:=hw s1.data.toList.length (by rw [ew];simp [DataW.weightsEach,DataW.weights])
 have w4:∀ z ∈ x4.1.weights Tryd.prog 24,z≤reachBytes:=fun z hz => hw z (by
  rw [ew];simp only [DataW.weightsEach,List.mem_append]
  exact .inr (.inr (.inr (.inr (.inl hz)))))
 have ek:((UInt8.ofNat k2.toNat).toNat:Int)=k2:=by rw [UInt8.toNat_ofNat'];omega
 simp only [reachBytes] at w0 w1;rcases open_ints Tryd.underlying24 Tryd.underlying5 cellsU h4 with ⟨hcs,_⟩ | ⟨x,l,cp,zs,hcs,_,hlc,hmx,hz,hxx,hcell,hwz⟩
 ·simp only [List.cons.injEq,and_true] at hcs
  subst hcs;refine ⟨⟨⟨s0.data.toList,s1.data.toList,UInt8.ofNat k2.toNat,m0,m1,m2,m3,[]⟩,none,0⟩,?_,⟨fun h0 => by simp at h0,Nat.le_refl _,by show (0:Nat)≤maxLen;decide⟩,⟨q0,q1,q2,q3⟩,by omega,by omega,by show 0≤_;omega⟩
  rw [MP.cs_list,str_of,str_of,ek];rfl
 ·simp only [List.cons.injEq,and_true] at hcs
  subst hcs;simp only [if_true] at hz;have hrow:IsRow .u8 w (some x) l cp zs:=.inr ⟨_,rfl,hlc,hmx,hz,fun i hi => hcell i hi,hwz⟩
  obtain ⟨b1,b2,b3,b4⟩:=bat_of_row hrow
  have wc:=w4 (cp * 1) (by
   rw [hxx];simp only [DataW.weights,Tryd.underlying24,List.mem_cons,List.mem_append,lits,List.length_map,List.length_take,List.length_drop];refine .inl ?_
   rw [(by kernel_rfl:Tryd.prog.bytesOf 5=1)]
   congr 1
   omega)
  simp only [reachBytes] at wc;refine ⟨⟨⟨s0.data.toList,s1.data.toList,UInt8.ofNat k2.toNat,m0,m1,m2,m3,bytesOf (zs.take l)⟩,some x,cp⟩,?_,⟨?_,?_,hmx⟩,⟨q0,q1,q2,q3⟩,by omega,by omega,by show cp≤_;omega⟩
  ·rw [MP.cs_list,str_of,str_of,ek]
   simp only [b2]
  ·show BAt w (some x) (bytesOf (zs.take l)).length (bytesOf (zs.take l))
   rw [b2];exact b1
  ·show (bytesOf (zs.take l)).length≤cp
   rw [b2];exact hlc
theorem mem_open {v:Value} {d:DataW H} {ps:List MemPlace} {ts:List TypeId} {ds:List (DataW H)} (hz:(DataW.weightsEach Tryd.prog ts ds).all (· ≤ reachBytes)=true) {j:Nat} (ht:ts[j]? = some 26) (hd:ds[j]? = some d)
 (h:DataW.Trod enc Tryd.prog w base (fun _ => true) held 26 v d ps) :
 ∃ x:MP,v=.agg x.cs∧BodyAt w x∧WfM x.m∧RoomM x:=by
 obtain ⟨fuel,hf⟩:=h;have hw:=List.all_eq_true.1 hz;obtain ⟨x,h1,h2⟩:=mem_cells (fun z hzz => of_decide_eq_true (hw _ (DataW.weights_mem_each ht hd _ hzz))) hf
 refine ⟨x,?_,h2⟩
 obtain ⟨cs,rfl⟩:∃ cs,v=.agg cs:=by
  have hl:=congrArg List.length h1;rw [MP.cs_list] at hl
  cases v<;>first | exact ⟨_,rfl⟩ | (simp [Value.cells] at hl)
 congr 1
 apply Array.toList_inj.1;exact h1
end
end Go.Proofs.YtnpkcneojilmkaaDoor.Mem
end
