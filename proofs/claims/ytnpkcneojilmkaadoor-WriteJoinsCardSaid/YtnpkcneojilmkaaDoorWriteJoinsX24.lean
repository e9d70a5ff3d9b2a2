/- Texts of this seat, merged: what the proof reaches. -/
import Derived.Test.YtnpkcneojilmkaaDoorWriteJoinsX10
import Derived.RangeFuncNested
import Derived.Test.YtnpkcneojilmkaaDoorWriteJoinsX20
import Derived.Test.YtnpkcneojilmkaaDoorWriteJoinsX11
import Derived.Test.YtnpkcneojilmkaaDoorWriteJoinsX8
import Derived.Laws.AppendOwn
import Derived.OwnWalk
import Derived.Laws.StructEq
import Derived.Test.YtnpkcneojilmkaaDoorWriteJoinsX12
import Derived.Test.YtnpkcneojilmkaaDoorWriteJoinsX22
import Derived.Deep.SlicePairs
import Derived.OpenShut
import Derived.SizedLaws
section
namespace Go.Proofs.YtnpkcneojilmkaaDoor.Bk
open Go.ChangeShapes Go.WideShapes Go.ChangeAt Go.RowKit Base Byt
set_option linter.unusedVariables false
def Blk (W:World) (b:Nat) (t:TypeId) (cs:Array Value):Prop:=W.heap[b]? = some (.cells cs t (0,0))
section
variable {W W':World} {b:Nat} {t:TypeId} {cs:Array Value}
theorem Blk.lt (h:Blk W b t cs):b < W.heap.size:=(Array.getElem?_eq_some_iff.1 h).1
theorem Blk.cell (h:Blk W b t cs) (i:Nat):W.cell? ⟨b,i,none⟩=cs[i]?:=by simp [World.cell?,show W.heap[b]? = _ from h]
theorem Blk.frozen (h:Blk W b t cs) (i:Nat):W.frozen? ⟨b,i,none⟩=false:=by simp [World.frozen?,show W.heap[b]? = _ from h]
theorem Blk.new (W:World) (t:TypeId) (cs:Array Value):Blk (W.alloc (.cells cs t)) W.heap.size t cs:=World.alloc_heap_new W _
theorem Blk.kept (h:Blk W b t cs) {row:Option Nat} (hg:W.grownBy W' row) (hr:∀ r,row=some r → ∃ o:Obj,W.heap[r]? = some o∧o.isCells=false):Blk W' b t cs:=
 (grownBy_keeps_cells hg hr h rfl).trans h
theorem Blk.alloc (h:Blk W b t cs) (o:Obj):Blk (W.alloc o) b t cs:=h.kept (World.grownBy_alloc W o none) (fun r e => by cases e)
theorem Blk.drewN (h:Blk W b t cs) (n:Nat):Blk (W.drewN n) b t cs:=h
theorem Blk.drew (h:Blk W b t cs):Blk W.drew b t cs:=h
theorem Blk.below (h:Blk W b t cs) {n:Nat} (hb:Below n W W') (hn:b < n):Blk W' b t cs:=(hb.block b hn).trans h
theorem Blk.keptS {S:Nat → Prop} (h:Blk W b t cs) (hk:Kept S W W') (hn:¬ S b):Blk W' b t cs:=hk.some_ h hn
theorem Blk.set (h:Blk W b t cs) (i:Nat) (v:Value) (hi:i < cs.size):Blk (W.setCell ⟨b,i,none⟩ v) b t (cs.set i v hi):=by
 obtain ⟨hl,he⟩:=Array.getElem?_eq_some_iff.1 h;unfold Blk World.setCell;refine Array.getElem?_eq_some_iff.2 ⟨by simpa using hl,?_⟩
 rw [Array.getElem_modify,if_pos rfl,he];simp [Array.setIfInBounds,hi]
theorem Blk.other (h:Blk W b t cs) {b' i:Nat} (hne:b'≠b) (v:Value):Blk (W.setCell ⟨b',i,none⟩ v) b t cs:=by
 unfold Blk;rw [Below.heap_setCell _ _ _ _ (fun e => hne (by simpa using e.symm))]
 exact h
end
end Go.Proofs.YtnpkcneojilmkaaDoor.Bk
end
section
namespace Go.Proofs.YtnpkcneojilmkaaDoor.Mem
open Go.ChangeShapes Go.WideShapes Go.ChangeAt Go.RowKit Base Byt Txt Bk Go.Lib
set_option linter.unusedVariables false
set_option maxRecDepth 100000
structure MP where
 m:MemV
 p:Option Addr
 c:Nat
def zeroM:MemV:=⟨[],[],0,0,0,0,0,[]⟩
def zeroP:MP:=⟨zeroM,none,0⟩
def memC (m:MemV) (p:Option Addr) (c:Nat):Array Value:=#[.string (str m.path),.string (str m.target),.int .u8 (m.kind.toNat:Int),.int .i64 m.mode,.int .i64 m.uid,.int .i64 m.gid,.int .i64 m.time,.slice p m.body.length c]
def MP.cs (x:MP):Array Value:=memC x.m x.p x.c
theorem MP.cs_list (x:MP):x.cs.toList=[.string (str x.m.path),.string (str x.m.target),.int .u8 (x.m.kind.toNat:Int),.int .i64 x.m.mode,.int .i64 x.m.uid,.int .i64 x.m.gid,.int .i64 x.m.time,.slice x.p x.m.body.length x.c]:=rfl
structure BodyAt (w:World) (x:MP):Prop where
 bat:BAt w x.p x.m.body.length x.m.body
 le:x.m.body.length≤x.c
 mx:x.c≤maxLen
theorem BodyAt.kept {S:Nat → Prop} {w w':World} {x:MP} (h:BodyAt w x) (hk:Kept S w w') (hn:0 < x.m.body.length → ∀ a,x.p=some a → ¬ S a.block):BodyAt w' x:=⟨h.bat.kept hk hn,h.le,h.mx⟩
theorem BodyAt.below {w w':World} {x:MP} (h:BodyAt w x) (hb:Below w.heap.size w w'):BodyAt w' x:=⟨h.bat.below hb,h.le,h.mx⟩
def flatM (xs:List MP):List Value:=xs.flatMap fun x => x.cs.toList
theorem flatM_cons (x:MP) (xs:List MP):flatM (x :: xs)=x.cs.toList++flatM xs:=rfl
theorem flatM_length (xs:List MP):(flatM xs).length=8 * xs.length:=by
 induction xs with
 | nil => rfl
 | cons x xs ih => rw [flatM_cons,List.length_append,ih,MP.cs_list,List.length_cons];simp only [List.length_cons,List.length_nil];omega
theorem flatM_app (a b:List MP):flatM (a++b)=flatM a++flatM b:=by simp [flatM]
theorem flatM_get (xs:List MP):∀ i,i < xs.length → ∀ j,j < 8 → (flatM xs)[8 * i+j]? = (xs.getD i zeroP).cs[j]?:=by
 induction xs with
 | nil => intro i h;simp at h
 | cons x xs ih =>
   intro i h j hj;rw [flatM_cons];have hl:x.cs.toList.length=8:=rfl
   cases i with
   | zero => rw [List.getElem?_append_left (by omega),show 8 * 0+j=j by omega,Array.getElem?_toList];rfl
   | succ i =>
     rw [List.getElem?_append_right (by omega),hl,show 8 * (i+1)+j - 8=8 * i+j by omega,ih i (by simpa using h) j hj]
     rfl
theorem flatM_one (xs:List MP):∀ u ∈ flatM xs,u.oneCell'=true:=by
 intro u hu;obtain ⟨x,_,hr⟩:=List.mem_flatMap.1 hu;rw [MP.cs_list] at hr;simp only [List.mem_cons,List.not_mem_nil,or_false] at hr;rcases hr with rfl | rfl | rfl | rfl | rfl | rfl | rfl | rfl<;>rfl
def MemsAt (w:World) (p:Option Addr) (n:Nat) (xs:List MP):Prop:=
 xs.length=n∧(∀ x ∈ xs,BodyAt w x)∧(0 < n → ∃ b o,p=some ⟨b,o,none⟩∧b < w.heap.size ∧ ∀ i,i < n → ∀ j,j < 8 → w.cell? ⟨b,o+8 * i+j,none⟩=(xs.getD i zeroP).cs[j]?)
theorem MemsAt.below {w w':World} {p:Option Addr} {n:Nat} {xs:List MP} (h:MemsAt w p n xs) (hb:Below w.heap.size w w'):MemsAt w' p n xs:=by
 refine ⟨h.1,fun x hx => (h.2.1 x hx).below hb,fun h0 => ?_⟩
 obtain ⟨b,o,rfl,hbw,hc⟩:=h.2.2 h0;refine ⟨b,o,rfl,Nat.lt_of_lt_of_le hbw hb.size,fun i hi j hj => ?_⟩
 rw [hb.cell (p:=⟨b,o+8 * i+j,none⟩) hbw];exact hc i hi j hj
theorem mems_nil (w:World) (p:Option Addr):MemsAt w p 0 []:=⟨rfl,fun x hx => by simp at hx,fun h => by omega⟩
theorem mems_own {w:World} {base:Nat} {e:TypeId} {v:Value} {xs:List MP} (h:w.ownsRow base e 8 v xs.length (flatM xs)) (hx:∀ x ∈ xs,BodyAt w x):∃ p c,v=.slice p xs.length c∧xs.length≤c∧c≤maxLen∧MemsAt w p xs.length xs:=by
 rcases h.2 with ⟨rfl,h0⟩ | ⟨g,cap,cur,rfl,hb,hg,hn,hc,hs,ht⟩
 ·exact ⟨none,0,by rw [h0],by omega,by decide,rfl,hx,fun h => by omega⟩
 ·refine ⟨some ⟨g,0,none⟩,cap,rfl,hn,hc,rfl,hx,fun h0 => ⟨g,0,rfl,(Array.getElem?_eq_some_iff.1 hg).1,fun i hi j hj => ?_⟩⟩
  have get:∀ j,j < 8 * xs.length → w.cell? ⟨g,j,none⟩=(flatM xs)[j]?:=fun j hj => by
   unfold World.cell?;rw [hg,← ht,List.getElem?_take,if_pos (by omega)]
   simp
  rw [Nat.zero_add,get _ (by omega)]
  exact flatM_get xs i hi j hj
theorem MemsAt.cells {w:World} {p:Option Addr} {n:Nat} {xs:List MP} (h:MemsAt w p n xs) {i:Nat} (hi:i < n):∃ b o,p=some ⟨b,o,none⟩∧b < w.heap.size∧BodyAt w (xs.getD i zeroP) ∧
 w.cell? ⟨b,o+8 * i,none⟩=some (.string (str (xs.getD i zeroP).m.path))∧w.cell? ⟨b,o+8 * i+1,none⟩=some (.string (str (xs.getD i zeroP).m.target)) ∧
 w.cell? ⟨b,o+8 * i+2,none⟩=some (.int .u8 ((xs.getD i zeroP).m.kind.toNat:Int))∧w.cell? ⟨b,o+8 * i+3,none⟩=some (.int .i64 (xs.getD i zeroP).m.mode) ∧
 w.cell? ⟨b,o+8 * i+4,none⟩=some (.int .i64 (xs.getD i zeroP).m.uid)∧w.cell? ⟨b,o+8 * i+5,none⟩=some (.int .i64 (xs.getD i zeroP).m.gid) ∧
 w.cell? ⟨b,o+8 * i+6,none⟩=some (.int .i64 (xs.getD i zeroP).m.time)∧w.cell? ⟨b,o+8 * i+7,none⟩=some (.slice (xs.getD i zeroP).p (xs.getD i zeroP).m.body.length (xs.getD i zeroP).c):=by
 obtain ⟨b,o,rfl,hbw,hc⟩:=h.2.2 (by omega)
 have hb:BodyAt w (xs.getD i zeroP):=h.2.1 _ (by
  have hl:i < xs.length:=by rw [h.1];exact hi
  rw [List.getD,List.getElem?_eq_getElem hl]
  exact List.getElem_mem hl)
 exact ⟨b,o,rfl,hbw,hb,hc i hi 0 (by omega),hc i hi 1 (by omega),hc i hi 2 (by omega),hc i hi 3 (by omega),hc i hi 4 (by omega),hc i hi 5 (by omega),hc i hi 6 (by omega),hc i hi 7 (by omega)⟩
theorem infoMem:(Tryd.prog.info? 26).map (fun i => (i.zero,i.size,i.bytes))=some (some (.agg #[.string ⟨#[]⟩,.string ⟨#[]⟩,.int .u8 0,.int .i64 0,.int .i64 0,.int .i64 0,.int .i64 0,.slice none 0 0]),8,96):=by kernel_rfl
end Go.Proofs.YtnpkcneojilmkaaDoor.Mem
end
section
namespace Go.Proofs.YtnpkcneojilmkaaDoor.Mem
open Go.ChangeShapes Go.WideShapes Go.ChangeAt Go.RowKit Go.Deep Base Byt Txt Bk Hp Head Rec Go.Lib
set_option linter.unusedVariables false
set_option maxRecDepth 100000
theorem list8 {α:Type} (l:List α) (h:l.length=8):∃ a b c d e f g i,l=[a,b,c,d,e,f,g,i]:=by
 match l,h with
 | [a,b,c,d,e,f,g,i],_ => exact ⟨a,b,c,d,e,f,g,i,rfl⟩
theorem list5 {α:Type} (l:List α) (h:l.length=5):∃ a b c d e,l=[a,b,c,d,e]:=by
 match l,h with
 | [a,b,c,d,e],_ => exact ⟨a,b,c,d,e,rfl⟩
theorem cells8:Tryd.prog.cellsOf 26=8:=by kernel_rfl
theorem cellsY:Tryd.prog.cellsOf 24=1:=by kernel_rfl
instance:Inhabited MP:=⟨zeroP⟩
def WfM (m:MemV):Prop:=(Lit.int .i64 m.mode).wf=true∧(Lit.int .i64 m.uid).wf=true∧(Lit.int .i64 m.gid).wf=true∧(Lit.int .i64 m.time).wf=true
def RoomM (x:MP):Prop:=x.m.path.length≤140737488351232∧x.m.target.length≤140737488351232∧x.c≤140737488351232
section
variable {H:Type} {enc:TypeId × Value → H} {w:World} {base:Nat} {held:Bool}
theorem mem_cells {cs:List Value} {d:DataW H} {ps:List MemPlace} {fuel:Nat} (hw:∀ z ∈ d.weights Tryd.prog 26,z≤reachBytes)
 (hf:DataW.trod enc Tryd.prog w base (fun _ => true) held fuel 26 cs=some (d,ps)) :
 ∃ x:MP,cs=x.cs.toList∧BodyAt w x∧WfM x.m∧RoomM x:=by
 obtain ⟨xs,n,rfl,hx,hl,hxl,hall⟩:=DataW.trod_struct Tryd.underlying26 hf;rw [cells8] at hl;obtain ⟨a,b,c,e,f,g,i,j,rfl⟩:=list8 cs hl;obtain ⟨x0,x1,x2,x3,x4,rfl⟩:=list5 xs (by simpa using hxl)
 have h0:=hall 0 _ rfl;have h1:=hall 1 _ rfl;have h2:=hall 2 _ rfl;have h3:=hall 3 _ rfl;have h4:=hall 4 _ rfl;simp only [List.getElem_toArray,List.getElem_cons_zero,List.getElem_cons_succ,cellsM,cellsS,cellsU,cellsY,List.drop_zero,List.drop_succ_cons,List.take_succ_cons,List.take_zero,List.getElem?_cons_zero,List.getElem?_cons_succ] at h0 h1 h2 h3 h4;obtain ⟨s0,e0,rfl,z0⟩:=DataW.trod_string Tryd.underlying9 h0;obtain ⟨s1,e1,rfl,z1⟩:=DataW.trod_string Tryd.underlying9 h1;obtain ⟨k2,e2,rfl,z2⟩:=DataW.trod_int Tryd.underlying5 h2;obtain ⟨ys,n',rfl,hy,hl',hyl,hall'⟩:=DataW.trod_struct Tryd.underlying23 h3
 obtain ⟨y0,y1,y2,y3,rfl⟩:=list4 ys (by simpa using hyl)
 have g0:=hall' 0 _ rfl;have g1:=hall' 1 _ rfl;have g2:=hall' 2 _ rfl;have g3:=hall' 3 _ rfl;simp only [List.getElem_toArray,List.getElem_cons_zero,List.getElem_cons_succ,cellsI,List.drop_zero,List.drop_succ_cons,List.take_succ_cons,List.take_zero,List.getElem?_cons_zero,List.getElem?_cons_succ] at g0 g1 g2 g3;obtain ⟨m0,f0,rfl,q0⟩:=DataW.trod_int Tryd.underlying3 g0;obtain ⟨m1,f1,rfl,q1⟩:=DataW.trod_int Tryd.underlying3 g1;obtain ⟨m2,f2,rfl,q2⟩:=DataW.trod_int Tryd.underlying3 g2;obtain ⟨m3,f3,rfl,q3⟩:=DataW.trod_int Tryd.underlying3 g3;simp only [List.cons.injEq,and_true] at e0 e1 e2 f0 f1 f2 f3
 subst e0 e1 e2 f0 f1 f2 f3;obtain ⟨k0,k1⟩:=wf8 z2;simp only [Prod.mk.injEq,List.map_cons,List.map_nil] at hx;obtain ⟨hd,_⟩:=hx
 have ew:d.weights Tryd.prog 26=DataW.weightsEach Tryd.prog [9,9,5,23,24] [.lit (.string s0.data.toList),.lit (.string s1.data.toList),.lit (.int .u8 k2),x3.1,x4.1]:=by
  rw [hd];simp only [DataW.weights,Tryd.underlying26];rfl
 have w0:=hw s0.data.toList.length (by rw [ew];simp [DataW.weightsEach,DataW.weights])
 have w1:=hw s1.data.toList.length (by rw [ew];simp [DataW.weightsEach,DataW.weights])
 have w4:∀ z ∈ x4.1.weights Tryd.prog 24,z≤reachBytes:=fun z hz => hw z (by
  rw [ew];simp only [DataW.weightsEach,List.mem_append]
  exact .inr (.inr (.inr (.inr (.inl hz)))))
 have ek:((UInt8.ofNat k2.toNat).toNat:Int)=k2:=by rw [UInt8.toNat_ofNat'];omega
 simp only [reachBytes] at w0 w1;rcases open_ints Tryd.underlying24 Tryd.underlying5 cellsU h4 with ⟨hcs,_⟩ | ⟨x,l,cp,zs,hcs,_,hlc,hmx,hz,hxx,hcell,hwz⟩
 ·simp only [List.cons.injEq,and_true] at hcs
  subst hcs;refine ⟨⟨⟨s0.data.toList,s1.data.toList,UInt8.ofNat k2.toNat,m0,m1,m2,m3,[]⟩,none,0⟩,?_,⟨fun h0 => by simp at h0,Nat.le_refl _,by show (0:Nat)≤maxLen;decide⟩,⟨q0,q1,q2,q3⟩,by omega,by omega,by show 0≤_;omega⟩
  rw [MP.cs_list,str_of,str_of,ek];rfl
 ·simp only [List.cons.injEq,and_true] at hcs
  subst hcs;simp only [if_true] at hz;have hrow:IsRow .u8 w (some x) l cp zs:=.inr ⟨_,rfl,hlc,hmx,hz,fun i hi => hcell i hi,hwz⟩
  obtain ⟨b1,b2,b3,b4⟩:=bat_of_row hrow
  have wc:=w4 (cp * 1) (by
   rw [hxx];simp only [DataW.weights,Tryd.underlying24,List.mem_cons,List.mem_append,lits,List.length_map,List.length_take,List.length_drop];refine .inl ?_
   rw [(by kernel_rfl:Tryd.prog.bytesOf 5=1)]
   congr 1
   omega)
  simp only [reachBytes] at wc;refine ⟨⟨⟨s0.data.toList,s1.data.toList,UInt8.ofNat k2.toNat,m0,m1,m2,m3,bytesOf (zs.take l)⟩,some x,cp⟩,?_,⟨?_,?_,hmx⟩,⟨q0,q1,q2,q3⟩,by omega,by omega,by show cp≤_;omega⟩
  ·rw [MP.cs_list,str_of,str_of,ek]
   simp only [b2]
  ·show BAt w (some x) (bytesOf (zs.take l)).length (bytesOf (zs.take l))
   rw [b2];exact b1
  ·show (bytesOf (zs.take l)).length≤cp
   rw [b2];exact hlc
theorem mems_open {a:Option Addr} {len cap:Nat} {d:DataW H} {ps:List MemPlace} {ts:List TypeId} {ds:List (DataW H)} (hz:(DataW.weightsEach Tryd.prog ts ds).all (· ≤ reachBytes)=true) {j:Nat} (ht:ts[j]? = some 28) (hd:ds[j]? = some d)
 (h:DataW.Trod enc Tryd.prog w base (fun _ => true) held 28 (.slice a len cap) d ps) :
 ∃ xs:List MP,MemsAt w a len xs∧len≤cap∧cap≤maxLen∧cap * 96≤140737488351232 ∧ ∀ x ∈ xs,WfM x.m∧RoomM x:=by
 obtain ⟨fuel,hf⟩:=h;rcases open_slice Tryd.underlying28 hf with ⟨hcs,_⟩ | ⟨x,l,c,m,n,D,Pl,hcs,hb,hl,hm,hmm,hdd,hx⟩
 ·simp [Value.cells] at hcs
  obtain ⟨rfl,rfl,rfl⟩:=hcs;exact ⟨[],mems_nil w none,by omega,by omega,by omega,fun x hx => by simp at hx⟩
 ·simp [Value.cells] at hcs
  obtain ⟨rfl,rfl,rfl⟩:=hcs;simp only [if_true] at hmm;subst hmm;simp only [Prod.mk.injEq] at hdd;obtain ⟨hdd,_⟩:=hdd;have hw:=List.all_eq_true.1 hz
  have key:∀ i,i < len → ∃ q:MP,w.cells? base (x.add (i * 8)) 8=some q.cs.toList∧BodyAt w q∧WfM q.m∧RoomM q:=fun i hi => by
   obtain ⟨cs',h1,h2⟩:=hx i (by omega)
   rw [cells8] at h1;have hmem:D i ∈ (List.range len).map D:=List.mem_map.2 ⟨i,List.mem_range.2 hi,rfl⟩
   obtain ⟨q,rfl,g⟩:=mem_cells (fun z hzz => by
    have hin:z ∈ d.weights Tryd.prog 28:=by
     rw [hdd];simp only [DataW.weights,Tryd.underlying28,List.mem_cons,List.mem_append];exact .inr (.inl (weights_all hmem hzz))
    exact of_decide_eq_true (hw _ (DataW.weights_mem_each ht hd _ hin))) h2
   exact ⟨q,h1,g⟩
  obtain ⟨q,hq⟩:=choose_lt key
  have hget:∀ i,i < len → ((List.range len).map q).getD i zeroP=q i:=fun i hi => by
   simp [List.getD,hi]
  have hbytes:m * 96 ∈ d.weights Tryd.prog 28:=by
   rw [hdd];simp only [DataW.weights,Tryd.underlying28,List.mem_cons,List.mem_append,List.length_map,List.length_range];refine .inl ?_
   rw [(by kernel_rfl:Tryd.prog.bytesOf 26=96)]
   congr 1
   omega
  have hby:=of_decide_eq_true (hw _ (DataW.weights_mem_each ht hd _ hbytes));simp only [reachBytes] at hby;refine ⟨(List.range len).map q,⟨by simp,fun y hy => ?_,fun h0 => ?_⟩,hl,hm,hby,fun y hy => ?_⟩
  ·obtain ⟨i,hi,rfl⟩:=List.mem_map.1 hy
   exact (hq i (List.mem_range.1 hi)).2.1
  ·obtain ⟨_,_,hc0⟩:=World.cells?_some (hq 0 h0).1
   have c0:w.cell? ((x.add (0 * 8)).add 0)=some (.string (str (q 0).m.path)):=hc0 0 (by omega)
   have hx0:x=⟨x.block,x.off,none⟩:=by
    obtain ⟨b,o,s⟩:=x
    have hs:s=none:=by
     have:w.cell? (⟨b,o,s⟩:Addr)=some (.string (str (q 0).m.path)):=by simpa [Addr.add] using c0
     exact World.cell?_spot this
    rw [hs]
   refine ⟨x.block,x.off,by rw [← hx0],?_,fun i hi j hj => ?_⟩
   ·have c0':w.cell? ((x.add (0 * 8)).add 0)=some (.string (str (q 0).m.path)):=c0
    first | rw [hx0,Lib.add_plain,Lib.add_plain] at c0' | rw [hx0,WideShapes.add_plain,WideShapes.add_plain] at c0'
    have c1':=World.block_lt_of_cell? _ _ c0';exact c1'
   ·obtain ⟨_,_,hci⟩:=World.cells?_some (hq i hi).1
    have:=hci j hj
    first | rw [hx0,Lib.add_plain,Lib.add_plain] at this | rw [hx0,WideShapes.add_plain,WideShapes.add_plain] at this
    rw [hget i hi,show x.off+8 * i+j=x.off+i * 8+j by omega,this,Array.getElem?_toList]
  ·obtain ⟨i,hi,rfl⟩:=List.mem_map.1 hy
   exact (hq i (List.mem_range.1 hi)).2.2
end
end Go.Proofs.YtnpkcneojilmkaaDoor.Mem
end
