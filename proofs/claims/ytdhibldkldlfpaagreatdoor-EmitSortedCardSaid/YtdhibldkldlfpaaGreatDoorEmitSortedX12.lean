/- Merged. -/
import Derived.Test.YtdhibldkldlfpaaGreatDoorEmitSortedX11
import Derived.Laws.AppendOwnNone
namespace Go.Proofs.YtdhibldkldlfpaaGreatDoor
set_option linter.unusedVariables false
set_option maxHeartbeats 1600000
open Go.ChangeShapes Go.WideShapes Go.ChangeAt Go.RowKit Base
variable {a:Act} {ops:Array Oper} {bs:List UInt8} {B i n t:Nat} {v:Value}
namespace bM
open Go.Lib
variable {Q:Exit→Act→World→Prop} {zs:List Int} {rest:List Oper} {xs:List Value} {k base size:Nat} {o:Oper} {p:Option Addr} {P:Program} {e:TypeId}
def nums (bs:List UInt8):List Int:=bs.map fun x=>(x.toNat:Int)
theorem fA (bs:List UInt8):(nums bs).length=bs.length:=by simp[nums]
theorem Fl (bs:List UInt8):∀x∈nums bs,0≤x∧x<256:=fun x A=>by
 obtain⟨y,_,rfl⟩:=List.mem_map.1 A;have:=y.toNat_lt;omega
theorem iC (bs:List UInt8):bytesOf (nums bs)=bs:=by
 unfold bytesOf nums;rw[List.map_map]
 conv=>rhs;rw[←List.map_id bs]
 apply List.map_congr_left;intro x _;simp
theorem o6 (bs:List UInt8) (j:Nat) (hj:j<bs.length):((nums bs).map (Value.int .u8))[j]? =some (.int .u8 (bs.getD j 0).toNat):=by
 simp[nums,List.getD,hj]
theorem kE {w:World} (uF:o.guard=none) (s x:Operand) (t:TypeId)
 (ho:o.op=.call {callee:=.builtin .append,args:=#[s,x],argTypes:=#[t,t]})
 (base:Nat) (e:TypeId) (i:TypeInfo) (ht:P.underlying t=some (.slice e)) (hi:P.info? e=some i) (hz:i.zero=some (.int .u8 0)) (eU:i.size=1) (rp:i.bytes=1)
 (v:Value) (n:Nat) (xs:List Int) (hs:a.eval s=v) (bt:w.ownsRow base e 1 v n (xs.map (Value.int .u8)))
 (p:Option Addr) (m c:Nat) (bs:List UInt8) (hx:a.eval x=.slice p m c) (hb:cD w p m bs) (hl:bs.length=m) (lT:n+m≤140737488351232) (fx:base≤w.heap.size)
 (h:∀v' w',w'.ownsRow base e 1 v' (n+m) ((xs++nums bs).map (Value.int .u8))→w.grownBy w' v.ownBlock→wpList P ops Q rest (a.put o.dst v') w'):wpList P ops Q (o::rest) a w:=by
 rcases p with _|ad
 ·have hm:m=0:=by
   rcases Nat.eq_zero_or_pos m with h0|h0
   ·exact h0
   ·obtain⟨_,_,he,_⟩:=hb h0
    cases he
  subst hm;obtain rfl:bs=[]:=List.eq_nil_of_length_eq_zero hl
  have B:(Builtin.append_ #[t,t] o.type #[v,.slice none 0 c]).run P w=.ok v w:=by
   rcases bt.2 with⟨rfl,rfl⟩|⟨g,cap,cur,rfl,_,_,Hc,_⟩
   ·simp[Builtin.append_,run_underlying ht,sizeOf,typeInfo,hi,Builtin.lenOf,Builtin.firstCells]
   ·simp[Builtin.append_,run_underlying ht,sizeOf,typeInfo,hi,Builtin.lenOf,Builtin.firstCells,Hc,storeCells]
  refine wpList_plain uF fun K E=>?_
  unfold Oper.wp;simp[execOp,ho,resolve,invoke,builtin,hs,hx,B,Result.andThen];exact E _ _ (h v w (by simpa [nums]using bt) (World.grownBy.refl w _))
 ·refine wpList_append_own w uF s x t ho base e i (.int .u8 0) 1 1 ht hi hz eU rp rfl (by decide) v n (xs.map (Value.int .u8)) hs bt ad m c ((nums bs).map (Value.int .u8)) hx (by rw[Qi,fA,hl];omega) ?_ (ints_oneCell .u8 _) (by unfold maxLen;omega) (by omega) fx ?_
  ·intro j u A
   have G:j<m:=by
    have:=(List.getElem?_eq_some_iff.1 A).1;rw[Qi,fA,hl]at this;exact this
   obtain⟨b,off,he,hc⟩:=hb (by omega)
   cases he
   rw[o6 bs j (by omega)]at A
   cases A
   rw[WideShapes.add_plain];exact hc j G
  ·intro v' w' h1 D _
   rw[←List.map_append]at h1;exact h v' w' h1 D
structure Kept (S:Nat→Prop) (w w':World):Prop where
 os:w'.os=w.os
 tape:w'.tape=w.tape
 output:w'.output=w.output
 size:w.heap.size≤w'.heap.size
 block:∀k,k<w.heap.size→¬S k→w'.heap[k]? =w.heap[k]?
def ag:Nat→Prop:=fun _=>False
def aA (g:Nat):Nat→Prop:=fun k=>k=g
def qf (g:Nat) (o:Option Nat):Nat→Prop:=fun k=>k=g∨some k=o
section
variable {S T:Nat→Prop} {w w' Bh:World}
theorem Kept.refl (S:Nat→Prop) (w:World):Kept S w w:=⟨rfl,rfl,rfl,Qk _,fun _ _ _=>rfl⟩
theorem Kept.trans (h:Kept S w w') (k:Kept S w' Bh):Kept S w Bh:=
 ⟨k.os.trans h.os,k.tape.trans h.tape,k.output.trans h.output,Nat.le_trans h.size k.size,fun i hi A=>(k.block i (Nat.lt_of_lt_of_le hi h.size) A).trans (h.block i hi A)⟩
theorem Kept.mono (h:Kept S w w') (hs:∀k,S k→T k):Kept T w w':=⟨h.os,h.tape,h.output,h.size,fun k hk B=>h.block k hk fun A=>B (hs k A)⟩
theorem Kept.dX (h:Kept ag w w') (S:Nat→Prop):Kept S w w':=h.mono fun _ A=>A.elim
theorem Kept.drewN (h:Kept S w w') (n:Nat):Kept S w (w'.drewN n):=h.trans ⟨rfl,rfl,rfl,Qk _,fun _ _ _=>rfl⟩
theorem Kept.drew (h:Kept S w w'):Kept S w w'.drew:=h.trans ⟨rfl,rfl,rfl,Qk _,fun _ _ _=>rfl⟩
theorem Kept.alloc (h:Kept S w w') (o:Obj):Kept S w (w'.alloc o):=h.trans ⟨rfl,rfl,rfl,by simp,fun k hk _=>Below.heap_alloc _ _ _ hk⟩
theorem Kept.setCell (h:Kept S w w') {a:Addr} (ha:w.heap.size≤a.block∨S a.block) (v:Value):Kept S w (w'.setCell a v):=
 ⟨h.os,h.tape,h.output,by simpa using h.size,fun k hk A=>by
  rw[Below.heap_setCell _ _ _ _ (fun e=>by rcases ha with ha|ha;· omega
                                           ·exact A (e▸ha))]
  exact h.block k hk A⟩
theorem Kept.below (h:Kept S w w') (hB:B≤w.heap.size) (hs:∀k,S k→B≤k):Below B w w':=
 ⟨h.os,h.tape,h.output,h.size,fun k hk=>h.block k (by omega) fun A=>by have:=hs k A;omega⟩
theorem Kept.aR (h:Below w.heap.size w w') (S:Nat→Prop):Kept S w w':=⟨h.os,h.tape,h.output,h.size,fun k hk _=>h.block k hk⟩
theorem Kept.grown (h:Kept S w w') {row:Option Nat} (hg:w'.grownBy Bh row) (hr:∀k,row=some k→w.heap.size≤k∨S k):Kept S w Bh:=
 ⟨hg.os.trans h.os,hg.tape.trans h.tape,hg.output.trans h.output,Nat.le_trans h.size hg.size,fun k hk A=>by
  rw[hg.block k (Nat.lt_of_lt_of_le hk h.size) (fun e=>by rcases hr k e.symm with h1|h1;· omega
                                                          ·exact A h1)]
  exact h.block k hk A⟩
theorem Kept.then (h:Kept S w w') (k:Kept T w' Bh) (hs:∀i,T i→w.heap.size≤i∨S i):Kept S w Bh:=
 ⟨k.os.trans h.os,k.tape.trans h.tape,k.output.trans h.output,Nat.le_trans h.size k.size,fun i hi A=>by
  rw[k.block i (Nat.lt_of_lt_of_le hi h.size) (fun B=>by rcases hs i B with h1|h1;· omega
                                                         ·exact A h1)]
  exact h.block i hi A⟩
theorem Kept.at (h:Kept S w w') (hk:k<w.heap.size) (hn:¬S k):w'.heap[k]? =w.heap[k]? :=h.block k hk hn
theorem Kept.some_ (h:Kept S w w') {o:Obj} (hk:w.heap[k]? =some o) (hn:¬S k):w'.heap[k]? =some o:=
 (h.block k (Array.getElem?_eq_some_iff.1 hk).1 hn).trans hk
theorem cD.kept (h:cD w p n bs) (hk:Kept S w w') (hn:0<n→∀a,p=some a→¬S a.block):cD w' p n bs:=fun A=>by
 obtain⟨b,o,rfl,B,hc⟩:=h.cell A;exact⟨b,o,rfl,fun i hi=>by rw[World.cell?_of_block (hk.block b B (hn A _ rfl))];exact hc i hi⟩
theorem bQ (h:w.ownsRow base e size v n xs) (hk:Kept S w w') (hn:∀k,v.ownBlock=some k→¬S k):w'.ownsRow base e size v n xs:=
 ⟨h.1,h.2.imp id fun⟨g,cap,cur,h1,h2,h3,h4⟩=>⟨g,cap,cur,h1,h2,hk.some_ h3 (hn g (by rw[h1];rfl)),h4⟩⟩
def FL (w:World) (p:Option Addr) (n:Nat) (zs:List Int):Prop:=
 0<n→∃b o,p=some ⟨b,o,none⟩∧b<w.heap.size∧∀i,i<n→w.cell? ⟨b,o+i,none⟩=some (.int .i64 (zs.getD i 0))
theorem FL.kept (h:FL w p n zs) (hk:Kept S w w') (hn:0<n→∀a,p=some a→¬S a.block):FL w' p n zs:=fun A=>by
 obtain⟨b,o,rfl,B,hc⟩:=h A;exact⟨b,o,rfl,Nat.lt_of_lt_of_le B hk.size,fun i hi=>by rw[World.cell?_of_block (hk.block b B (hn A _ rfl))];exact hc i hi⟩
theorem CY (h:w.ownsRow base e 1 v n (zs.map (Value.int .i64))):
 ∃p c,v=.slice p n c∧n≤c∧c≤maxLen∧FL w p n zs∧zs.length=n∧(∀a,p=some a→base≤a.block∧v.ownBlock=some a.block):=by
 have hl:zs.length=n:=by have:=h.1;simpa using this
 have A:=h.lt;have B:=h;rcases h.2 with⟨rfl,rfl⟩|⟨g,cap,cur,rfl,hg,_,h1,h2,_⟩
 ·exact⟨none,0,rfl,by omega,by omega,fun h=>absurd h (by omega),hl,fun a h=>by cases h⟩
 ·refine⟨some ⟨g,0,none⟩,cap,rfl,h1,h2,fun D=>⟨g,0,rfl,(A g rfl).2,fun i hi=>?_⟩,hl,fun a h=>by cases h;exact⟨hg,rfl⟩⟩
  rw[Nat.zero_add,B.cellAt i (by omega),List.getElem?_map,Qd (by omega)];simp[List.getD,hl,hi]
theorem wK (h:w.ownsRow base e size v n xs) {m c:Nat} (hv:v=.slice p m c):∀a,p=some a→base≤a.block∧a.block<w.heap.size∧v.ownBlock=some a.block:=fun a A=>by
 subst A hv;exact⟨(h.lt _ rfl).1,(h.lt _ rfl).2,rfl⟩
theorem zk {w:World} (uF:o.guard=none) (s x:Operand) (t:TypeId)
 (ho:o.op=.call {callee:=.builtin .append,args:=#[s,x],argTypes:=#[t,t]})
 (base:Nat) (e:TypeId) (i:TypeInfo) (ht:P.underlying t=some (.slice e)) (hi:P.info? e=some i) (hz:i.zero=some (.int .i64 0)) (eU:i.size=1) (rp:i.bytes=8)
 (v:Value) (n:Nat) (xs:List Int) (hs:a.eval s=v) (bt:w.ownsRow base e 1 v n (xs.map (Value.int .i64)))
 (p:Option Addr) (m c:Nat) (zs:List Int) (hx:a.eval x=.slice p m c) (hb:FL w p m zs) (hl:zs.length=m) (lT:(n+m)*8≤140737488351232) (fx:base≤w.heap.size)
 (h:∀v' w',w'.ownsRow base e 1 v' (n+m) ((xs++zs).map (Value.int .i64))→w.grownBy w' v.ownBlock→wpList P ops Q rest (a.put o.dst v') w'):wpList P ops Q (o::rest) a w:=by
 rcases p with _|ad
 ·have hm:m=0:=by
   rcases Nat.eq_zero_or_pos m with h0|h0
   ·exact h0
   ·obtain⟨_,_,he,_⟩:=hb h0
    cases he
  subst hm;obtain rfl:zs=[]:=List.eq_nil_of_length_eq_zero hl
  have B:(Builtin.append_ #[t,t] o.type #[v,.slice none 0 c]).run P w=.ok v w:=by
   rcases bt.2 with⟨rfl,rfl⟩|⟨g,cap,cur,rfl,_,_,Hc,_⟩
   ·simp[Builtin.append_,run_underlying ht,sizeOf,typeInfo,hi,Builtin.lenOf,Builtin.firstCells]
   ·simp[Builtin.append_,run_underlying ht,sizeOf,typeInfo,hi,Builtin.lenOf,Builtin.firstCells,Hc,storeCells]
  refine wpList_plain uF fun K E=>?_
  unfold Oper.wp;simp[execOp,ho,resolve,invoke,builtin,hs,hx,B,Result.andThen];exact E _ _ (h v w (by simpa using bt) (World.grownBy.refl w _))
 ·refine wpList_append_own w uF s x t ho base e i (.int .i64 0) 1 8 ht hi hz eU rp rfl (by decide) v n (xs.map (Value.int .i64)) hs bt ad m c (zs.map (Value.int .i64)) hx (by rw[Qi,hl];omega) ?_ (ints_oneCell .i64 _) (by unfold maxLen;omega) (by omega) fx ?_
  ·intro j u A
   have G:j<m:=by
    have:=(List.getElem?_eq_some_iff.1 A).1;rw[Qi,hl]at this;exact this
   obtain⟨b,off,he,_,hc⟩:=hb (by omega)
   cases he
   rw[List.getElem?_map,Qd (by omega)]at A
   cases A
   rw[WideShapes.add_plain,hc j G];simp[List.getD,Qd (show j<zs.length by omega)]
  ·intro v' w' h1 D _
   rw[←List.map_append]at h1;exact h v' w' h1 D
end
theorem lU:(Tryz.prog.info? 5).map (fun i=>(i.zero,i.size,i.bytes))=some (some (.int .u8 0),1,1):=by kernel_rfl
theorem N9:(Tryz.prog.info? 3).map (fun i=>(i.zero,i.size,i.bytes))=some (some (.int .i64 0),1,8):=by kernel_rfl
end bM
namespace Mk
open Go.MapKept bM cr
variable {z:Value}
structure ij (α:Type) where
 enc:α→Value
 kind:TypeDesc
 isKey:∀a,IsKey kind (enc a)
 inj:∀a b,enc a=enc b→a=b
 same:∀a,Instr.sameBits 10000 (enc a) (enc a)=true
def im:ij (List UInt8) where
 enc l:=.string (str l)
 kind:=.string
 isKey _:=trivial
 inj a b h:=by injection h with h;exact str_inj h
 same a:=by
  rw[Instr.sameBits]
  simpa using OM a a
section
variable {α:Type} (K:ij α)
def cH (w:World) (B:Nat) (f:α→Option Value):Prop:=
 ∃es clock,w.heap[B]? =some (.map es clock)∧Stamped es clock∧(∀e∈es.toList,∃k,e.key=K.enc k∧f k=some e.val)∧(∀k v,f k=some v→∃e∈es.toList,e.key=K.enc k)
variable {K} {w w':World} {B:Nat} {f:α→Option Value}
theorem cH.lt (h:cH K w B f):B<w.heap.size:=by
 obtain⟨es,clock,A,_⟩:=h;exact(Array.getElem?_eq_some_iff.1 A).1
theorem cH.kept {S:Nat→Prop} (h:cH K w B f) (hk:Kept S w w') (hB:¬S B):cH K w' B f:=by
 obtain⟨es,clock,A,h⟩:=h;exact⟨es,clock,hk.some_ A hB,h⟩
theorem iU (K:ij α) (w:World):cH K (w.alloc (.map #[] 0)) w.heap.size (fun _=>none):=
 ⟨#[],0,(MapKept.heap_alloc w _).1,stamped_empty 0,by simp,by simp⟩
theorem jg {o o':Obj} (hb:w.heap[B]? =some o):Kept (aA B) w (Go.ChangeMaps.setBlock w B o'):=
 ⟨rfl,rfl,rfl,by simp[Go.ChangeMaps.setBlock],fun k hk A=>(MapKept.heap_set hb).2 k A⟩
variable {P:Program} {t k e:TypeId}
theorem cH.put [DecidableEq α] (h:cH K w B f) (ht:P.underlying t=some (.map k e)) (hk:P.underlying k=some K.kind) (x:α) (v:Value):
 ∃w',(Instr.mapUpdate t (.map (some B)) (K.enc x) v).run P w=.ok () w'∧cH K w' B (fun y=>if y=x then some v else f y)∧Kept (aA B) w w'∧w'.heap.size=w.heap.size:=by
 obtain⟨es,clock,D,hs,h1,T⟩:=h;rcases findNow_spec (K.isKey x) es.toList 0 (fun y hy=>by obtain⟨j,A,_⟩:=h1 y hy;rw[A];exact K.isKey j)with⟨dR,cX⟩|⟨j,e0,dR,h3,h4⟩
 ·refine⟨Go.ChangeMaps.setBlock w B (.map (es.push {key:=K.enc x,val:=v,born:=clock}) (clock+1)),?_,⟨_,_,(MapKept.heap_set D).1,stamped_push hs cX,?_,?_⟩,jg D,by simp[Go.ChangeMaps.setBlock]⟩
  ·simp[Instr.mapUpdate,run_underlying ht,MapKept.run_getObj_map D,run_checkKey hk (K.isKey x),run_findKey hk dR,MapKept.run_setObj_map _ D,Result.andThen,Go.ChangeMaps.setBlock]
  ·intro y hy
   simp only[Array.toList_push,List.mem_append,List.mem_singleton]at hy;rcases hy with hy|rfl
   ·obtain⟨j,A,hf⟩:=h1 y hy
    refine⟨j,A,?_⟩;show(if j=x then some v else f j)=_;rw[if_neg (fun e=>cX y hy (by rw[A,e]))];exact hf
   ·exact⟨x,rfl,by show(if x=x then some v else f x)=_;rw[if_pos rfl]⟩
  ·intro j u A
   simp only[Array.toList_push,List.mem_append,List.mem_singleton];have A:(if j=x then some v else f j)=some u:=A
   by_cases O:j=x
   ·exact⟨_,Or.inr rfl,by rw[O]⟩
   ·rw[if_neg O]at A
    obtain⟨y,hy,hk⟩:=T j u A;exact⟨y,Or.inl hy,hk⟩
 ·rw[Nat.zero_add]at dR
  have J:es[j]? =some e0:=by simpa using h3
  have V:∀w:World,(Instr.keyThatStays (((es[j]?).map (·.key)).getD (K.enc x)) (K.enc x)).run P w=.ok (K.enc x) w:=fun w=>by
   rw[J];simp only[Option.map_some,Option.getD_some,h4,Instr.keyThatStays,K.same x,if_true];rfl
  refine⟨Go.ChangeMaps.setBlock w B (.map (es.modify j fun e=>{e with key:=K.enc x,val:=v}) clock),?_,⟨_,_,(MapKept.heap_set D).1,?_,?_,?_⟩,jg D,by simp[Go.ChangeMaps.setBlock]⟩
  ·simp only[Instr.mapUpdate,Sem.run_bind,run_underlying ht,MapKept.run_getObj_map D,run_checkKey hk (K.isKey x),run_findKey hk dR,V,Result.andThen]
   simp[MapKept.run_setObj_map _ D,Go.ChangeMaps.setBlock]
  ·exact stamped_modify hs j _ (fun _ _=>rfl) fun e he H=>by
    rw[J]at H
    cases H
    exact h4.symm
  ·intro y hy
   obtain⟨i,hi⟩:=List.getElem?_of_mem hy;rw[Array.getElem?_toList,Array.getElem?_modify]at hi
   by_cases G:j=i
   ·rw[if_pos G]at hi
    rw[←G,J]at hi
    cases hi
    exact⟨x,rfl,by show(if x=x then some v else f x)=_;rw[if_pos rfl]⟩
   ·rw[if_neg G]at hi
    have b:y∈es.toList:=List.mem_of_getElem? (by rw[Array.getElem?_toList];exact hi);obtain⟨a,E,hf⟩:=h1 y b;refine⟨a,E,?_⟩;show(if a=x then some v else f a)=_;rw[if_neg (fun I=>?_)]
    ·exact hf
    ·subst I
     have d:j<es.toList.length:=(List.getElem?_eq_some_iff.1 h3).1
     have Y:i<es.toList.length:=by
      have:=(Array.getElem?_eq_some_iff.1 hi).1
      simpa using this
     have Z:=hs.2.2;have N:(es.toList.map (·.key))[j]? =some (K.enc a):=by rw[List.getElem?_map,h3];simp[h4]
     have R:(es.toList.map (·.key))[i]? =some (K.enc a):=by rw[List.getElem?_map,Array.getElem?_toList,hi];simp[E]
     have g:j<(es.toList.map (·.key)).length:=(List.getElem?_eq_some_iff.1 N).1;have c:i<(es.toList.map (·.key)).length:=(List.getElem?_eq_some_iff.1 R).1
     have X:(es.toList.map (·.key))[j]=(es.toList.map (·.key))[i]:=by
      have W:=(List.getElem?_eq_some_iff.1 N).2;have a2:=(List.getElem?_eq_some_iff.1 R).2;rw[W,a2]
     exact G ((List.getElem_inj Z).1 X)
  ·intro a u E
   have E:(if a=x then some v else f a)=some u:=E
   have key:∀y∈es.toList,∃z∈(es.modify j fun e=>{e with key:=K.enc x,val:=v}).toList,z.key=y.key:=fun y hy=>by
    obtain⟨i,hi⟩:=List.getElem?_of_mem hy;rw[Array.getElem?_toList]at hi
    by_cases G:j=i
    ·subst G
     refine⟨{y with key:=K.enc x,val:=v},List.mem_of_getElem? (i:=j) (by rw[Array.getElem?_toList,Array.getElem?_modify,if_pos rfl,hi];rfl),?_⟩;rw[J]at hi
     cases hi
     exact h4.symm
    ·exact⟨y,List.mem_of_getElem? (i:=i) (by rw[Array.getElem?_toList,Array.getElem?_modify,if_neg G];exact hi),rfl⟩
   by_cases I:a=x
   ·obtain⟨z,M,L⟩:=key e0 (List.mem_of_getElem? h3)
    exact⟨z,M,by rw[L,h4,I]⟩
   ·rw[if_neg I]at E
    obtain⟨y,hy,U⟩:=T a u E;obtain⟨z,M,L⟩:=key y hy;exact⟨z,M,by rw[L,U]⟩
theorem cH.look (h:cH K w B f) (ht:P.underlying t=some (.map k e)) (hk:P.underlying k=some K.kind) (hz:∀w,(zeroValue e).run P w=.ok z w) (x:α):
 (Instr.lookup t (.map (some B)) (K.enc x) false).run P w=.ok ((f x).getD z) w:=by
 obtain⟨es,clock,D,hs,h1,H⟩:=h;rcases findNow_spec (K.isKey x) es.toList 0 (fun y hy=>by obtain⟨j,I,_⟩:=h1 y hy;rw[I];exact K.isKey j)with⟨dR,uR⟩|⟨j,e0,dR,h3,h4⟩
 ·have A:f x=none:=by
   cases hf:f x with
   |none=>rfl
   |some v=>
    obtain⟨y,hy,E⟩:=H x v hf;exact absurd E (uR y hy)
  rw[A];simp[Instr.lookup,run_underlying ht,MapKept.run_getObj_map D,run_checkKey hk (K.isKey x),run_findKey hk dR,Result.andThen,hz]
 ·have A:f x=some e0.val:=by
   obtain⟨j',G,hf⟩:=h1 e0 (List.mem_of_getElem? h3);rw[←K.inj _ _ (G.symm.trans h4)];exact hf
  rw[A];have J:Instr.findNow K.kind (K.enc x) es.toList 0=some (some (0+j,e0.val)):=by simpa using dR
  simp[Instr.lookup,run_underlying ht,MapKept.run_getObj_map D,run_checkKey hk (K.isKey x),run_findKey hk J,Result.andThen]
theorem cH.look_ok (h:cH K w B f) (ht:P.underlying t=some (.map k e)) (hk:P.underlying k=some K.kind) (hz:∀w,(zeroValue e).run P w=.ok z w) (x:α):
 (Instr.lookup t (.map (some B)) (K.enc x) true).run P w=.ok (.tuple #[(f x).getD z,.bool (f x).isSome]) w:=by
 obtain⟨es,clock,D,hs,h1,H⟩:=h;rcases findNow_spec (K.isKey x) es.toList 0 (fun y hy=>by obtain⟨j,I,_⟩:=h1 y hy;rw[I];exact K.isKey j)with⟨dR,uR⟩|⟨j,e0,dR,h3,h4⟩
 ·have A:f x=none:=by
   cases hf:f x with
   |none=>rfl
   |some v=>
    obtain⟨y,hy,E⟩:=H x v hf;exact absurd E (uR y hy)
  rw[A];simp[Instr.lookup,run_underlying ht,MapKept.run_getObj_map D,run_checkKey hk (K.isKey x),run_findKey hk dR,Result.andThen,hz]
 ·have A:f x=some e0.val:=by
   obtain⟨j',G,hf⟩:=h1 e0 (List.mem_of_getElem? h3);rw[←K.inj _ _ (G.symm.trans h4)];exact hf
  rw[A];have J:Instr.findNow K.kind (K.enc x) es.toList 0=some (some (0+j,e0.val)):=by simpa using dR
  simp[Instr.lookup,run_underlying ht,MapKept.run_getObj_map D,run_checkKey hk (K.isKey x),run_findKey hk J,Result.andThen]
theorem look_nil (ht:P.underlying t=some (.map k e)) (hk:P.underlying k=some K.kind) (hz:∀w,(zeroValue e).run P w=.ok z w) (x:α) (w:World):
 (Instr.lookup t (.map none) (K.enc x) false).run P w=.ok z w:=by
 have hf:Instr.findNow K.kind (K.enc x) [] 0=some none:=rfl;simp[Instr.lookup,run_underlying ht,run_checkKey hk (K.isKey x),run_findKey hk hf,Result.andThen,hz]
end
section
variable {α:Type} [DecidableEq α] {K:ij α} {P:Program} {w:World} {ops:Array Oper} {rest:List Oper} {o:Oper} {a:Act} {Q:Exit→Act→World→Prop} {f:α→Option Value} {t k e:TypeId}
theorem cR (hg:o.guard=none) (m x v:Operand) (bP:o.op=.mapUpdate t m x v) (ht:P.underlying t=some (.map k e)) (hk:P.underlying k=some K.kind)
 (B:Nat) (h:cH K w B f) (hm:a.eval m=.map (some B)) (key:α) (hx:a.eval x=K.enc key) (val:Value) (hv:a.eval v=val)
 (hK:∀w',Hid (cH K w' B (fun y=>if y=key then some val else f y))→Hid (Kept (aA B) w w')→w'.heap.size=w.heap.size→wpList P ops Q rest (a.put o.dst undef) w'):wpList P ops Q (o::rest) a w:=by
 refine wpList_plain hg fun G hK'=>?_
 subst hv;obtain⟨w',A,h1,D,E⟩:=h.put ht hk key (a.eval v);unfold Oper.wp;simp[execOp,bP,hm,hx,A,Result.andThen];exact hK' _ _ (hK w' (Qh h1) (Qh D) E)
end
end Mk
namespace Block
open bM Go.Lib
variable {cs:Array Value} {T:Nat→Prop} {e:TypeId}
structure Sv where
 p:Option Addr
 n:Nat
 c:Nat
 bs:List UInt8
 q:Option Addr
 m:Nat
 d:Nat
 zs:List Int
structure Src (w:World) (g:Nat) (S:Sv) (a t:Nat):Prop where
 eh:w.heap[g]? =some (.cells #[.slice S.p S.n S.c,.int .i64 a,.slice S.q S.m S.d,.int .i64 t] 132 (0,0))
 ib:cD w S.p S.n S.bs
 len:S.bs.length=S.n
 nc:S.n≤S.c
 cm:S.c≤maxLen
 big:S.n≤140737488351232
 le:a≤S.n
 N8:FL w S.q S.m S.zs
 R7:S.zs.length=S.m
 md:S.m≤S.d
 dm:S.d≤maxLen
 turn:0<S.m→t<S.m
 PL:S.m=0→t=0
theorem gP {w:World} {g:Nat} (h:w.heap[g]? =some (.cells cs e (0,0))) (i:Nat):w.cell? ⟨g,i,none⟩=cs[i]? :=by
 simp[World.cell?,h]
theorem iD {w:World} {g:Nat} (h:w.heap[g]? =some (.cells cs e (0,0))) (i:Nat):w.frozen? ⟨g,i,none⟩=false:=by
 simp[World.frozen?,h]
theorem pF {w:World} {g:Nat} (h:w.heap[g]? =some (.cells cs e (0,0))) (i:Nat) (v:Value) (hi:i<cs.size):(w.setCell ⟨g,i,none⟩ v).heap[g]? =some (.cells (cs.set i v hi) e (0,0)):=by
 simp only[World.setCell,Array.getElem?_modify,if_true,h];simp[Array.setIfInBounds,hi]
section
variable {w w':World} {g a t:Nat} {S:Sv}
theorem Src.lt (h:Src w g S a t):g<w.heap.size:=(Array.getElem?_eq_some_iff.1 h.eh).1
theorem Src.c0 (h:Src w g S a t):w.cell? ⟨g,0,none⟩=some (.slice S.p S.n S.c):=gP h.eh 0
theorem Src.c1 (h:Src w g S a t):w.cell? ⟨g,1,none⟩=some (.int .i64 a):=gP h.eh 1
theorem Src.c2 (h:Src w g S a t):w.cell? ⟨g,2,none⟩=some (.slice S.q S.m S.d):=gP h.eh 2
theorem Src.c3 (h:Src w g S a t):w.cell? ⟨g,3,none⟩=some (.int .i64 t):=gP h.eh 3
theorem Src.RO (h:Src w g S a t):0<S.n→∀x,S.p=some x→x.block≠g:=fun A x B e=>by
 obtain⟨b,o,D,hc⟩:=h.ib A;rw[D]at B;cases B;have h1:=hc 0 A;change b=g at e;subst e;rw[gP h.eh]at h1
 match o,h1 with
 |0,h1=>simp at h1
 |1,h1=>simp at h1
 |2,h1=>simp at h1
 |3,h1=>simp at h1
 |o+4,h1=>simp at h1
theorem Src.kept (h:Src w g S a t) (hk:Kept T w w') (hg:¬T g) (hp:0<S.n→∀x,S.p=some x→¬T x.block) (hq:0<S.m→∀x,S.q=some x→¬T x.block):Src w' g S a t:=
 ⟨hk.some_ h.eh hg,h.ib.kept hk hp,h.len,h.nc,h.cm,h.big,h.le,h.N8.kept hk hq,h.R7,h.md,h.dm,h.turn,h.PL⟩
theorem Src.cL (h:Src w g S a t) (hk:Kept ag w w'):Src w' g S a t:=h.kept hk id (fun _ _ _=>id) (fun _ _ _=>id)
end
def Sv.off (S:Sv) (g:Nat):Prop:=0<S.m→∀x,S.q=some x→x.block≠g
section
variable {w w':World} {g a t:Nat} {S:Sv}
theorem Src.at_ (h:Src w g S a t) (ho:S.off g) (b:Nat) (hb:b≤S.n):Src (w.setCell ⟨g,1,none⟩ (.int .i64 b)) g S b t:=by
 have hk:Kept (aA g) w (w.setCell ⟨g,1,none⟩ (.int .i64 b)):=(Kept.refl (aA g) w).setCell (Or.inr (show aA g g from rfl)) _;exact⟨pF h.eh 1 _ (by simp),h.ib.kept hk h.RO,h.len,h.nc,h.cm,h.big,hb,h.N8.kept hk ho,h.R7,h.md,h.dm,h.turn,h.PL⟩
theorem Src.Vk (h:Src w g S a t) (ho:S.off g) (b:Nat) (h1:0<S.m→b<S.m) (h2:S.m=0→b=0):Src (w.setCell ⟨g,3,none⟩ (.int .i64 b)) g S a b:=by
 have hk:Kept (aA g) w (w.setCell ⟨g,3,none⟩ (.int .i64 b)):=(Kept.refl (aA g) w).setCell (Or.inr (show aA g g from rfl)) _;exact⟨pF h.eh 3 _ (by simp),h.ib.kept hk h.RO,h.len,h.nc,h.cm,h.big,h.le,h.N8.kept hk ho,h.R7,h.md,h.dm,h1,h2⟩
end
def yo (S:Sv) (a:Nat):Value:=.slice (if S.c=a then S.p else S.p.map (·.add a)) (S.n - a) (S.c - a)
theorem lV (w:World) (g a t:Nat) (S:Sv) (h:Src w g S a t):
 Calls Tryz.prog 97 #[.pointer (some ⟨g,0,none⟩)] w fun e w'=>e=.returned (yo S a)∧Src w' g S a t∧Kept ag w w':=by
 have D:=h.c0;have h1:=h.c1;have hm:=h.cm;have B:=h.nc;have hle:=h.le;unfold maxLen at hm;have H:=Qh h;unfold yo;clear h;obtain⟨p,n,c,bs,q,m,d,zs⟩:=S
 dsimp only at D hm B hle⊢
 by_cases A:c=a
 ·subst A
  go_enter Tryz.func97,Tryz.ntmps97
  go_wp2
  go_quiet (fail)
  go_wp2;go_ret;exact⟨rfl,H.out.cL ((Kept.refl _ _).drewN _),(Kept.refl _ _).drewN _⟩
 ·go_enter Tryz.func97,Tryz.ntmps97
  go_wp2
  go_quiet (fail)
  go_wp2;go_ret;exact⟨rfl,H.out.cL ((Kept.refl _ _).drewN _),(Kept.refl _ _).drewN _⟩
theorem Ci (w:World) (g a t:Nat) (S:Sv) (h:Src w g S a t) (sU:S.m=0) (n:Int):
 Calls Tryz.prog 167 #[.pointer (some ⟨g,0,none⟩),.int .i64 n] w fun e w'=>e=.returned (.int .i64 n)∧w=w':=by
 have A:=h.c2;rw[sU]at A;clear h sU
 go_enter Tryz.func167,Tryz.ntmps167
 go_wp2;go_ret;exact⟨rfl,rfl⟩
def pA (w:World) (g a:Nat) (S:Sv) (n:Int) (e:Ending) (w':World):Prop:=
 ∃(k:Int) (t':Nat),e=.returned (.int .i64 k)∧1≤k∧k≤n∧Src w' g S a t'∧Kept (aA g) w w'
theorem uL {w:World} {g a t m:Nat} {S:Sv} {n k:Int} (H:Src w g S a t) (HO:S.off g) (hm:S.m=m) (sU:0<m) (h1:1≤k) (h2:k≤n):
 pA w g a S n (.returned (.int .i64 k)) (w.setCell ⟨g,3,none⟩ (.int .i64 (((t:Int)+1) % (m:Int)))).drew.drew:=by
 have e:(((t:Int)+1) % (m:Int))=(((t+1) % m:Nat):Int):=by simp
 rw[e];refine⟨k,(t+1) % m,rfl,h1,h2,?_,?_⟩
 ·exact(H.Vk HO _ (fun _=>by rw[hm];exact Nat.mod_lt _ sU) (fun h=>by omega)).cL (((Kept.refl _ _).drew).drew)
 ·exact(((Kept.refl (aA g) w).setCell (Or.inr (show aA g g from rfl)) _).drew).drew
theorem Cj (w:World) (g a t:Nat) (S:Sv) (h:Src w g S a t) (ho:S.off g) (sU:0<S.m) (n:Int) (hn:1≤n):
 Calls Tryz.prog 167 #[.pointer (some ⟨g,0,none⟩),.int .i64 n] w (pA w g a S n):=by
 have D:=h.c2;have O:=h.c3;have f3:=iD h.eh 3;obtain⟨b,o,E,M,hc⟩:=h.N8 sU;have G:=h.turn sU;have hcell:=hc t G;have A:=h.dm;have B:=h.md;unfold maxLen at A;obtain⟨z,I⟩:∃z,z=S.zs.getD t 0:=⟨_,rfl⟩
 rw[←I]at hcell;rw[E]at D;have H:=Qh h;have J:=Qh ho;have N:=Qh sU;obtain⟨m,hm⟩:∃m,S.m=m:=⟨_,rfl⟩
 have L:=Qh hm;rw[hm]at D G B sU;clear h ho hc M I E hm
 go_enter Tryz.func167,Tryz.ntmps167
 go_wp2
 go_region
 all_goals go_wp2
 all_goals go_region
 all_goals go_wp2
 all_goals go_ret
 all_goals exact uL H.out J.out L.out sU (by omega) (by omega)
theorem Gt (w:World) (g a t:Nat) (S:Sv) (h:Src w g S a t) (ho:S.off g) (n:Int) (hn:1≤n):
 Calls Tryz.prog 167 #[.pointer (some ⟨g,0,none⟩),.int .i64 n] w (pA w g a S n):=by
 rcases Nat.eq_zero_or_pos S.m with h0|h0
 ·refine(Ci w g a t S h h0 n).mono ?_
  rintro e w' ⟨rfl,rfl⟩;exact⟨n,t,rfl,hn,Int.le_refl _,h,Kept.refl _ _⟩
 ·exact Cj w g a t S h ho h0 n hn
def vD (w:World) (g a:Nat) (S:Sv) (n:Int) (e:Ending) (w':World):Prop:=
 ∃(p:Option Addr) (k c t':Nat),e=.returned (.slice p k c)∧a+k≤S.n∧(k:Int)≤n∧(a<S.n→0<k)∧k≤c∧cD w' p k ((S.bs.drop a).take k)∧Src w' g S (a+k) t'∧Kept (aA g) w w'
theorem jh {w:World} {g a t:Nat} {S:Sv} (h:Src w g S a t):∃p,yo S a=.slice p (S.n - a) (S.c - a)∧cD w p (S.n - a) (S.bs.drop a)∧(0<S.n - a→∀x,p=some x→x.block≠g):=
 ⟨_,rfl,h.ib.drop h.le h.nc h.len,fun B x A=>by
  rw[if_neg (by have:=h.nc;omega)]at A;obtain⟨y,hy,rfl⟩:=Option.map_eq_some_iff.1 A;have:=h.RO (by omega) y hy;unfold Addr.add
  split<;>exact this⟩
theorem Is (w:World) (g a t:Nat) (S:Sv) (h:Src w g S a t) (ho:S.off g) (n:Int) (hn:1≤n):
 Calls Tryz.prog 133 #[.pointer (some ⟨g,0,none⟩),.int .i64 n] w (vD w g a S n):=by
 have hle:=h.le;have b:=h.nc;have N:=h.cm;unfold maxLen at N;obtain⟨l,hl⟩:∃l,l=S.n - a:=⟨_,rfl⟩
 obtain⟨d,hd⟩:∃d,d=S.c - a:=⟨_,rfl⟩
 have Ym:l≤d:=by omega
 have y:d≤9223372036854775807:=by omega
 have Ux:a+l≤9223372036854775807:=by omega
 have B:=Qh hl;have Y:=Qh hd;have H:=Qh h;have M:=Qh ho;have O:=Qh hle;clear h ho hl hd hle b N
 go_enter Tryz.func133,Tryz.ntmps133
 go_wp2_with fail
 refine(lV _ g a t S H.out).mono ?_;rintro e w1 ⟨rfl,L,R⟩;obtain⟨p,V,G,A⟩:=jh L;have ig:=Qh A;rw[V,←B.out,←Y.out];rw[←B.out]at G;have ly:=Qh L;have r:=Qh R;have o:=Qh G;clear L R G V A;go_wp2_with fail;refine(Gt _ g a t S ly.out M.out n hn).mono ?_;rintro e E ⟨k,t2,rfl,hk,bT,D,T⟩;have c1:=D.c1;have f1:=iD D.eh 1;have f:=Qh D;have W:=Qh T;clear D T;obtain⟨m,rfl⟩:∃m:Nat,k=m:=⟨k.toNat,by omega⟩
 have fin:∀j:Nat,1≤m→j≤l→(j:Int)≤n→(0<l→0<j)→vD w g a S n (.returned (.slice p j d)) (E.setCell ⟨g,1,none⟩ (.int .i64 ((a:Int)+(j:Int)))):=by
  intro j _ z J I;have e:((a:Int)+(j:Int))=((a+j:Nat):Int):=by simp
  rw[e];have A:0<j→∀x,p=some x→x.block≠g:=fun u=>ig.out (by have:=B.out;omega)
  have Z:=B.out;have q:=(o.out.take z).kept W.out A;have U:Kept (aA g) E (E.setCell ⟨g,1,none⟩ (.int .i64 ((a+j:Nat):Int))):=(Kept.refl (aA g) E).setCell (Or.inr (show aA g g from rfl)) _;refine⟨p,j,d,t2,rfl,?_,J,fun u=>I (by omega),by omega,q.kept U A,f.out.at_ M.out _ ?_,((r.out.dX _).trans W.out).trans U⟩
  ·have:=O.out;omega
  ·have:=O.out;omega
 have X:=Qh fin;clear fin;go_wp2
 all_goals go_ret
 ·exact X.out l (by omega) (Qk _) (by omega) (fun h=>h)
 ·exact X.out m (by omega) (by omega) (by omega) (by omega)
def UX:Value→Nat|.slice _ n _=>n|_=>0
def eY (w:World) (B:Nat) (v:Value) (n:Nat) (bs:List UInt8):Prop:=w.ownsRow B 5 1 v n ((nums bs).map (Value.int .u8))
theorem eY.kept {w w':World} (h:eY w B v n bs) (hk:Kept T w w') (hn:∀k,v.ownBlock=some k→¬T k):eY w' B v n bs:=bQ h hk hn
theorem eY.slice {w:World} (h:eY w B v n bs):∃p c,v=.slice p n c∧n≤c∧c≤maxLen∧cD w p n bs∧bs.length=n∧∀x,p=some x→B≤x.block∧x.block<w.heap.size∧v.ownBlock=some x.block:=by
 obtain⟨p,c,E,h1,G,A,D⟩:=nG h (Fl bs);rw[iC]at A D;exact⟨p,c,E,h1,G,A,D,wK h E⟩
theorem eY.lt {w:World} (h:eY w B v n bs):∀k,v.ownBlock=some k→B≤k∧k<w.heap.size:=World.ownsRow.lt h
theorem eY.mono {w:World} {B':Nat} (h:eY w B v n bs) (hb:B'≤B):eY w B' v n bs:=
 ⟨h.1,h.2.imp id fun⟨g,cap,cur,h1,h2,h3⟩=>⟨g,cap,cur,h1,Nat.le_trans hb h2,h3⟩⟩
theorem Src.since {w0 w w':World} {g a0 t0 a t:Nat} {S:Sv} (h0:Src w0 g S a0 t0) (h:Src w g S a t) (hk:Kept T w w') (hT:∀k,T k→w0.heap.size≤k):Src w' g S a t:=
 h.kept hk (fun A=>by have:=hT g A;have:=h0.lt;omega)
  (fun D x B A=>by
   obtain⟨b,o,E,G,_⟩:=h0.ib.cell D;rw[E]at B;cases B;have:=hT b A
   omega)
  (fun D x B A=>by
   obtain⟨b,o,E,G,_⟩:=h0.N8 D;rw[E]at B;cases B;have:=hT b A
   omega)
def lD (w:World) (g a:Nat) (S:Sv) (N:Nat) (e:Ending) (w':World):Prop:=
 (a+N≤S.n∧∃v,e=.returned (.tuple #[v,.int .i64 0])∧eY w' w.heap.size v N ((S.bs.drop a).take N)∧(∃t',Src w' g S (a+N) t')∧Kept (aA g) w w')∨
 (S.n<a+N∧e=.returned (.tuple #[.slice none 0 0,.int .i64 2])∧(∃t',Src w' g S S.n t')∧Kept (aA g) w w')
structure Qu (w:World) (g a:Nat) (S:Sv) (L N j:Nat) (v:Value) (wr:World):Prop where
 own:eY wr w.heap.size v j ((S.bs.drop a).take j)
 src:∃t',Src wr g S (a+j) t'
 kept:Kept (aA g) w wr
 jn:j≤N
 jl:j≤L
theorem qX (w:World) (g a t:Nat) (S:Sv) (h:Src w g S a t) (ho:S.off g) (N:Nat) (hN:N≤9223372036854775807):
 Calls Tryz.prog 98 #[.pointer (some ⟨g,0,none⟩),.int .i64 (N:Int)] w (lD w g a S N):=by
 obtain⟨i0,hi,fV,fb,fg⟩:=info_parts lU;obtain⟨L,hL⟩:∃L,L=S.n - a:=⟨_,rfl⟩
 obtain⟨C,z,y⟩:∃C:Nat,(if(L:Int)<(N:Int)then(L:Int)else(N:Int))=(C:Int)∧C≤L:=by
  by_cases h:(L:Int)<(N:Int)
  ·exact⟨L,if_pos h,Qk _⟩
  ·exact⟨N,if_neg h,by omega⟩
 have Z0:(if L<N then(L:Int)else(N:Int))=(C:Int):=by
  rw[←z]
  by_cases h:L<N
  ·rw[if_pos h,if_pos (by omega)]
  ·rw[if_neg h,if_neg (by omega)]
 have d:=Qh hi;have lu:=Qh fV;have j5:=Qh fb;have lx:=Qh fg;have D:=Qh hL;have l:=Qh y;have H:=Qh h;have HO:=Qh ho;clear hi fV fb fg hL y h ho
 go_enter Tryz.func98,Tryz.ntmps98
 go_wp2_with fail
 refine(lV _ g a t S H.out).mono ?_;rintro e Z ⟨rfl,Y,G⟩;obtain⟨p,hp,cg,fD⟩:=jh Y;rw[hp,←D.out];have X:=Qh Y;have fE:=Qh G;clear Y G cg hp fD
 go_wp2_with (at_make;refine wpList_make_own _ rfl _ _ 26 rfl Z.heap.size 5 i0 (.int .u8 0) 1 Tryz.underlying26 d.out lu.out j5.out .i64 .i64 (C:Int) C rfl rfl rfl ?b1 ?b2 (Qk _) ?_)
 case b1=>rw[lx.out];have:=X.out.big;have:=D.out;have:=l.out;omega
 case b2=>unfold maxLen;have:=X.out.big;have:=D.out;have:=l.out;omega
 intro w2 bt U;have V:Kept (aA g) w w2:=(fE.out.dX _).grown U (by intro k hk;cases hk)
 have f:Qu w g a S L N 0 (.slice (some ⟨Z.heap.size,0,none⟩) 0 C) w2:=⟨eY.mono (bs:=[]) bt fE.out.size,⟨t,by
  have:=H.out.since X.out (T:=ag) ((Kept.refl ag Z).grown U (by intro k hk;cases hk)) (fun _ h=>h.elim)
  simpa using this⟩,V,Nat.zero_le _,Nat.zero_le _⟩
 have Tl:=Qh f;clear bt U V f z Z0;go_wp2
 go_loopw [6] (fun v wr=>∃(j:Nat) (p:Option Addr) (c:Nat),j≤N∧v=.slice p j c∧Hid (Qu w g a S L N j v wr)) (fun v _=>N - UX v)
 case atStart=>exact⟨0,_,C,Nat.zero_le _,rfl,Tl⟩
 case round=>
  obtain⟨j,p,c,hjN,rfl,A⟩:=hrel;obtain⟨t3,uS⟩:=A.out.src;have r:=Qh uS;clear uS
  by_cases ax:j<N
  ·go_wp2_with fail
   refine(Is _ g (a+j) t3 S r.out HO.out ((N:Int) - (j:Int)) (by omega)).mono ?_;rintro e w4 ⟨p',k,c',t4,rfl,G,V,dv,lP,hb,m,b⟩;have bT:j+k≤N:=by omega
   have HB:=Qh hb;have o:=Qh m;have I:=Qh b;have J:=Qh G;have Wu:=Qh dv;clear hb m b G dv
   by_cases eB:k=0
   ·subst eB
    have E:Hid (a+j=S.n):=Qh (by have:=J.out;have:=Wu.out;omega);go_wp2;go_ret2;exact Or.inr ⟨by have:=E.out;omega,rfl,⟨t4,by have:=o.out;rw[←E.out];simpa using this⟩,A.out.kept.trans I.out⟩
   ·have hko:((k:Int)==0)=false:=by simpa using eB
    have u:eY w4 w.heap.size (.slice p j c) j ((S.bs.drop a).take j):=A.out.own.kept I.out (fun x B hg=>by
     have:=A.out.own.lt x B;have:=H.out.lt;have:x=g:=hg
     omega)
    have R:=Qh u;clear u
    go_wp2_with (at_builtin;refine kE rfl _ _ 26 rfl w.heap.size 5 i0 Tryz.underlying26 d.out lu.out j5.out lx.out _ j _ rfl R.out p' k c' _ rfl HB.out ?d1 ?d2 ?d3 ?_)
    case d1=>have:=J.out;rw[Qg,Qe,H.out.len];omega
    case d2=>have:=J.out;have:=H.out.big;omega
    case d3=>exact(A.out.kept.trans I.out).size
    intro v' w5 O M
    have q:Hid (Qu w g a S L N (j+k) v' w5):=Qh (by
     refine⟨?_,⟨t4,?_⟩,?_,bT,?_⟩
     ·unfold eY
      have e:(S.bs.drop a).take (j+k)=(S.bs.drop a).take j++((S.bs.drop (a+j)).take k):=by
       rw[List.take_add,List.drop_drop]
      rw[e];unfold nums at O⊢;rw[List.map_append,List.map_append];exact O
     ·have:=H.out.since o.out (T:=fun x=>some x=(Value.slice p j c).ownBlock) ((Kept.refl _ w4).grown M (fun x B=>Or.inr B.symm)) (fun x B=>(R.out.lt x B.symm).1)
      rw[←Nat.add_assoc];exact this
     ·exact(A.out.kept.trans I.out).grown M (fun x B=>Or.inl (R.out.lt x B).1)
     ·have:=J.out;have:=D.out;have:=H.out.le;omega)
    obtain⟨p5,c5,W,lS⟩:=(show eY w5 w.heap.size v' (j+k) _ from q.out.own).slice;clear lS O M;subst W;go_wp2;go_roundw
    case rel=>exact⟨j+k,_,c5,bT,rfl,q⟩
    case measure=>simp[UX];omega
  ·obtain rfl:j=N:=by omega
   go_wp2;go_ret2;exact Or.inl ⟨by have:=A.out.jl;have:=D.out;have:=H.out.le;omega,_,rfl,A.out.own,⟨t3,r.out⟩,A.out.kept⟩
end Block
namespace bM
variable {args:Array Value} {f:FuncId} {P:Program} {w:World}
structure ga (w:World) where
 w':World
 bel:Below w.heap.size w w'
instance (w:World):Inhabited (ga w):=⟨⟨w,Below.refl _ _⟩⟩
theorem uc {b o:Nat} (h:w.cell? ⟨b,o,none⟩=some v):∀p:ga w,p.w'.cell? ⟨b,o,none⟩=some v:=
 fun p=>(p.bel.cell (p:=⟨b,o,none⟩) (World.block_lt_of_cell? _ _ h)).trans h
theorem aL {id:Nat} {Q:Exit→Act→World→Prop} {l:List Oper} (hm:P.follows .mixedOrders=true) (hB:Region.lexB .any l.toArray=true)
 (h:wpQuiet P l.toArray (fun w'=>∃p:ga w,w'=p.w') (fun a'=>∀w',(∃p:ga w,w'=p.w')→Q .normal a' w') l a):(Code.region id l.toArray true).wp P Q a w:=
 wp_region_quiet (C:=fun w'=>∃p:ga w,w'=p.w') hm hB ⟨⟨{w with drawn:=w.drawn+1},⟨rfl,rfl,rfl,Qk _,fun _ _=>rfl⟩⟩,rfl⟩ (by simpa using h)
theorem Calls.cZ {p:ga w}
 (h:Calls P f args p.w' fun e w'=>e=.returned v∧Below p.w'.heap.size p.w' w'):Calls P f args p.w' fun e Bh=>e=.returned v∧∃q:ga w,Bh=q.w':=
 h.mono fun _ Bh ⟨he,hb⟩=>⟨he,⟨Bh,p.bel.trans (hb.mono p.bel.size)⟩,rfl⟩
theorem Calls.kY {p:ga w}
 (h:Calls P f args p.w' fun e w'=>e=.returned v∧p.w'=w'):Calls P f args p.w' fun e Bh=>e=.returned v∧∃q:ga w,Bh=q.w':=
 h.mono fun _ Bh ⟨he,hb⟩=>⟨he,p,hb.symm⟩
theorem cd {wq:World} (h:∃p:ga w,wq=p.w'):Below w.heap.size w wq:=by
 obtain⟨p,rfl⟩:=h;exact p.bel
end bM
namespace Mk
open Go.MapKept bM cr
section
variable {α:Type} {K:ij α} {w w':World} {B:Nat} {f:α→Option Value} {P:Program} {t k e:TypeId}
theorem cH.del [DecidableEq α] (h:cH K w B f) (ht:P.underlying t=some (.map k e)) (hk:P.underlying k=some K.kind) (x:α) (ty:TypeId):
 ∃w',(Builtin.delete_ #[t,k] ty #[.map (some B),K.enc x]).run P w=.ok (.tuple #[]) w'∧cH K w' B (fun y=>if y=x then none else f y)∧Kept (aA B) w w'∧w'.heap.size=w.heap.size:=by
 obtain⟨es,clock,D,hs,h1,O⟩:=h;rcases findNow_spec (K.isKey x) es.toList 0 (fun y hy=>by obtain⟨j,W,_⟩:=h1 y hy;rw[W];exact K.isKey j)with⟨dR,H⟩|⟨j,e0,dR,h3,h4⟩
 ·refine⟨Go.ChangeMaps.setBlock w B (.map es clock),?_,⟨_,_,(MapKept.heap_set D).1,hs,?_,?_⟩,jg D,by simp[Go.ChangeMaps.setBlock]⟩
  ·simp[Builtin.delete_,run_underlying ht,MapKept.run_getObj_map D,run_checkKey hk (K.isKey x),run_findKey hk dR,MapKept.run_setObj_map _ D,Result.andThen,Go.ChangeMaps.setBlock]
  ·intro y hy
   obtain⟨i,hi,hf⟩:=h1 y hy;refine⟨i,hi,?_⟩;show(if i=x then none else f i)=_;rw[if_neg (fun e=>H y hy (by rw[hi,e]))];exact hf
  ·intro i u hi
   have hi:(if i=x then none else f i)=some u:=hi
   by_cases G:i=x
   ·rw[if_pos G]at hi;cases hi
   ·rw[if_neg G]at hi
    exact O i u hi
 ·rw[Nat.zero_add]at dR
  have R:j<es.toList.length:=(List.getElem?_eq_some_iff.1 h3).1;have I:j<es.size:=by simpa using R
  have M:(es.eraseIdxIfInBounds j).toList=es.toList.eraseIdx j:=by
   unfold Array.eraseIdxIfInBounds;rw[dif_pos I];simp
  have T:∀i y,es.toList[i]? =some y→y.key=K.enc x→i=j:=fun i y hi hy=>by
   have J:(es.toList.map (·.key))[j]? =some (K.enc x):=by rw[List.getElem?_map,h3];simp[h4]
   have N:(es.toList.map (·.key))[i]? =some (K.enc x):=by rw[List.getElem?_map,hi];simp[hy]
   have R:j<(es.toList.map (·.key)).length:=(List.getElem?_eq_some_iff.1 J).1;have Y:i<(es.toList.map (·.key)).length:=(List.getElem?_eq_some_iff.1 N).1
   have V:(es.toList.map (·.key))[j]=(es.toList.map (·.key))[i]:=by
    have U:=(List.getElem?_eq_some_iff.1 J).2;have a2:=(List.getElem?_eq_some_iff.1 N).2;rw[U,a2]
   exact((List.getElem_inj hs.2.2).1 V).symm
  refine⟨Go.ChangeMaps.setBlock w B (.map (es.eraseIdxIfInBounds j) clock),?_,⟨_,_,(MapKept.heap_set D).1,stamped_erase hs j,?_,?_⟩,jg D,by simp[Go.ChangeMaps.setBlock]⟩
  ·simp[Builtin.delete_,run_underlying ht,MapKept.run_getObj_map D,run_checkKey hk (K.isKey x),run_findKey hk dR,MapKept.run_setObj_map _ D,Result.andThen,Go.ChangeMaps.setBlock]
  ·intro y hy
   rw[M]at hy;obtain⟨i,H,hi⟩:=List.mem_eraseIdx_iff_getElem?.1 hy;obtain⟨a,A,hf⟩:=h1 y (List.mem_of_getElem? hi);refine⟨a,A,?_⟩;show(if a=x then none else f a)=_;rw[if_neg (fun E=>H (T i y hi (by rw[A,E])))];exact hf
  ·intro a u A
   have A:(if a=x then none else f a)=some u:=A
   by_cases E:a=x
   ·rw[if_pos E]at A;cases A
   ·rw[if_neg E]at A
    obtain⟨y,hy,L⟩:=O a u A;refine⟨y,?_,L⟩;rw[M];obtain⟨i,hi⟩:=List.getElem?_of_mem hy;refine List.mem_eraseIdx_iff_getElem?.2 ⟨i,fun X=>E (K.inj _ _ ?_),hi⟩;rw[←L,←h4];rw[X,h3]at hi
    cases hi
    rfl
end
section
variable {α:Type} [DecidableEq α] {K:ij α} {P:Program} {w:World} {ops:Array Oper} {rest:List Oper} {o:Oper} {a:Act} {Q:Exit→Act→World→Prop} {f:α→Option Value} {t k e:TypeId}
theorem Bi (hg:o.guard=none) (m x:Operand) (t k:TypeId) (bP:o.op=Op.call {callee:=Callee.builtin Builtin.delete,args:=#[m,x],argTypes:=#[t,k]}) (e:TypeId) (ht:P.underlying t=some (.map k e)) (hk:P.underlying k=some K.kind)
 (B:Nat) (h:cH K w B f) (hm:a.eval m=.map (some B)) (key:α) (hx:a.eval x=K.enc key)
 (hK:∀w',Hid (cH K w' B (fun y=>if y=key then none else f y))→Hid (Kept (aA B) w w')→w'.heap.size=w.heap.size→wpList P ops Q rest (a.put o.dst (.tuple #[])) w'):wpList P ops Q (o::rest) a w:=by
 refine wpList_plain hg fun G hK'=>?_
 obtain⟨w',A,h1,D,E⟩:=h.del ht hk key o.type;unfold Oper.wp;simp[execOp,bP,resolve,invoke,builtin,hm,hx,A,Result.andThen];exact hK' _ _ (hK w' (Qh h1) (Qh D) E)
end
end Mk
namespace Mp
open bM Go.Lib
variable {listed:Array Bool} {md:Region.Mode}
def mA (n:Nat) (listed:Array Bool):Nat:=((List.range n).filter fun i=>!listed.getD i true).length
theorem ai (hi:i<listed.size) (j:Nat) (d:Bool):(listed.setIfInBounds i true).getD j d=if j=i then true else listed.getD j d:=by
 by_cases h:j=i
 ·subst h;simp[hi]
 ·simp[h,Array.getElem?_setIfInBounds_ne (Ne.symm h)]
theorem bA (h:listed.getD i true=false):i<listed.size:=by
 rcases Nat.lt_or_ge i listed.size with h'|h'
 ·exact h'
 ·simp[Array.getElem?_eq_none h']at h
theorem qi {P:Program} {Q:Exit→Act→World→Prop} (I:Array Bool→Act→World→Prop)
 (qH:∀listed a w i,I listed a w→i∈Region.ready md ops listed→wpOp P ops Q i (I (listed.setIfInBounds i true)) a w)
 (vU:∀listed a w,I listed a w→Region.ready md ops listed=[]→Q .normal a w):
 ∀(fuel:Nat) (listed:Array Bool) (a:Act) (w:World),mA ops.size listed≤fuel→I listed a w→wpAny P md ops Q fuel listed a w:=by
 intro fuel
 induction fuel with
 |zero=>
  intro listed a w J A
  have B:Region.ready md ops listed=[]:=by
   rw[List.eq_nil_iff_forall_not_mem];intro i hi;have h1:=mem_ready.1 hi;obtain⟨o,G,_⟩:=h1.2;have E:i∈(List.range ops.size).filter fun i=>!listed.getD i true:=List.mem_filter.2 ⟨List.mem_range.2 (Array.getElem?_eq_some_iff.1 G).1,by rw[h1.1];rfl⟩
   have L:(List.range ops.size).filter (fun i=>!listed.getD i true)=[]:=List.eq_nil_of_length_eq_zero (by simpa [mA]using J);rw[L]at E
   cases E
  exact⟨B,vU _ _ _ A B⟩
 |succ fuel ih=>
  intro listed a w J A;refine⟨fun B=>vU _ _ _ A B,fun i hi=>?_⟩;refine wpOp_mono (fun a' w' h=>ih _ _ _ ?_ h) (qH _ _ _ _ A hi);have h1:=mem_ready.1 hi;obtain⟨o,G,_⟩:=h1.2;have H:=bA h1.1
  have E:mA ops.size (listed.setIfInBounds i true)<mA ops.size listed:=by
   unfold mA;refine filter_lt _ _ (fun x D=>?_) i (by rw[h1.1];rfl) (by rw[ai H,if_pos rfl];rfl) _ (List.mem_range.2 (Array.getElem?_eq_some_iff.1 G).1);rw[ai H]at D;split at D
   ·cases D
   ·exact D
  omega
theorem nE (hs:listed.size=ops.size) (hd:∀i o,ops[i]? =some o→∀e∈o.after,Region.binds md e=true→e.on<i) (hr:Region.ready md ops listed=[]):
 ∀n i,i<n→i<ops.size→listed.getD i false=true:=by
 intro n
 induction n with
 |zero=>intro i h;omega
 |succ n ih=>
  intro i h hi
  by_cases B:i<n
  ·exact ih i B hi
  ·obtain rfl:i=n:=by omega
   cases hl:listed.getD i false with
   |true=>rfl
   |false=>
    have h1:listed.getD i true=false:=by
     simp only[Array.getD_eq_getD_getElem?]at hl⊢;rw[Array.getElem?_eq_getElem (by omega)]at hl⊢;exact hl
    have:i∈Region.ready md ops listed:=mem_ready.2 ⟨h1,ops[i],Array.getElem?_eq_getElem hi,fun e he A=>ih e.on (hd i _ (Array.getElem?_eq_getElem hi) e he A) (by
     have:=hd i _ (Array.getElem?_eq_getElem hi) e he A
     omega)⟩
    rw[hr]at this
    cases this
theorem dJ {d:Nat} (v:Value) (hd:d<a.tmps.size):(a.put (some d) v).eval (.tmp t)=if t=d then v else a.eval (.tmp t):=by
 show((a.tmps.setIfInBounds d v).getD t undef)=_
 by_cases h:t=d
 ·subst h;simp[hd]
 ·rw[if_neg h]
  show _=a.tmps.getD t undef;simp[Array.getElem?_setIfInBounds_ne (Ne.symm h)]
theorem js (a:Act) (d:Option Nat) (v:Value):(a.put d v).tmps.size=a.tmps.size:=by
 cases d<;>simp[Act.put]
theorem put_defers (a:Act) (d:Option Nat) (v:Value):(a.put d v).defers=a.defers:=by
 cases d<;>rfl
theorem Kg (a:Act) (v:Value):a.eval (.const v)=v:=rfl
theorem fv (h:listed.getD i true=false):listed.getD i false=false:=by
 have:=bA h;simp only[Array.getD_eq_getD_getElem?]at h⊢;rw[Array.getElem?_eq_getElem this]at h⊢;exact h
end Mp
namespace Mp
open bM
variable {j:Nat}
structure RI (ops:Array Oper) (V:Nat→Value) (a0:Act) (W:Array Bool→World→Prop) (listed:Array Bool) (a:Act) (w:World):Prop where
 ls:listed.size=ops.size
 ts:a.tmps.size=a0.tmps.size
 df:a.defers=a0.defers
 done:∀j o d,ops[j]? =some o→o.dst=some d→listed.getD j false=true→a.eval (.tmp d)=V j
 same:∀t,(∀j o,ops[j]? =some o→o.dst=some t→listed.getD j false=false)→a.eval (.tmp t)=a0.eval (.tmp t)
 wd:W listed w
def xD (ops:Array Oper) (n:Nat):Bool:=
 (ops.toList.zipIdx.all fun x=>x.1.guard.isNone&&(x.1.after.all fun e=>decide (e.on<x.2))&&(match x.1.dst with
  |none=>true
  |some d=>decide (d<n)&&ops.toList.zipIdx.all fun y=>y.2==x.2||y.1.dst != some d))
theorem zj {ops:Array Oper} (h:xD ops n=true):∀i o,ops[i]? =some o→
 o.guard=none∧(∀e∈o.after,Region.binds .any e=true→e.on<i)∧(∀d,o.dst=some d→d<n∧∀j oj,ops[j]? =some oj→oj.dst=some d→j=i):=by
 intro i o G;unfold xD at h;rw[List.all_eq_true]at h
 have hm:∀(j:Nat) (oj:Oper),ops[j]? =some oj→(oj,j)∈ops.toList.zipIdx:=fun j oj B=>by
  rw[List.mem_iff_getElem?];exact⟨j,by simp[B]⟩
 have h1:=h (o,i) (hm i o G);simp only[Bool.and_eq_true]at h1;obtain⟨⟨D,E⟩,A⟩:=h1;refine⟨by simpa using D,fun e he _=>by simpa using Array.all_eq_true_iff_forall_mem.1 E e he,fun d hd=>?_⟩;rw[hd]at A;simp only[Bool.and_eq_true,decide_eq_true_eq]at A;refine⟨A.1,fun j oj B H=>?_⟩;have h5:=List.all_eq_true.1 A.2 (oj,j) (hm j oj B);simp only[Bool.or_eq_true,beq_iff_eq,bne_iff_ne]at h5;rcases h5 with h5|h5
 ·exact h5
 ·exact absurd H h5
theorem Ec {P:Program} {ops:Array Oper} {Q:Exit→Act→World→Prop} (V:Nat→Value) (a0:Act) (W:Array Bool→World→Prop) (n:Nat) (Jm:xD ops n=true) (hn:n≤a0.tmps.size)
 (qH:∀listed a w j o,RI ops V a0 W listed a w→ops[j]? =some o→listed.getD j true=false→(∀e∈o.after,Region.binds .any e=true→listed.getD e.on false=true)→
  Oper.wp P o a w (fun a' w'=>a'=a.put o.dst (V j)∧W (listed.setIfInBounds j true) w') Q)
 (vU:∀listed a w,RI ops V a0 W listed a w→(∀j,j<ops.size→listed.getD j false=true)→Q .normal a w)
 {w:World} (h0:W (Array.replicate ops.size false) w):wpAny P .any ops Q ops.size (Array.replicate ops.size false) a0 w:=by
 have sp:=zj Jm
 have no:∀j,(Array.replicate ops.size false).getD j false=false:=fun j=>by
  rw[Array.getD_eq_getD_getElem?,Array.getElem?_replicate];split<;>rfl
 refine qi (RI ops V a0 W) (fun listed a w' i h L=>?_) (fun listed a' w' h L=>?_) _ _ _ _ ?_ ?_
 ·obtain⟨R,o,D,Y⟩:=mem_ready.1 L
  have H:=bA R;obtain⟨b,_,hd⟩:=sp i o D;refine wpOp_step D fun K Z=>?_
  rw[if_pos (by simp[Region.wanted,b])];refine Oper.wp_mono (fun a' T c=>Z a' T ?_) (qH listed a w' i o h D R Y);obtain⟨rfl,hw⟩:=c;refine⟨by simpa using h.ls,by rw[js];exact h.ts,by rw[put_defers];exact h.df,fun j G d A B hl=>?_,fun t O=>?_,hw⟩
  ·cases E:o.dst with
   |none=>
    have N:j≠i:=fun e=>by
     subst e;rw[D]at A
     cases A
     rw[E]at B
     cases B
    rw[ai H,if_neg N]at hl;exact h.done j G d A B hl
   |some d'=>
    obtain⟨J,U⟩:=hd d' E;have M:d'<a.tmps.size:=by rw[h.ts];exact Nat.lt_of_lt_of_le J hn
    rw[dJ _ M]
    by_cases I:d=d'
    ·have:=U j G A (by rw[←I];exact B)
     rw[if_pos I,this]
    ·rw[if_neg I]
     have N:j≠i:=fun e=>by
      subst e;rw[D]at A
      cases A
      rw[E]at B;exact I (Option.some.inj B).symm
     rw[ai H,if_neg N]at hl;exact h.done j G d A B hl
  ·have X:o.dst≠some t:=fun e=>by
    have:=O i o D e;rw[ai H,if_pos rfl]at this
    cases this
   have hold:a.eval (.tmp t)=a0.eval (.tmp t):=h.same t fun j G A B=>by
    have h1:=O j G A B;rw[ai H]at h1;split at h1
    ·cases h1
    ·exact h1
   cases E:o.dst with
   |none=>exact hold
   |some d'=>
    obtain⟨J,_⟩:=hd d' E;rw[dJ _ (by rw[h.ts];exact Nat.lt_of_lt_of_le J hn),if_neg (fun e=>X (by rw[E,e]))];exact hold
 ·exact vU _ _ _ h fun j A=>nE h.ls (fun i o D=>(sp i o D).2.1) L (j+1) j (by omega) A
 ·unfold mA
  exact Nat.le_trans (List.length_filter_le _ _) (by rw[List.length_range];exact Qk _)
 ·exact⟨Array.size_replicate,rfl,rfl,fun j o d _ _ hl=>(by rw[no]at hl;cases hl),fun t _=>rfl,h0⟩
def xR (ops:Array Oper) (j i:Nat):Bool:=((ops[j]?).map fun o=>o.after.any fun e=>e.on==i&&Region.binds .any e).getD false
def O7 (ops:Array Oper) (t:Nat):Bool:=ops.toList.all fun o=>o.dst != some t
section
variable {ops:Array Oper} {V:Nat→Value} {a0 a:Act} {W:Array Bool→World→Prop} {listed:Array Bool} {w:World}
theorem RI.get (h:RI ops V a0 W listed a w) {d:Nat} {o:Oper} (ho:ops[j]? =some o) (bF:∀e∈o.after,Region.binds .any e=true→listed.getD e.on false=true) (hd:xR ops j i=true) (ck:(ops[i]?).bind (·.dst)=some d):a.eval (.tmp d)=V i:=by
 unfold xR at hd;rw[ho]at hd;obtain⟨e,he,B⟩:=Array.any_eq_true'.1 (show o.after.any _=true from hd);simp only[Bool.and_eq_true,beq_iff_eq]at B;have hl:=bF e he B.2;rw[B.1]at hl
 cases A:ops[i]? with
 |none=>rw[A]at ck;cases ck
 |some oi=>
  rw[A]at ck;exact h.done i oi d A ck hl
theorem RI.old (h:RI ops V a0 W listed a w) (hf:O7 ops t=true):a.eval (.tmp t)=a0.eval (.tmp t):=
 h.same t fun j o A hd=>by
  unfold O7 at hf;rw[List.all_eq_true]at hf;have:=hf o (by rw[Array.mem_toList_iff];exact Array.mem_of_getElem? A);rw[hd]at this;simp at this
end
def gG:Code→List (Nat × Array Oper)
 |.region id ops _=>[(id,ops)]
 |.seq a b=>gG a++gG b
 |.cond _ a b=>gG a++gG b
 |.block _ c=>gG c
 |.loop c=>gG c
 |_=>[]
def tV (f:Func) (id:Nat):Array Oper:=
 match f.body with
 |some c=>(((gG c).find? fun x=>x.1==id).map (·.2)).getD #[]
 |none=>#[]
section
variable {P:Program} {o:Oper} {a:Act} {w:World} {K:Act→World→Prop} {Q:Exit→Act→World→Prop}
theorem wp_move (x:Operand) (v:Value) (ho:o.op=.move x∨o.op=.assign x) (hx:a.eval x=v) (h:K (a.put o.dst v) w):Oper.wp P o a w K Q:=by
 unfold Oper.wp;rcases ho with ho|ho
 ·simp[execOp,ho,hx,Oper.upon_value];exact h
 ·simp[execOp,ho,hx,Oper.upon_value];exact h
theorem dO (v:Value) (hr:(execOp a.eval o).run P w=.ok (.value v) w) (h:K (a.put o.dst v) w):Oper.wp P o a w K Q:=by
 unfold Oper.wp;rw[hr,Oper.upon_value];exact h
theorem mX (t:TypeId) (m x:Operand) (ho:o.op=.lookup t m x false) (mv xv v:Value) (hm:a.eval m=mv) (hx:a.eval x=xv) (hr:(Instr.lookup t mv xv false).run P w=.ok v w) (h:K (a.put o.dst v) w):Oper.wp P o a w K Q:=by
 unfold Oper.wp;simp[execOp,ho,hm,hx,hr,Result.andThen,Oper.upon_value];exact h
theorem TA (a:Act) (f:FuncId):a.eval (.func f)=.func (.func f) #[] #[]:=rfl
theorem pq (f:FuncId) (xs:Array Operand) (ts:Array TypeId) (ho:o.op=.call {callee:=.value (.func f),args:=xs,argTypes:=ts}) (vs:Array Value) (hx:xs.map a.eval=vs)
 (hf:∀args w,(callFunc f args).run P w=.ok (.enter f args) w) (v:Value) (R:World→Prop) (hc:Calls P f vs w fun e w'=>e=.returned v∧R w') (h:∀w',R w'→K (a.put o.dst v) w'):Oper.wp P o a w K Q:=by
 unfold Oper.wp;simp[execOp,ho,resolve,invoke,hx,TA,Deferred.ofValue,hf,Oper.upon];refine hc.mono fun e w' he=>?_
 obtain⟨rfl,A⟩:=he;exact h w' A
end
def nF (ops:Array Oper) (n:Nat):Bool:=
 (ops.toList.zipIdx.all fun x=>x.1.guard.isNone&&(x.1.after.all fun e=>decide (e.on<x.2)||!Region.binds .any e)&&(match x.1.dst with
  |none=>true
  |some d=>decide (d<n)&&ops.toList.zipIdx.all fun y=>y.2==x.2||y.1.dst != some d))
theorem lG {ops:Array Oper} (h:nF ops n=true):∀i o,ops[i]? =some o→
 o.guard=none∧(∀e∈o.after,Region.binds .any e=true→e.on<i)∧(∀d,o.dst=some d→d<n∧∀j oj,ops[j]? =some oj→oj.dst=some d→j=i):=by
 intro i o H;unfold nF at h;rw[List.all_eq_true]at h
 have hm:∀(j:Nat) (oj:Oper),ops[j]? =some oj→(oj,j)∈ops.toList.zipIdx:=fun j oj B=>by
  rw[List.mem_iff_getElem?];exact⟨j,by simp[B]⟩
 have h1:=h (o,i) (hm i o H);simp only[Bool.and_eq_true]at h1;obtain⟨⟨D,E⟩,A⟩:=h1;refine⟨by simpa using D,fun e he G=>?_,fun d hd=>?_⟩
 ·have h5:=Array.all_eq_true_iff_forall_mem.1 E e he
  rw[G]at h5
  simpa using h5
 rw[hd]at A;simp only[Bool.and_eq_true,decide_eq_true_eq]at A;refine⟨A.1,fun j oj B I=>?_⟩;have h5:=List.all_eq_true.1 A.2 (oj,j) (hm j oj B);simp only[Bool.or_eq_true,beq_iff_eq,bne_iff_ne]at h5;rcases h5 with h5|h5
 ·exact h5
 ·exact absurd I h5
theorem RI.next {ops:Array Oper} {V:Nat→Value} {a0 a:Act} {W W':Array Bool→World→Prop} {listed:Array Bool} {w w':World} (n:Nat) (Jm:nF ops n=true) (hn:n≤a0.tmps.size) (h:RI ops V a0 W listed a w)
 {o:Oper} (ho:ops[i]? =some o) (lq:listed.getD i true=false) (hw:W' (listed.setIfInBounds i true) w'):RI ops V a0 W' (listed.setIfInBounds i true) (a.put o.dst (V i)) w':=by
 have G:=bA lq;obtain⟨R,_,hd⟩:=lG Jm i o ho;refine⟨by simpa using h.ls,by rw[js];exact h.ts,by rw[put_defers];exact h.df,fun j E d A B hl=>?_,fun t M=>?_,hw⟩
 ·cases D:o.dst with
  |none=>
   have L:j≠i:=fun e=>by
    subst e;rw[ho]at A
    cases A
    rw[D]at B
    cases B
   rw[ai G,if_neg L]at hl;exact h.done j E d A B hl
  |some d'=>
   obtain⟨I,N⟩:=hd d' D;have J:d'<a.tmps.size:=by rw[h.ts];exact Nat.lt_of_lt_of_le I hn
   rw[dJ _ J]
   by_cases H:d=d'
   ·have:=N j E A (by rw[←H];exact B)
    rw[if_pos H,this]
   ·rw[if_neg H]
    have L:j≠i:=fun e=>by
     subst e;rw[ho]at A
     cases A
     rw[D]at B;exact H (Option.some.inj B).symm
    rw[ai G,if_neg L]at hl;exact h.done j E d A B hl
 ·have O:o.dst≠some t:=fun e=>by
   have:=M i o ho e;rw[ai G,if_pos rfl]at this
   cases this
  have hold:a.eval (.tmp t)=a0.eval (.tmp t):=h.same t fun j E A B=>by
   have h1:=M j E A B;rw[ai G]at h1;split at h1
   ·cases h1
   ·exact h1
  cases D:o.dst with
  |none=>exact hold
  |some d'=>
   obtain⟨I,_⟩:=hd d' D;rw[dJ _ (by rw[h.ts];exact Nat.lt_of_lt_of_le I hn),if_neg (fun e=>O (by rw[D,e]))];exact hold
theorem q7 {Γ:Type} {P:Program} {ops:Array Oper} {Q:Exit→Act→World→Prop} (V:Γ→Nat→Value) (γ0:Γ) (a0:Act) (W:Γ→Array Bool→World→Prop) (n:Nat) (Jm:nF ops n=true) (hn:n≤a0.tmps.size)
 (qH:∀γ listed a w j o,RI ops (V γ) a0 (W γ) listed a w→ops[j]? =some o→listed.getD j true=false→(∀e∈o.after,Region.binds .any e=true→listed.getD e.on false=true)→
  Oper.wp P o a w (fun a' w'=>∃γ',(∀i,listed.getD i false=true→V γ' i=V γ i)∧a'=a.put o.dst (V γ' j)∧W γ' (listed.setIfInBounds j true) w') Q)
 (vU:∀γ listed a w,RI ops (V γ) a0 (W γ) listed a w→(∀j,j<ops.size→listed.getD j false=true)→Q .normal a w)
 {w:World} (h0:W γ0 (Array.replicate ops.size false) w):wpAny P .any ops Q ops.size (Array.replicate ops.size false) a0 w:=by
 have sp:=lG Jm
 have no:∀j,(Array.replicate ops.size false).getD j false=false:=fun j=>by
  rw[Array.getD_eq_getD_getElem?,Array.getElem?_replicate];split<;>rfl
 refine qi (fun listed a w'=>∃γ,RI ops (V γ) a0 (W γ) listed a w') (fun listed a w' i h E=>?_) (fun listed a' w' h E=>?_) _ _ _ _ ?_ ?_
 ·obtain⟨γ,h⟩:=h
  obtain⟨G,o,A,I⟩:=mem_ready.1 E;obtain⟨M,_,hd⟩:=sp i o A;refine wpOp_step A fun K L=>?_
  rw[if_pos (by simp[Region.wanted,M])];refine Oper.wp_mono (fun a' H N=>L a' H ?_) (qH γ listed a w' i o h A G I);obtain⟨γ',B,rfl,hw⟩:=N;have J:RI ops (V γ') a0 (fun _ _=>True) listed a w':=⟨h.ls,h.ts,h.df,fun j O d D R hl=>(h.done j O d D R hl).trans (B j hl).symm,h.same,trivial⟩
  exact⟨γ',J.next n Jm hn A G hw⟩
 ·obtain⟨γ,h⟩:=h
  exact vU γ _ _ _ h fun j D=>nE h.ls (fun i o A=>(sp i o A).2.1) E (j+1) j (by omega) D
 ·unfold mA
  exact Nat.le_trans (List.length_filter_le _ _) (by rw[List.length_range];exact Qk _)
 ·exact⟨γ0,Array.size_replicate,rfl,rfl,fun j o d _ _ hl=>(by rw[no]at hl;cases hl),fun t _=>rfl,h0⟩
def cj (ops:Array Oper) (i:Nat):Option Nat:=(ops[i]?).bind fun o=>o.dst
def il (ops:Array Oper) (V:Nat→Value) (a0:Act):Nat→Act
 |0=>a0
 |n+1=>(il ops V a0 n).put (cj ops n) (V n)
theorem AO (a:Act) (v:Value):a.put none v=a:=rfl
theorem me (ops:Array Oper) (V:Nat→Value) (a0:Act):∀n,(il ops V a0 n).tmps.size=a0.tmps.size
 |0=>rfl
 |n+1=>by rw[il,js,me ops V a0 n]
theorem nv (ops:Array Oper) (V:Nat→Value) (a0:Act):∀n,(il ops V a0 n).defers=a0.defers
 |0=>rfl
 |n+1=>by rw[il,put_defers,nv ops V a0 n]
theorem qU {a:Act} {d:Option Nat} (v:Value) (h:d≠some t):(a.put d v).eval (.tmp t)=a.eval (.tmp t):=by
 cases d with
 |none=>rfl
 |some d=>
  have A:¬d=t:=fun e=>h (by rw[e])
  show((a.tmps.setIfInBounds d v).getD t undef)=a.tmps.getD t undef;simp[Array.getElem?_setIfInBounds_ne A]
theorem qQ (ops:Array Oper) (V:Nat→Value) (a0:Act) (t:Nat):∀n,(∀j,j<n→cj ops j≠some t)→(il ops V a0 n).eval (.tmp t)=a0.eval (.tmp t)
 |0,_=>rfl
 |n+1,h=>by
  rw[il,qU _ (h n (by omega))];exact qQ ops V a0 t n fun j A=>h j (by omega)
theorem qR {ops:Array Oper} (V:Nat→Value) (a0:Act) {t:Nat} (ht:t<a0.tmps.size) {i:Nat} (hi:cj ops i=some t) (hu:∀j,cj ops j=some t→j=i):∀n,i<n→(il ops V a0 n).eval (.tmp t)=V i
 |0,h=>absurd h (by omega)
 |n+1,h=>by
  rw[il]
  by_cases A:n=i
  ·subst A
   rw[hi,dJ _ (by rw[me];exact ht),if_pos rfl]
  ·rw[qU _ (fun e=>A (hu n e))]
   exact qR V a0 ht hi hu n (by omega)
theorem Ns {a b:Act} (hs:a.tmps.size=b.tmps.size) (hd:a.defers=b.defers) (h:∀t,a.eval (.tmp t)=b.eval (.tmp t)):a=b:=by
 obtain⟨D,A⟩:=a;obtain⟨E,db⟩:=b;obtain rfl:A=db:=hd
 congr 1
 apply Array.ext hs;intro i h1 B;have:=h i;change D.getD i undef=E.getD i undef at this;rw[Array.getD_eq_getD_getElem?,Array.getD_eq_getD_getElem?,Array.getElem?_eq_getElem h1,Array.getElem?_eq_getElem B]at this;exact this
theorem iY {ops:Array Oper} {listed:Array Bool} {o:Oper} (ho:ops[j]? =some o) (bF:∀e∈o.after,Region.binds .any e=true→listed.getD e.on false=true) (hd:xR ops j i=true):listed.getD i false=true:=by
 unfold xR at hd;rw[ho]at hd;obtain⟨e,he,A⟩:=Array.any_eq_true'.1 (show o.after.any _=true from hd);simp only[Bool.and_eq_true,beq_iff_eq]at A;have hl:=bF e he A.2
 rwa [A.1]at hl
theorem oC {ops:Array Oper} {V:Nat→Value} {a0 a:Act} {W:Array Bool→World→Prop} {listed:Array Bool} {w:World} (n:Nat) (Jm:nF ops n=true) (hn:n≤a0.tmps.size) (h:RI ops V a0 W listed a w) (hall:∀j,j<ops.size→listed.getD j false=true):a=il ops V a0 ops.size:=by
 have sp:=lG Jm;refine Ns (by rw[h.ts,me]) (by rw[h.df,nv]) fun t=>?_
 by_cases hex:∃i,cj ops i=some t
 ·obtain⟨i,hi⟩:=hex
  cases A:ops[i]? with
  |none=>rw[cj,A]at hi;cases hi
  |some o=>
   have hd:o.dst=some t:=by rw[cj,A]at hi;exact hi
   have E:=(Array.getElem?_eq_some_iff.1 A).1;obtain⟨h1,G⟩:=(sp i o A).2.2 t hd
   rw[h.done i o t A hd (hall i E),qR V a0 (Nat.lt_of_lt_of_le h1 hn) hi (fun j B=>by
    cases D:ops[j]? with
    |none=>rw[cj,D]at B;cases B
    |some oj=>exact G j oj D (by rw[cj,D]at B;exact B)) _ E]
 ·rw[qQ ops V a0 t _ fun j _ e=>hex ⟨j,e⟩]
  exact h.same t fun j o A hd=>absurd ⟨j,by rw[cj,A];exact hd⟩ hex
end Mp
namespace Mk
open Go.MapKept bM cr
def MX:ij UInt8 where
 enc c:=.int .u8 (c.toNat:Int)
 kind:=.int .u8
 isKey _:=rfl
 inj a b h:=by injection h with _ h;exact UInt8.toNat.inj (by omega)
 same a:=by
  rw[Instr.sameBits];simp
section
variable {α:Type} {K:ij α} {w:World} {B:Nat} {f:α→Option Value} {P:Program} {t k e:TypeId}
theorem cH.count (h:cH K w B f) (ht:P.underlying t=some (.map k e)) (ty:TypeId):∃n:Nat,(Builtin.len_ #[t] ty #[.map (some B)]).run P w=.ok (.int .i64 n) w∧(n=0↔∀x,f x=none):=by
 obtain⟨es,clock,D,hs,h1,A⟩:=h;refine⟨es.size,by simp[Builtin.len_,run_underlying ht,MapKept.run_getObj_map D,goInt,Result.andThen],fun G x=>?_,fun E=>?_⟩
 ·cases hf:f x with
  |none=>rfl
  |some v=>
   obtain⟨y,hy,_⟩:=A x v hf;rw[Array.eq_empty_of_size_eq_zero G]at hy;simp at hy
 ·rcases Nat.eq_zero_or_pos es.size with h0|h0
  ·exact h0
  ·obtain⟨j,_,hf⟩:=h1 es[0] (by simp)
   rw[E j]at hf
   cases hf
theorem cH.Nz (h:cH K w B f) (ht:P.underlying t=some (.map k e)) (ty:TypeId):
 ∃w',(Builtin.clear_ #[t] ty #[.map (some B)]).run P w=.ok (.tuple #[]) w'∧cH K w' B (fun _=>none)∧Kept (aA B) w w'∧w'.heap.size=w.heap.size:=by
 obtain⟨es,clock,A,hs,h1,D⟩:=h;refine⟨Go.ChangeMaps.setBlock w B (.map #[] clock),?_,⟨#[],clock,(MapKept.heap_set A).1,stamped_empty clock,by simp,by simp⟩,jg A,by simp[Go.ChangeMaps.setBlock]⟩;simp[Builtin.clear_,run_underlying ht,MapKept.run_getObj_map A,MapKept.run_setObj_map _ A,Result.andThen,Go.ChangeMaps.setBlock]
end
section
variable {α:Type} {K:ij α} {P:Program} {w:World} {ops:Array Oper} {rest:List Oper} {o:Oper} {a:Act} {Q:Exit→Act→World→Prop} {f:α→Option Value} {t k e:TypeId}
end
end Mk
end Go.Proofs.YtdhibldkldlfpaaGreatDoor
