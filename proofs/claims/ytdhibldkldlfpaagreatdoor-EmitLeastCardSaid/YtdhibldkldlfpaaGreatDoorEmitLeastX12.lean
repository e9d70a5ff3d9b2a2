/- Merged. -/
import Derived.Test.YtdhibldkldlfpaaGreatDoorEmitLeastX11
import Derived.Laws.AppendOwnNone
namespace Go.Proofs.YtdhibldkldlfpaaGreatDoor
set_option linter.unusedVariables false
set_option maxHeartbeats 1600000
open Go.ChangeShapes Go.WideShapes Go.ChangeAt Go.RowKit Base
variable {a:Act} {ops:Array Oper} {bs:List UInt8} {B i n t:Nat} {v:Value}
namespace bJ
open Go.Lib
variable {Q:Exit→Act→World→Prop} {zs:List Int} {rest:List Oper} {xs:List Value} {k base size:Nat} {o:Oper} {p:Option Addr} {P:Program} {e:TypeId}
def nums (bs:List UInt8):List Int:=bs.map fun x=>(x.toNat:Int)
theorem fw (bs:List UInt8):(nums bs).length=bs.length:=by simp[nums]
theorem E7 (bs:List UInt8):∀x∈nums bs,0≤x∧x<256:=fun x A=>by
 obtain⟨y,_,rfl⟩:=List.mem_map.1 A;have:=y.toNat_lt;omega
theorem iA (bs:List UInt8):bytesOf (nums bs)=bs:=by
 unfold bytesOf nums;rw[List.map_map]
 conv=>rhs;rw[←List.map_id bs]
 apply List.map_congr_left;intro x _;simp
theorem oU (bs:List UInt8) (j:Nat) (hj:j<bs.length):((nums bs).map (Value.int .u8))[j]? =some (.int .u8 (bs.getD j 0).toNat):=by
 simp[nums,List.getD,hj]
theorem kt {w:World} (rH:o.guard=none) (s x:Operand) (t:TypeId)
 (ho:o.op=.call {callee:=.builtin .append,args:=#[s,x],argTypes:=#[t,t]})
 (base:Nat) (e:TypeId) (i:TypeInfo) (ht:P.underlying t=some (.slice e)) (hi:P.info? e=some i) (hz:i.zero=some (.int .u8 0)) (eO:i.size=1) (uu:i.bytes=1)
 (v:Value) (n:Nat) (xs:List Int) (hs:a.eval s=v) (bh:w.ownsRow base e 1 v n (xs.map (Value.int .u8)))
 (p:Option Addr) (m c:Nat) (bs:List UInt8) (hx:a.eval x=.slice p m c) (hb:cB w p m bs) (hl:bs.length=m) (lQ:n+m≤140737488351232) (ft:base≤w.heap.size)
 (h:∀v' w',w'.ownsRow base e 1 v' (n+m) ((xs++nums bs).map (Value.int .u8))→w.grownBy w' v.ownBlock→wpList P ops Q rest (a.put o.dst v') w'):wpList P ops Q (o::rest) a w:=by
 rcases p with _|ad
 ·have hm:m=0:=by
   rcases Nat.eq_zero_or_pos m with h0|h0
   ·exact h0
   ·obtain⟨_,_,he,_⟩:=hb h0
    cases he
  subst hm;obtain rfl:bs=[]:=List.eq_nil_of_length_eq_zero hl
  have B:(Builtin.append_ #[t,t] o.type #[v,.slice none 0 c]).run P w=.ok v w:=by
   rcases bh.2 with⟨rfl,rfl⟩|⟨g,cap,cur,rfl,_,_,GY,_⟩
   ·simp[Builtin.append_,run_underlying ht,sizeOf,typeInfo,hi,Builtin.lenOf,Builtin.firstCells]
   ·simp[Builtin.append_,run_underlying ht,sizeOf,typeInfo,hi,Builtin.lenOf,Builtin.firstCells,GY,storeCells]
  refine wpList_plain rH fun K E=>?_
  unfold Oper.wp;simp[execOp,ho,resolve,invoke,builtin,hs,hx,B,Result.andThen];exact E _ _ (h v w (by simpa [nums]using bh) (World.grownBy.refl w _))
 ·refine wpList_append_own w rH s x t ho base e i (.int .u8 0) 1 1 ht hi hz eO uu rfl (by decide) v n (xs.map (Value.int .u8)) hs bh ad m c ((nums bs).map (Value.int .u8)) hx (by rw[Qi,fw,hl];omega) ?_ (ints_oneCell .u8 _) (by unfold maxLen;omega) (by omega) ft ?_
  ·intro j u A
   have G:j<m:=by
    have:=(List.getElem?_eq_some_iff.1 A).1;rw[Qi,fw,hl]at this;exact this
   obtain⟨b,off,he,hc⟩:=hb (by omega)
   cases he
   rw[oU bs j (by omega)]at A
   cases A
   rw[WideShapes.add_plain];exact hc j G
  ·intro v' w' h1 D _
   rw[←List.map_append]at h1;exact h v' w' h1 D
structure Kept (S:Nat→Prop) (w w':World):Prop where
 os:w'.os=w.os
 tape:w'.tape=w.tape
 output:w'.output=w.output
 size:w.heap.size≤w'.heap.size
 block:∀k,k<w.heap.size→¬S k→w'.heap[k]? =w.heap[k]?
def ag:Nat→Prop:=fun _=>False
def aA (g:Nat):Nat→Prop:=fun k=>k=g
def p7 (g:Nat) (o:Option Nat):Nat→Prop:=fun k=>k=g∨some k=o
section
variable {S T:Nat→Prop} {w w' AQ:World}
theorem Kept.refl (S:Nat→Prop) (w:World):Kept S w w:=⟨rfl,rfl,rfl,Qk _,fun _ _ _=>rfl⟩
theorem Kept.trans (h:Kept S w w') (k:Kept S w' AQ):Kept S w AQ:=
 ⟨k.os.trans h.os,k.tape.trans h.tape,k.output.trans h.output,Nat.le_trans h.size k.size,fun i hi A=>(k.block i (Nat.lt_of_lt_of_le hi h.size) A).trans (h.block i hi A)⟩
theorem Kept.mono (h:Kept S w w') (hs:∀k,S k→T k):Kept T w w':=⟨h.os,h.tape,h.output,h.size,fun k hk B=>h.block k hk fun A=>B (hs k A)⟩
theorem Kept.dZ (h:Kept ag w w') (S:Nat→Prop):Kept S w w':=h.mono fun _ A=>A.elim
theorem Kept.drewN (h:Kept S w w') (n:Nat):Kept S w (w'.drewN n):=h.trans ⟨rfl,rfl,rfl,Qk _,fun _ _ _=>rfl⟩
theorem Kept.drew (h:Kept S w w'):Kept S w w'.drew:=h.trans ⟨rfl,rfl,rfl,Qk _,fun _ _ _=>rfl⟩
theorem Kept.alloc (h:Kept S w w') (o:Obj):Kept S w (w'.alloc o):=h.trans ⟨rfl,rfl,rfl,by simp,fun k hk _=>Below.heap_alloc _ _ _ hk⟩
theorem Kept.setCell (h:Kept S w w') {a:Addr} (ha:w.heap.size≤a.block∨S a.block) (v:Value):Kept S w (w'.setCell a v):=
 ⟨h.os,h.tape,h.output,by simpa using h.size,fun k hk A=>by
  rw[Below.heap_setCell _ _ _ _ (fun e=>by rcases ha with ha|ha;· omega
                                           ·exact A (e▸ha))]
  exact h.block k hk A⟩
theorem Kept.below (h:Kept S w w') (hB:B≤w.heap.size) (hs:∀k,S k→B≤k):Below B w w':=
 ⟨h.os,h.tape,h.output,h.size,fun k hk=>h.block k (by omega) fun A=>by have:=hs k A;omega⟩
theorem Kept.aS (h:Below w.heap.size w w') (S:Nat→Prop):Kept S w w':=⟨h.os,h.tape,h.output,h.size,fun k hk _=>h.block k hk⟩
theorem Kept.grown (h:Kept S w w') {row:Option Nat} (hg:w'.grownBy AQ row) (hr:∀k,row=some k→w.heap.size≤k∨S k):Kept S w AQ:=
 ⟨hg.os.trans h.os,hg.tape.trans h.tape,hg.output.trans h.output,Nat.le_trans h.size hg.size,fun k hk A=>by
  rw[hg.block k (Nat.lt_of_lt_of_le hk h.size) (fun e=>by rcases hr k e.symm with h1|h1;· omega
                                                          ·exact A h1)]
  exact h.block k hk A⟩
theorem Kept.then (h:Kept S w w') (k:Kept T w' AQ) (hs:∀i,T i→w.heap.size≤i∨S i):Kept S w AQ:=
 ⟨k.os.trans h.os,k.tape.trans h.tape,k.output.trans h.output,Nat.le_trans h.size k.size,fun i hi A=>by
  rw[k.block i (Nat.lt_of_lt_of_le hi h.size) (fun B=>by rcases hs i B with h1|h1;· omega
                                                         ·exact A h1)]
  exact h.block i hi A⟩
theorem Kept.at (h:Kept S w w') (hk:k<w.heap.size) (hn:¬S k):w'.heap[k]? =w.heap[k]? :=h.block k hk hn
theorem Kept.some_ (h:Kept S w w') {o:Obj} (hk:w.heap[k]? =some o) (hn:¬S k):w'.heap[k]? =some o:=
 (h.block k (Array.getElem?_eq_some_iff.1 hk).1 hn).trans hk
theorem cB.kept (h:cB w p n bs) (hk:Kept S w w') (hn:0<n→∀a,p=some a→¬S a.block):cB w' p n bs:=fun A=>by
 obtain⟨b,o,rfl,B,hc⟩:=h.cell A;exact⟨b,o,rfl,fun i hi=>by rw[World.cell?_of_block (hk.block b B (hn A _ rfl))];exact hc i hi⟩
theorem bN (h:w.ownsRow base e size v n xs) (hk:Kept S w w') (hn:∀k,v.ownBlock=some k→¬S k):w'.ownsRow base e size v n xs:=
 ⟨h.1,h.2.imp id fun⟨g,cap,cur,h1,h2,h3,h4⟩=>⟨g,cap,cur,h1,h2,hk.some_ h3 (hn g (by rw[h1];rfl)),h4⟩⟩
def Fx (w:World) (p:Option Addr) (n:Nat) (zs:List Int):Prop:=
 0<n→∃b o,p=some ⟨b,o,none⟩∧b<w.heap.size∧∀i,i<n→w.cell? ⟨b,o+i,none⟩=some (.int .i64 (zs.getD i 0))
theorem Fx.kept (h:Fx w p n zs) (hk:Kept S w w') (hn:0<n→∀a,p=some a→¬S a.block):Fx w' p n zs:=fun A=>by
 obtain⟨b,o,rfl,B,hc⟩:=h A;exact⟨b,o,rfl,Nat.lt_of_lt_of_le B hk.size,fun i hi=>by rw[World.cell?_of_block (hk.block b B (hn A _ rfl))];exact hc i hi⟩
theorem CE (h:w.ownsRow base e 1 v n (zs.map (Value.int .i64))):
 ∃p c,v=.slice p n c∧n≤c∧c≤maxLen∧Fx w p n zs∧zs.length=n∧(∀a,p=some a→base≤a.block∧v.ownBlock=some a.block):=by
 have hl:zs.length=n:=by have:=h.1;simpa using this
 have A:=h.lt;have B:=h;rcases h.2 with⟨rfl,rfl⟩|⟨g,cap,cur,rfl,hg,_,h1,h2,_⟩
 ·exact⟨none,0,rfl,by omega,by omega,fun h=>absurd h (by omega),hl,fun a h=>by cases h⟩
 ·refine⟨some ⟨g,0,none⟩,cap,rfl,h1,h2,fun D=>⟨g,0,rfl,(A g rfl).2,fun i hi=>?_⟩,hl,fun a h=>by cases h;exact⟨hg,rfl⟩⟩
  rw[Nat.zero_add,B.cellAt i (by omega),List.getElem?_map,Qd (by omega)];simp[List.getD,hl,hi]
theorem vY (h:w.ownsRow base e size v n xs) {m c:Nat} (hv:v=.slice p m c):∀a,p=some a→base≤a.block∧a.block<w.heap.size∧v.ownBlock=some a.block:=fun a A=>by
 subst A hv;exact⟨(h.lt _ rfl).1,(h.lt _ rfl).2,rfl⟩
theorem yQ {w:World} (rH:o.guard=none) (s x:Operand) (t:TypeId)
 (ho:o.op=.call {callee:=.builtin .append,args:=#[s,x],argTypes:=#[t,t]})
 (base:Nat) (e:TypeId) (i:TypeInfo) (ht:P.underlying t=some (.slice e)) (hi:P.info? e=some i) (hz:i.zero=some (.int .i64 0)) (eO:i.size=1) (uu:i.bytes=8)
 (v:Value) (n:Nat) (xs:List Int) (hs:a.eval s=v) (bh:w.ownsRow base e 1 v n (xs.map (Value.int .i64)))
 (p:Option Addr) (m c:Nat) (zs:List Int) (hx:a.eval x=.slice p m c) (hb:Fx w p m zs) (hl:zs.length=m) (lQ:(n+m)*8≤140737488351232) (ft:base≤w.heap.size)
 (h:∀v' w',w'.ownsRow base e 1 v' (n+m) ((xs++zs).map (Value.int .i64))→w.grownBy w' v.ownBlock→wpList P ops Q rest (a.put o.dst v') w'):wpList P ops Q (o::rest) a w:=by
 rcases p with _|ad
 ·have hm:m=0:=by
   rcases Nat.eq_zero_or_pos m with h0|h0
   ·exact h0
   ·obtain⟨_,_,he,_⟩:=hb h0
    cases he
  subst hm;obtain rfl:zs=[]:=List.eq_nil_of_length_eq_zero hl
  have B:(Builtin.append_ #[t,t] o.type #[v,.slice none 0 c]).run P w=.ok v w:=by
   rcases bh.2 with⟨rfl,rfl⟩|⟨g,cap,cur,rfl,_,_,GY,_⟩
   ·simp[Builtin.append_,run_underlying ht,sizeOf,typeInfo,hi,Builtin.lenOf,Builtin.firstCells]
   ·simp[Builtin.append_,run_underlying ht,sizeOf,typeInfo,hi,Builtin.lenOf,Builtin.firstCells,GY,storeCells]
  refine wpList_plain rH fun K E=>?_
  unfold Oper.wp;simp[execOp,ho,resolve,invoke,builtin,hs,hx,B,Result.andThen];exact E _ _ (h v w (by simpa using bh) (World.grownBy.refl w _))
 ·refine wpList_append_own w rH s x t ho base e i (.int .i64 0) 1 8 ht hi hz eO uu rfl (by decide) v n (xs.map (Value.int .i64)) hs bh ad m c (zs.map (Value.int .i64)) hx (by rw[Qi,hl];omega) ?_ (ints_oneCell .i64 _) (by unfold maxLen;omega) (by omega) ft ?_
  ·intro j u A
   have G:j<m:=by
    have:=(List.getElem?_eq_some_iff.1 A).1;rw[Qi,hl]at this;exact this
   obtain⟨b,off,he,_,hc⟩:=hb (by omega)
   cases he
   rw[List.getElem?_map,Qd (by omega)]at A
   cases A
   rw[WideShapes.add_plain,hc j G];simp[List.getD,Qd (show j<zs.length by omega)]
  ·intro v' w' h1 D _
   rw[←List.map_append]at h1;exact h v' w' h1 D
end
theorem lR:(Tryz.prog.info? 5).map (fun i=>(i.zero,i.size,i.bytes))=some (some (.int .u8 0),1,1):=by kernel_rfl
theorem NK:(Tryz.prog.info? 3).map (fun i=>(i.zero,i.size,i.bytes))=some (some (.int .i64 0),1,8):=by kernel_rfl
end bJ
namespace Mk
open Go.MapKept bJ cn
variable {z:Value}
structure ie (α:Type) where
 enc:α→Value
 kind:TypeDesc
 isKey:∀a,IsKey kind (enc a)
 inj:∀a b,enc a=enc b→a=b
 same:∀a,Instr.sameBits 10000 (enc a) (enc a)=true
def ik:ie (List UInt8) where
 enc l:=.string (str l)
 kind:=.string
 isKey _:=trivial
 inj a b h:=by injection h with h;exact str_inj h
 same a:=by
  rw[Instr.sameBits]
  simpa using Oo a a
section
variable {α:Type} (K:ie α)
def cF (w:World) (B:Nat) (f:α→Option Value):Prop:=
 ∃es clock,w.heap[B]? =some (.map es clock)∧Stamped es clock∧(∀e∈es.toList,∃k,e.key=K.enc k∧f k=some e.val)∧(∀k v,f k=some v→∃e∈es.toList,e.key=K.enc k)
variable {K} {w w':World} {B:Nat} {f:α→Option Value}
theorem cF.lt (h:cF K w B f):B<w.heap.size:=by
 obtain⟨es,clock,A,_⟩:=h;exact(Array.getElem?_eq_some_iff.1 A).1
theorem cF.kept {S:Nat→Prop} (h:cF K w B f) (hk:Kept S w w') (hB:¬S B):cF K w' B f:=by
 obtain⟨es,clock,A,h⟩:=h;exact⟨es,clock,hk.some_ A hB,h⟩
theorem iR (K:ie α) (w:World):cF K (w.alloc (.map #[] 0)) w.heap.size (fun _=>none):=
 ⟨#[],0,(MapKept.heap_alloc w _).1,stamped_empty 0,by simp,by simp⟩
theorem jd {o o':Obj} (hb:w.heap[B]? =some o):Kept (aA B) w (Go.ChangeMaps.setBlock w B o'):=
 ⟨rfl,rfl,rfl,by simp[Go.ChangeMaps.setBlock],fun k hk A=>(MapKept.heap_set hb).2 k A⟩
variable {P:Program} {t k e:TypeId}
theorem cF.put [DecidableEq α] (h:cF K w B f) (ht:P.underlying t=some (.map k e)) (hk:P.underlying k=some K.kind) (x:α) (v:Value):
 ∃w',(Instr.mapUpdate t (.map (some B)) (K.enc x) v).run P w=.ok () w'∧cF K w' B (fun y=>if y=x then some v else f y)∧Kept (aA B) w w'∧w'.heap.size=w.heap.size:=by
 obtain⟨es,clock,D,hs,h1,T⟩:=h;rcases findNow_spec (K.isKey x) es.toList 0 (fun y hy=>by obtain⟨j,A,_⟩:=h1 y hy;rw[A];exact K.isKey j)with⟨dU,cV⟩|⟨j,e0,dU,h3,h4⟩
 ·refine⟨Go.ChangeMaps.setBlock w B (.map (es.push {key:=K.enc x,val:=v,born:=clock}) (clock+1)),?_,⟨_,_,(MapKept.heap_set D).1,stamped_push hs cV,?_,?_⟩,jd D,by simp[Go.ChangeMaps.setBlock]⟩
  ·simp[Instr.mapUpdate,run_underlying ht,MapKept.run_getObj_map D,run_checkKey hk (K.isKey x),run_findKey hk dU,MapKept.run_setObj_map _ D,Result.andThen,Go.ChangeMaps.setBlock]
  ·intro y hy
   simp only[Array.toList_push,List.mem_append,List.mem_singleton]at hy;rcases hy with hy|rfl
   ·obtain⟨j,A,hf⟩:=h1 y hy
    refine⟨j,A,?_⟩;show(if j=x then some v else f j)=_;rw[if_neg (fun e=>cV y hy (by rw[A,e]))];exact hf
   ·exact⟨x,rfl,by show(if x=x then some v else f x)=_;rw[if_pos rfl]⟩
  ·intro j u A
   simp only[Array.toList_push,List.mem_append,List.mem_singleton];have A:(if j=x then some v else f j)=some u:=A
   by_cases O:j=x
   ·exact⟨_,Or.inr rfl,by rw[O]⟩
   ·rw[if_neg O]at A
    obtain⟨y,hy,hk⟩:=T j u A;exact⟨y,Or.inl hy,hk⟩
 ·rw[Nat.zero_add]at dU
  have I:es[j]? =some e0:=by simpa using h3
  have V:∀w:World,(Instr.keyThatStays (((es[j]?).map (·.key)).getD (K.enc x)) (K.enc x)).run P w=.ok (K.enc x) w:=fun w=>by
   rw[I];simp only[Option.map_some,Option.getD_some,h4,Instr.keyThatStays,K.same x,if_true];rfl
  refine⟨Go.ChangeMaps.setBlock w B (.map (es.modify j fun e=>{e with key:=K.enc x,val:=v}) clock),?_,⟨_,_,(MapKept.heap_set D).1,?_,?_,?_⟩,jd D,by simp[Go.ChangeMaps.setBlock]⟩
  ·simp only[Instr.mapUpdate,Sem.run_bind,run_underlying ht,MapKept.run_getObj_map D,run_checkKey hk (K.isKey x),run_findKey hk dU,V,Result.andThen]
   simp[MapKept.run_setObj_map _ D,Go.ChangeMaps.setBlock]
  ·exact stamped_modify hs j _ (fun _ _=>rfl) fun e he R=>by
    rw[I]at R
    cases R
    exact h4.symm
  ·intro y hy
   obtain⟨i,hi⟩:=List.getElem?_of_mem hy;rw[Array.getElem?_toList,Array.getElem?_modify]at hi
   by_cases G:j=i
   ·rw[if_pos G]at hi
    rw[←G,I]at hi
    cases hi
    exact⟨x,rfl,by show(if x=x then some v else f x)=_;rw[if_pos rfl]⟩
   ·rw[if_neg G]at hi
    have b:y∈es.toList:=List.mem_of_getElem? (by rw[Array.getElem?_toList];exact hi);obtain⟨a,E,hf⟩:=h1 y b;refine⟨a,E,?_⟩;show(if a=x then some v else f a)=_;rw[if_neg (fun H=>?_)]
    ·exact hf
    ·subst H
     have d:j<es.toList.length:=(List.getElem?_eq_some_iff.1 h3).1
     have Y:i<es.toList.length:=by
      have:=(Array.getElem?_eq_some_iff.1 hi).1
      simpa using this
     have Z:=hs.2.2;have M:(es.toList.map (·.key))[j]? =some (K.enc a):=by rw[List.getElem?_map,h3];simp[h4]
     have N:(es.toList.map (·.key))[i]? =some (K.enc a):=by rw[List.getElem?_map,Array.getElem?_toList,hi];simp[E]
     have g:j<(es.toList.map (·.key)).length:=(List.getElem?_eq_some_iff.1 M).1;have c:i<(es.toList.map (·.key)).length:=(List.getElem?_eq_some_iff.1 N).1
     have X:(es.toList.map (·.key))[j]=(es.toList.map (·.key))[i]:=by
      have W:=(List.getElem?_eq_some_iff.1 M).2;have a2:=(List.getElem?_eq_some_iff.1 N).2;rw[W,a2]
     exact G ((List.getElem_inj Z).1 X)
  ·intro a u E
   have E:(if a=x then some v else f a)=some u:=E
   have key:∀y∈es.toList,∃z∈(es.modify j fun e=>{e with key:=K.enc x,val:=v}).toList,z.key=y.key:=fun y hy=>by
    obtain⟨i,hi⟩:=List.getElem?_of_mem hy;rw[Array.getElem?_toList]at hi
    by_cases G:j=i
    ·subst G
     refine⟨{y with key:=K.enc x,val:=v},List.mem_of_getElem? (i:=j) (by rw[Array.getElem?_toList,Array.getElem?_modify,if_pos rfl,hi];rfl),?_⟩;rw[I]at hi
     cases hi
     exact h4.symm
    ·exact⟨y,List.mem_of_getElem? (i:=i) (by rw[Array.getElem?_toList,Array.getElem?_modify,if_neg G];exact hi),rfl⟩
   by_cases H:a=x
   ·obtain⟨z,L,J⟩:=key e0 (List.mem_of_getElem? h3)
    exact⟨z,L,by rw[J,h4,H]⟩
   ·rw[if_neg H]at E
    obtain⟨y,hy,U⟩:=T a u E;obtain⟨z,L,J⟩:=key y hy;exact⟨z,L,by rw[J,U]⟩
theorem cF.look (h:cF K w B f) (ht:P.underlying t=some (.map k e)) (hk:P.underlying k=some K.kind) (hz:∀w,(zeroValue e).run P w=.ok z w) (x:α):
 (Instr.lookup t (.map (some B)) (K.enc x) false).run P w=.ok ((f x).getD z) w:=by
 obtain⟨es,clock,D,hs,h1,H⟩:=h;rcases findNow_spec (K.isKey x) es.toList 0 (fun y hy=>by obtain⟨j,I,_⟩:=h1 y hy;rw[I];exact K.isKey j)with⟨dU,uF⟩|⟨j,e0,dU,h3,h4⟩
 ·have A:f x=none:=by
   cases hf:f x with
   |none=>rfl
   |some v=>
    obtain⟨y,hy,E⟩:=H x v hf;exact absurd E (uF y hy)
  rw[A];simp[Instr.lookup,run_underlying ht,MapKept.run_getObj_map D,run_checkKey hk (K.isKey x),run_findKey hk dU,Result.andThen,hz]
 ·have A:f x=some e0.val:=by
   obtain⟨j',G,hf⟩:=h1 e0 (List.mem_of_getElem? h3);rw[←K.inj _ _ (G.symm.trans h4)];exact hf
  rw[A];have J:Instr.findNow K.kind (K.enc x) es.toList 0=some (some (0+j,e0.val)):=by simpa using dU
  simp[Instr.lookup,run_underlying ht,MapKept.run_getObj_map D,run_checkKey hk (K.isKey x),run_findKey hk J,Result.andThen]
theorem cF.look_ok (h:cF K w B f) (ht:P.underlying t=some (.map k e)) (hk:P.underlying k=some K.kind) (hz:∀w,(zeroValue e).run P w=.ok z w) (x:α):
 (Instr.lookup t (.map (some B)) (K.enc x) true).run P w=.ok (.tuple #[(f x).getD z,.bool (f x).isSome]) w:=by
 obtain⟨es,clock,D,hs,h1,H⟩:=h;rcases findNow_spec (K.isKey x) es.toList 0 (fun y hy=>by obtain⟨j,I,_⟩:=h1 y hy;rw[I];exact K.isKey j)with⟨dU,uF⟩|⟨j,e0,dU,h3,h4⟩
 ·have A:f x=none:=by
   cases hf:f x with
   |none=>rfl
   |some v=>
    obtain⟨y,hy,E⟩:=H x v hf;exact absurd E (uF y hy)
  rw[A];simp[Instr.lookup,run_underlying ht,MapKept.run_getObj_map D,run_checkKey hk (K.isKey x),run_findKey hk dU,Result.andThen,hz]
 ·have A:f x=some e0.val:=by
   obtain⟨j',G,hf⟩:=h1 e0 (List.mem_of_getElem? h3);rw[←K.inj _ _ (G.symm.trans h4)];exact hf
  rw[A];have J:Instr.findNow K.kind (K.enc x) es.toList 0=some (some (0+j,e0.val)):=by simpa using dU
  simp[Instr.lookup,run_underlying ht,MapKept.run_getObj_map D,run_checkKey hk (K.isKey x),run_findKey hk J,Result.andThen]
theorem look_nil (ht:P.underlying t=some (.map k e)) (hk:P.underlying k=some K.kind) (hz:∀w,(zeroValue e).run P w=.ok z w) (x:α) (w:World):
 (Instr.lookup t (.map none) (K.enc x) false).run P w=.ok z w:=by
 have hf:Instr.findNow K.kind (K.enc x) [] 0=some none:=rfl;simp[Instr.lookup,run_underlying ht,run_checkKey hk (K.isKey x),run_findKey hk hf,Result.andThen,hz]
end
section
variable {α:Type} [DecidableEq α] {K:ie α} {P:Program} {w:World} {ops:Array Oper} {rest:List Oper} {o:Oper} {a:Act} {Q:Exit→Act→World→Prop} {f:α→Option Value} {t k e:TypeId}
theorem cQ (hg:o.guard=none) (m x v:Operand) (bM:o.op=.mapUpdate t m x v) (ht:P.underlying t=some (.map k e)) (hk:P.underlying k=some K.kind)
 (B:Nat) (h:cF K w B f) (hm:a.eval m=.map (some B)) (key:α) (hx:a.eval x=K.enc key) (val:Value) (hv:a.eval v=val)
 (hK:∀w',Hid (cF K w' B (fun y=>if y=key then some val else f y))→Hid (Kept (aA B) w w')→w'.heap.size=w.heap.size→wpList P ops Q rest (a.put o.dst undef) w'):wpList P ops Q (o::rest) a w:=by
 refine wpList_plain hg fun G hK'=>?_
 subst hv;obtain⟨w',A,h1,D,E⟩:=h.put ht hk key (a.eval v);unfold Oper.wp;simp[execOp,bM,hm,hx,A,Result.andThen];exact hK' _ _ (hK w' (Qh h1) (Qh D) E)
end
end Mk
namespace Block
open bJ Go.Lib
variable {cs:Array Value} {T:Nat→Prop} {e:TypeId}
structure Sv where
 p:Option Addr
 n:Nat
 c:Nat
 bs:List UInt8
 q:Option Addr
 m:Nat
 d:Nat
 zs:List Int
structure Src (w:World) (g:Nat) (S:Sv) (a t:Nat):Prop where
 ei:w.heap[g]? =some (.cells #[.slice S.p S.n S.c,.int .i64 a,.slice S.q S.m S.d,.int .i64 t] 132 (0,0))
 gZ:cB w S.p S.n S.bs
 len:S.bs.length=S.n
 nc:S.n≤S.c
 cm:S.c≤maxLen
 big:S.n≤140737488351232
 le:a≤S.n
 NJ:Fx w S.q S.m S.zs
 RC:S.zs.length=S.m
 md:S.m≤S.d
 dm:S.d≤maxLen
 turn:0<S.m→t<S.m
 Ps:S.m=0→t=0
theorem gO {w:World} {g:Nat} (h:w.heap[g]? =some (.cells cs e (0,0))) (i:Nat):w.cell? ⟨g,i,none⟩=cs[i]? :=by
 simp[World.cell?,h]
theorem iB {w:World} {g:Nat} (h:w.heap[g]? =some (.cells cs e (0,0))) (i:Nat):w.frozen? ⟨g,i,none⟩=false:=by
 simp[World.frozen?,h]
theorem px {w:World} {g:Nat} (h:w.heap[g]? =some (.cells cs e (0,0))) (i:Nat) (v:Value) (hi:i<cs.size):(w.setCell ⟨g,i,none⟩ v).heap[g]? =some (.cells (cs.set i v hi) e (0,0)):=by
 simp only[World.setCell,Array.getElem?_modify,if_true,h];simp[Array.setIfInBounds,hi]
section
variable {w w':World} {g a t:Nat} {S:Sv}
theorem Src.lt (h:Src w g S a t):g<w.heap.size:=(Array.getElem?_eq_some_iff.1 h.ei).1
theorem Src.c0 (h:Src w g S a t):w.cell? ⟨g,0,none⟩=some (.slice S.p S.n S.c):=gO h.ei 0
theorem Src.c1 (h:Src w g S a t):w.cell? ⟨g,1,none⟩=some (.int .i64 a):=gO h.ei 1
theorem Src.c2 (h:Src w g S a t):w.cell? ⟨g,2,none⟩=some (.slice S.q S.m S.d):=gO h.ei 2
theorem Src.c3 (h:Src w g S a t):w.cell? ⟨g,3,none⟩=some (.int .i64 t):=gO h.ei 3
theorem Src.Rl (h:Src w g S a t):0<S.n→∀x,S.p=some x→x.block≠g:=fun A x B e=>by
 obtain⟨b,o,D,hc⟩:=h.gZ A;rw[D]at B;cases B;have h1:=hc 0 A;change b=g at e;subst e;rw[gO h.ei]at h1
 match o,h1 with
 |0,h1=>simp at h1
 |1,h1=>simp at h1
 |2,h1=>simp at h1
 |3,h1=>simp at h1
 |o+4,h1=>simp at h1
theorem Src.kept (h:Src w g S a t) (hk:Kept T w w') (hg:¬T g) (hp:0<S.n→∀x,S.p=some x→¬T x.block) (hq:0<S.m→∀x,S.q=some x→¬T x.block):Src w' g S a t:=
 ⟨hk.some_ h.ei hg,h.gZ.kept hk hp,h.len,h.nc,h.cm,h.big,h.le,h.NJ.kept hk hq,h.RC,h.md,h.dm,h.turn,h.Ps⟩
theorem Src.cJ (h:Src w g S a t) (hk:Kept ag w w'):Src w' g S a t:=h.kept hk id (fun _ _ _=>id) (fun _ _ _=>id)
end
def Sv.off (S:Sv) (g:Nat):Prop:=0<S.m→∀x,S.q=some x→x.block≠g
section
variable {w w':World} {g a t:Nat} {S:Sv}
theorem Src.at_ (h:Src w g S a t) (ho:S.off g) (b:Nat) (hb:b≤S.n):Src (w.setCell ⟨g,1,none⟩ (.int .i64 b)) g S b t:=by
 have hk:Kept (aA g) w (w.setCell ⟨g,1,none⟩ (.int .i64 b)):=(Kept.refl (aA g) w).setCell (Or.inr (show aA g g from rfl)) _;exact⟨px h.ei 1 _ (by simp),h.gZ.kept hk h.Rl,h.len,h.nc,h.cm,h.big,hb,h.NJ.kept hk ho,h.RC,h.md,h.dm,h.turn,h.Ps⟩
theorem Src.UU (h:Src w g S a t) (ho:S.off g) (b:Nat) (h1:0<S.m→b<S.m) (h2:S.m=0→b=0):Src (w.setCell ⟨g,3,none⟩ (.int .i64 b)) g S a b:=by
 have hk:Kept (aA g) w (w.setCell ⟨g,3,none⟩ (.int .i64 b)):=(Kept.refl (aA g) w).setCell (Or.inr (show aA g g from rfl)) _;exact⟨px h.ei 3 _ (by simp),h.gZ.kept hk h.Rl,h.len,h.nc,h.cm,h.big,h.le,h.NJ.kept hk ho,h.RC,h.md,h.dm,h1,h2⟩
end
def xX (S:Sv) (a:Nat):Value:=.slice (if S.c=a then S.p else S.p.map (·.add a)) (S.n - a) (S.c - a)
theorem lS (w:World) (g a t:Nat) (S:Sv) (h:Src w g S a t):
 Calls Tryz.prog 97 #[.pointer (some ⟨g,0,none⟩)] w fun e w'=>e=.returned (xX S a)∧Src w' g S a t∧Kept ag w w':=by
 have D:=h.c0;have h1:=h.c1;have hm:=h.cm;have B:=h.nc;have hle:=h.le;unfold maxLen at hm;have H:=Qh h;unfold xX;clear h;obtain⟨p,n,c,bs,q,m,d,zs⟩:=S
 dsimp only at D hm B hle⊢
 by_cases A:c=a
 ·subst A
  go_enter Tryz.func97,Tryz.ntmps97
  go_wp2
  go_quiet (fail)
  go_wp2;go_ret;exact⟨rfl,H.out.cJ ((Kept.refl _ _).drewN _),(Kept.refl _ _).drewN _⟩
 ·go_enter Tryz.func97,Tryz.ntmps97
  go_wp2
  go_quiet (fail)
  go_wp2;go_ret;exact⟨rfl,H.out.cJ ((Kept.refl _ _).drewN _),(Kept.refl _ _).drewN _⟩
theorem BZ (w:World) (g a t:Nat) (S:Sv) (h:Src w g S a t) (sO:S.m=0) (n:Int):
 Calls Tryz.prog 167 #[.pointer (some ⟨g,0,none⟩),.int .i64 n] w fun e w'=>e=.returned (.int .i64 n)∧w=w':=by
 have A:=h.c2;rw[sO]at A;clear h sO
 go_enter Tryz.func167,Tryz.ntmps167
 go_wp2;go_ret;exact⟨rfl,rfl⟩
def pk (w:World) (g a:Nat) (S:Sv) (n:Int) (e:Ending) (w':World):Prop:=
 ∃(k:Int) (t':Nat),e=.returned (.int .i64 k)∧1≤k∧k≤n∧Src w' g S a t'∧Kept (aA g) w w'
theorem uA {w:World} {g a t m:Nat} {S:Sv} {n k:Int} (H:Src w g S a t) (HO:S.off g) (hm:S.m=m) (sO:0<m) (h1:1≤k) (h2:k≤n):
 pk w g a S n (.returned (.int .i64 k)) (w.setCell ⟨g,3,none⟩ (.int .i64 (((t:Int)+1) % (m:Int)))).drew.drew:=by
 have e:(((t:Int)+1) % (m:Int))=(((t+1) % m:Nat):Int):=by simp
 rw[e];refine⟨k,(t+1) % m,rfl,h1,h2,?_,?_⟩
 ·exact(H.UU HO _ (fun _=>by rw[hm];exact Nat.mod_lt _ sO) (fun h=>by omega)).cJ (((Kept.refl _ _).drew).drew)
 ·exact(((Kept.refl (aA g) w).setCell (Or.inr (show aA g g from rfl)) _).drew).drew
theorem B0 (w:World) (g a t:Nat) (S:Sv) (h:Src w g S a t) (ho:S.off g) (sO:0<S.m) (n:Int) (hn:1≤n):
 Calls Tryz.prog 167 #[.pointer (some ⟨g,0,none⟩),.int .i64 n] w (pk w g a S n):=by
 have B:=h.c2;have O:=h.c3;have f3:=iB h.ei 3;obtain⟨b,o,D,M,hc⟩:=h.NJ sO;have E:=h.turn sO;have hcell:=hc t E;have L:=h.dm;have A:=h.md;unfold maxLen at L;obtain⟨z,G⟩:∃z,z=S.zs.getD t 0:=⟨_,rfl⟩
 rw[←G]at hcell;rw[D]at B;have H:=Qh h;have I:=Qh ho;have N:=Qh sO;obtain⟨m,hm⟩:∃m,S.m=m:=⟨_,rfl⟩
 have J:=Qh hm;rw[hm]at B E A sO;clear h ho hc M G D hm
 go_enter Tryz.func167,Tryz.ntmps167
 go_wp2
 go_region
 all_goals go_wp2
 all_goals go_region
 all_goals go_wp2
 all_goals go_ret
 all_goals exact uA H.out I.out J.out sO (by omega) (by omega)
theorem Gf (w:World) (g a t:Nat) (S:Sv) (h:Src w g S a t) (ho:S.off g) (n:Int) (hn:1≤n):
 Calls Tryz.prog 167 #[.pointer (some ⟨g,0,none⟩),.int .i64 n] w (pk w g a S n):=by
 rcases Nat.eq_zero_or_pos S.m with h0|h0
 ·refine(BZ w g a t S h h0 n).mono ?_
  rintro e w' ⟨rfl,rfl⟩;exact⟨n,t,rfl,hn,Int.le_refl _,h,Kept.refl _ _⟩
 ·exact B0 w g a t S h ho h0 n hn
def vk (w:World) (g a:Nat) (S:Sv) (n:Int) (e:Ending) (w':World):Prop:=
 ∃(p:Option Addr) (k c t':Nat),e=.returned (.slice p k c)∧a+k≤S.n∧(k:Int)≤n∧(a<S.n→0<k)∧k≤c∧cB w' p k ((S.bs.drop a).take k)∧Src w' g S (a+k) t'∧Kept (aA g) w w'
theorem je {w:World} {g a t:Nat} {S:Sv} (h:Src w g S a t):∃p,xX S a=.slice p (S.n - a) (S.c - a)∧cB w p (S.n - a) (S.bs.drop a)∧(0<S.n - a→∀x,p=some x→x.block≠g):=
 ⟨_,rfl,h.gZ.drop h.le h.nc h.len,fun B x A=>by
  rw[if_neg (by have:=h.nc;omega)]at A;obtain⟨y,hy,rfl⟩:=Option.map_eq_some_iff.1 A;have:=h.Rl (by omega) y hy;unfold Addr.add
  split<;>exact this⟩
theorem H9 (w:World) (g a t:Nat) (S:Sv) (h:Src w g S a t) (ho:S.off g) (n:Int) (hn:1≤n):
 Calls Tryz.prog 133 #[.pointer (some ⟨g,0,none⟩),.int .i64 n] w (vk w g a S n):=by
 have hle:=h.le;have Y:=h.nc;have O:=h.cm;unfold maxLen at O;obtain⟨l,hl⟩:∃l,l=S.n - a:=⟨_,rfl⟩
 obtain⟨d,hd⟩:∃d,d=S.c - a:=⟨_,rfl⟩
 have Mv:l≤d:=by omega
 have ZQ:d≤9223372036854775807:=by omega
 have T7:a+l≤9223372036854775807:=by omega
 have B:=Qh hl;have Z:=Qh hd;have H:=Qh h;have N:=Qh ho;have R:=Qh hle;clear h ho hl hd hle Y O
 go_enter Tryz.func133,Tryz.ntmps133
 go_wp2_with fail
 refine(lS _ g a t S H.out).mono ?_;rintro e w1 ⟨rfl,L,T⟩;obtain⟨p,W,G,A⟩:=je L;have z:=Qh A;rw[W,←B.out,←Z.out];rw[←B.out]at G;have mY:=Qh L;have r:=Qh T;have o:=Qh G;clear L T G W A;go_wp2_with fail;refine(Gf _ g a t S mY.out N.out n hn).mono ?_;rintro e E ⟨k,t2,rfl,hk,bQ,D,U⟩;have c1:=D.c1;have f1:=iB D.ei 1;have f:=Qh D;have X:=Qh U;clear D U;obtain⟨m,rfl⟩:∃m:Nat,k=m:=⟨k.toNat,by omega⟩
 have fin:∀j:Nat,1≤m→j≤l→(j:Int)≤n→(0<l→0<j)→vk w g a S n (.returned (.slice p j d)) (E.setCell ⟨g,1,none⟩ (.int .i64 ((a:Int)+(j:Int)))):=by
  intro j _ y J I;have e:((a:Int)+(j:Int))=((a+j:Nat):Int):=by simp
  rw[e];have A:0<j→∀x,p=some x→x.block≠g:=fun u=>z.out (by have:=B.out;omega)
  have b:=B.out;have q:=(o.out.take y).kept X.out A;have V:Kept (aA g) E (E.setCell ⟨g,1,none⟩ (.int .i64 ((a+j:Nat):Int))):=(Kept.refl (aA g) E).setCell (Or.inr (show aA g g from rfl)) _;refine⟨p,j,d,t2,rfl,?_,J,fun u=>I (by omega),by omega,q.kept V A,f.out.at_ N.out _ ?_,((r.out.dZ _).trans X.out).trans V⟩
  ·have:=R.out;omega
  ·have:=R.out;omega
 have M:=Qh fin;clear fin;go_wp2
 all_goals go_ret
 ·exact M.out l (by omega) (Qk _) (by omega) (fun h=>h)
 ·exact M.out m (by omega) (by omega) (by omega) (by omega)
def Ux:Value→Nat|.slice _ n _=>n|_=>0
def eR (w:World) (B:Nat) (v:Value) (n:Nat) (bs:List UInt8):Prop:=w.ownsRow B 5 1 v n ((nums bs).map (Value.int .u8))
theorem eR.kept {w w':World} (h:eR w B v n bs) (hk:Kept T w w') (hn:∀k,v.ownBlock=some k→¬T k):eR w' B v n bs:=bN h hk hn
theorem eR.slice {w:World} (h:eR w B v n bs):∃p c,v=.slice p n c∧n≤c∧c≤maxLen∧cB w p n bs∧bs.length=n∧∀x,p=some x→B≤x.block∧x.block<w.heap.size∧v.ownBlock=some x.block:=by
 obtain⟨p,c,E,h1,G,A,D⟩:=nB h (E7 bs);rw[iA]at A D;exact⟨p,c,E,h1,G,A,D,vY h E⟩
theorem eR.lt {w:World} (h:eR w B v n bs):∀k,v.ownBlock=some k→B≤k∧k<w.heap.size:=World.ownsRow.lt h
theorem eR.mono {w:World} {B':Nat} (h:eR w B v n bs) (hb:B'≤B):eR w B' v n bs:=
 ⟨h.1,h.2.imp id fun⟨g,cap,cur,h1,h2,h3⟩=>⟨g,cap,cur,h1,Nat.le_trans hb h2,h3⟩⟩
theorem Src.since {w0 w w':World} {g a0 t0 a t:Nat} {S:Sv} (h0:Src w0 g S a0 t0) (h:Src w g S a t) (hk:Kept T w w') (hT:∀k,T k→w0.heap.size≤k):Src w' g S a t:=
 h.kept hk (fun A=>by have:=hT g A;have:=h0.lt;omega)
  (fun D x B A=>by
   obtain⟨b,o,E,G,_⟩:=h0.gZ.cell D;rw[E]at B;cases B;have:=hT b A
   omega)
  (fun D x B A=>by
   obtain⟨b,o,E,G,_⟩:=h0.NJ D;rw[E]at B;cases B;have:=hT b A
   omega)
def lB (w:World) (g a:Nat) (S:Sv) (N:Nat) (e:Ending) (w':World):Prop:=
 (a+N≤S.n∧∃v,e=.returned (.tuple #[v,.int .i64 0])∧eR w' w.heap.size v N ((S.bs.drop a).take N)∧(∃t',Src w' g S (a+N) t')∧Kept (aA g) w w')∨
 (S.n<a+N∧e=.returned (.tuple #[.slice none 0 0,.int .i64 2])∧(∃t',Src w' g S S.n t')∧Kept (aA g) w w')
structure P0 (w:World) (g a:Nat) (S:Sv) (L N j:Nat) (v:Value) (wr:World):Prop where
 own:eR wr w.heap.size v j ((S.bs.drop a).take j)
 src:∃t',Src wr g S (a+j) t'
 kept:Kept (aA g) w wr
 jn:j≤N
 jl:j≤L
theorem qR (w:World) (g a t:Nat) (S:Sv) (h:Src w g S a t) (ho:S.off g) (N:Nat) (hN:N≤9223372036854775807):
 Calls Tryz.prog 98 #[.pointer (some ⟨g,0,none⟩),.int .i64 (N:Int)] w (lB w g a S N):=by
 obtain⟨i0,hi,fQ,eU,eX⟩:=info_parts lR;obtain⟨L,hL⟩:∃L,L=S.n - a:=⟨_,rfl⟩
 obtain⟨C,z,y⟩:∃C:Nat,(if(L:Int)<(N:Int)then(L:Int)else(N:Int))=(C:Int)∧C≤L:=by
  by_cases h:(L:Int)<(N:Int)
  ·exact⟨L,if_pos h,Qk _⟩
  ·exact⟨N,if_neg h,by omega⟩
 have Zu:(if L<N then(L:Int)else(N:Int))=(C:Int):=by
  rw[←z]
  by_cases h:L<N
  ·rw[if_pos h,if_pos (by omega)]
  ·rw[if_neg h,if_neg (by omega)]
 have d:=Qh hi;have lr:=Qh fQ;have jZ:=Qh eU;have lu:=Qh eX;have D:=Qh hL;have l:=Qh y;have H:=Qh h;have HO:=Qh ho;clear hi fQ eU eX hL y h ho
 go_enter Tryz.func98,Tryz.ntmps98
 go_wp2_with fail
 refine(lS _ g a t S H.out).mono ?_;rintro e Z ⟨rfl,Y,G⟩;obtain⟨p,hp,cf,fA⟩:=je Y;rw[hp,←D.out];have X:=Qh Y;have fB:=Qh G;clear Y G cf hp fA
 go_wp2_with (at_make;refine wpList_make_own _ rfl _ _ 26 rfl Z.heap.size 5 i0 (.int .u8 0) 1 Tryz.underlying26 d.out lr.out jZ.out .i64 .i64 (C:Int) C rfl rfl rfl ?b1 ?b2 (Qk _) ?_)
 case b1=>rw[lu.out];have:=X.out.big;have:=D.out;have:=l.out;omega
 case b2=>unfold maxLen;have:=X.out.big;have:=D.out;have:=l.out;omega
 intro w2 bh U;have V:Kept (aA g) w w2:=(fB.out.dZ _).grown U (by intro k hk;cases hk)
 have f:P0 w g a S L N 0 (.slice (some ⟨Z.heap.size,0,none⟩) 0 C) w2:=⟨eR.mono (bs:=[]) bh fB.out.size,⟨t,by
  have:=H.out.since X.out (T:=ag) ((Kept.refl ag Z).grown U (by intro k hk;cases hk)) (fun _ h=>h.elim)
  simpa using this⟩,V,Nat.zero_le _,Nat.zero_le _⟩
 have SU:=Qh f;clear bh U V f z Zu;go_wp2
 go_loopw [6] (fun v wr=>∃(j:Nat) (p:Option Addr) (c:Nat),j≤N∧v=.slice p j c∧Hid (P0 w g a S L N j v wr)) (fun v _=>N - Ux v)
 case atStart=>exact⟨0,_,C,Nat.zero_le _,rfl,SU⟩
 case round=>
  obtain⟨j,p,c,hjN,rfl,A⟩:=hrel;obtain⟨t3,uG⟩:=A.out.src;have r:=Qh uG;clear uG
  by_cases ax:j<N
  ·go_wp2_with fail
   refine(H9 _ g (a+j) t3 S r.out HO.out ((N:Int) - (j:Int)) (by omega)).mono ?_;rintro e w4 ⟨p',k,c',t4,rfl,G,V,dw,kI,hb,o,b⟩;have bQ:j+k≤N:=by omega
   have HB:=Qh hb;have m:=Qh o;have I:=Qh b;have J:=Qh G;have V4:=Qh dw;clear hb o b G dw
   by_cases eA:k=0
   ·subst eA
    have E:Hid (a+j=S.n):=Qh (by have:=J.out;have:=V4.out;omega);go_wp2;go_ret2;exact Or.inr ⟨by have:=E.out;omega,rfl,⟨t4,by have:=m.out;rw[←E.out];simpa using this⟩,A.out.kept.trans I.out⟩
   ·have hko:((k:Int)==0)=false:=by simpa using eA
    have u:eR w4 w.heap.size (.slice p j c) j ((S.bs.drop a).take j):=A.out.own.kept I.out (fun x B hg=>by
     have:=A.out.own.lt x B;have:=H.out.lt;have:x=g:=hg
     omega)
    have R:=Qh u;clear u
    go_wp2_with (at_builtin;refine kt rfl _ _ 26 rfl w.heap.size 5 i0 Tryz.underlying26 d.out lr.out jZ.out lu.out _ j _ rfl R.out p' k c' _ rfl HB.out ?d1 ?d2 ?d3 ?_)
    case d1=>have:=J.out;rw[Qg,Qe,H.out.len];omega
    case d2=>have:=J.out;have:=H.out.big;omega
    case d3=>exact(A.out.kept.trans I.out).size
    intro v' w5 O M
    have q:Hid (P0 w g a S L N (j+k) v' w5):=Qh (by
     refine⟨?_,⟨t4,?_⟩,?_,bQ,?_⟩
     ·unfold eR
      have e:(S.bs.drop a).take (j+k)=(S.bs.drop a).take j++((S.bs.drop (a+j)).take k):=by
       rw[List.take_add,List.drop_drop]
      rw[e];unfold nums at O⊢;rw[List.map_append,List.map_append];exact O
     ·have:=H.out.since m.out (T:=fun x=>some x=(Value.slice p j c).ownBlock) ((Kept.refl _ w4).grown M (fun x B=>Or.inr B.symm)) (fun x B=>(R.out.lt x B.symm).1)
      rw[←Nat.add_assoc];exact this
     ·exact(A.out.kept.trans I.out).grown M (fun x B=>Or.inl (R.out.lt x B).1)
     ·have:=J.out;have:=D.out;have:=H.out.le;omega)
    obtain⟨p5,c5,W,lP⟩:=(show eR w5 w.heap.size v' (j+k) _ from q.out.own).slice;clear lP O M;subst W;go_wp2;go_roundw
    case rel=>exact⟨j+k,_,c5,bQ,rfl,q⟩
    case measure=>simp[Ux];omega
  ·obtain rfl:j=N:=by omega
   go_wp2;go_ret2;exact Or.inl ⟨by have:=A.out.jl;have:=D.out;have:=H.out.le;omega,_,rfl,A.out.own,⟨t3,r.out⟩,A.out.kept⟩
end Block
namespace bJ
variable {args:Array Value} {f:FuncId} {P:Program} {w:World}
structure fW (w:World) where
 w':World
 bel:Below w.heap.size w w'
instance (w:World):Inhabited (fW w):=⟨⟨w,Below.refl _ _⟩⟩
theorem tU {b o:Nat} (h:w.cell? ⟨b,o,none⟩=some v):∀p:fW w,p.w'.cell? ⟨b,o,none⟩=some v:=
 fun p=>(p.bel.cell (p:=⟨b,o,none⟩) (World.block_lt_of_cell? _ _ h)).trans h
theorem aK {id:Nat} {Q:Exit→Act→World→Prop} {l:List Oper} (hm:P.follows .mixedOrders=true) (hB:Region.lexB .any l.toArray=true)
 (h:wpQuiet P l.toArray (fun w'=>∃p:fW w,w'=p.w') (fun a'=>∀w',(∃p:fW w,w'=p.w')→Q .normal a' w') l a):(Code.region id l.toArray true).wp P Q a w:=
 wp_region_quiet (C:=fun w'=>∃p:fW w,w'=p.w') hm hB ⟨⟨{w with drawn:=w.drawn+1},⟨rfl,rfl,rfl,Qk _,fun _ _=>rfl⟩⟩,rfl⟩ (by simpa using h)
theorem Calls.cX {p:fW w}
 (h:Calls P f args p.w' fun e w'=>e=.returned v∧Below p.w'.heap.size p.w' w'):Calls P f args p.w' fun e AQ=>e=.returned v∧∃q:fW w,AQ=q.w':=
 h.mono fun _ AQ ⟨he,hb⟩=>⟨he,⟨AQ,p.bel.trans (hb.mono p.bel.size)⟩,rfl⟩
theorem Calls.kV {p:fW w}
 (h:Calls P f args p.w' fun e w'=>e=.returned v∧p.w'=w'):Calls P f args p.w' fun e AQ=>e=.returned v∧∃q:fW w,AQ=q.w':=
 h.mono fun _ AQ ⟨he,hb⟩=>⟨he,p,hb.symm⟩
theorem cb {wq:World} (h:∃p:fW w,wq=p.w'):Below w.heap.size w wq:=by
 obtain⟨p,rfl⟩:=h;exact p.bel
end bJ
namespace Mk
open Go.MapKept bJ cn
section
variable {α:Type} {K:ie α} {w w':World} {B:Nat} {f:α→Option Value} {P:Program} {t k e:TypeId}
theorem cF.del [DecidableEq α] (h:cF K w B f) (ht:P.underlying t=some (.map k e)) (hk:P.underlying k=some K.kind) (x:α) (ty:TypeId):
 ∃w',(Builtin.delete_ #[t,k] ty #[.map (some B),K.enc x]).run P w=.ok (.tuple #[]) w'∧cF K w' B (fun y=>if y=x then none else f y)∧Kept (aA B) w w'∧w'.heap.size=w.heap.size:=by
 obtain⟨es,clock,D,hs,h1,O⟩:=h;rcases findNow_spec (K.isKey x) es.toList 0 (fun y hy=>by obtain⟨j,W,_⟩:=h1 y hy;rw[W];exact K.isKey j)with⟨dU,G⟩|⟨j,e0,dU,h3,h4⟩
 ·refine⟨Go.ChangeMaps.setBlock w B (.map es clock),?_,⟨_,_,(MapKept.heap_set D).1,hs,?_,?_⟩,jd D,by simp[Go.ChangeMaps.setBlock]⟩
  ·simp[Builtin.delete_,run_underlying ht,MapKept.run_getObj_map D,run_checkKey hk (K.isKey x),run_findKey hk dU,MapKept.run_setObj_map _ D,Result.andThen,Go.ChangeMaps.setBlock]
  ·intro y hy
   obtain⟨i,hi,hf⟩:=h1 y hy;refine⟨i,hi,?_⟩;show(if i=x then none else f i)=_;rw[if_neg (fun e=>G y hy (by rw[hi,e]))];exact hf
  ·intro i u hi
   have hi:(if i=x then none else f i)=some u:=hi
   by_cases N:i=x
   ·rw[if_pos N]at hi;cases hi
   ·rw[if_neg N]at hi
    exact O i u hi
 ·rw[Nat.zero_add]at dU
  have R:j<es.toList.length:=(List.getElem?_eq_some_iff.1 h3).1;have H:j<es.size:=by simpa using R
  have M:(es.eraseIdxIfInBounds j).toList=es.toList.eraseIdx j:=by
   unfold Array.eraseIdxIfInBounds;rw[dif_pos H];simp
  have T:∀i y,es.toList[i]? =some y→y.key=K.enc x→i=j:=fun i y hi hy=>by
   have I:(es.toList.map (·.key))[j]? =some (K.enc x):=by rw[List.getElem?_map,h3];simp[h4]
   have L:(es.toList.map (·.key))[i]? =some (K.enc x):=by rw[List.getElem?_map,hi];simp[hy]
   have R:j<(es.toList.map (·.key)).length:=(List.getElem?_eq_some_iff.1 I).1;have Y:i<(es.toList.map (·.key)).length:=(List.getElem?_eq_some_iff.1 L).1
   have V:(es.toList.map (·.key))[j]=(es.toList.map (·.key))[i]:=by
    have U:=(List.getElem?_eq_some_iff.1 I).2;have a2:=(List.getElem?_eq_some_iff.1 L).2;rw[U,a2]
   exact((List.getElem_inj hs.2.2).1 V).symm
  refine⟨Go.ChangeMaps.setBlock w B (.map (es.eraseIdxIfInBounds j) clock),?_,⟨_,_,(MapKept.heap_set D).1,stamped_erase hs j,?_,?_⟩,jd D,by simp[Go.ChangeMaps.setBlock]⟩
  ·simp[Builtin.delete_,run_underlying ht,MapKept.run_getObj_map D,run_checkKey hk (K.isKey x),run_findKey hk dU,MapKept.run_setObj_map _ D,Result.andThen,Go.ChangeMaps.setBlock]
  ·intro y hy
   rw[M]at hy;obtain⟨i,G,hi⟩:=List.mem_eraseIdx_iff_getElem?.1 hy;obtain⟨a,A,hf⟩:=h1 y (List.mem_of_getElem? hi);refine⟨a,A,?_⟩;show(if a=x then none else f a)=_;rw[if_neg (fun E=>G (T i y hi (by rw[A,E])))];exact hf
  ·intro a u A
   have A:(if a=x then none else f a)=some u:=A
   by_cases E:a=x
   ·rw[if_pos E]at A;cases A
   ·rw[if_neg E]at A
    obtain⟨y,hy,J⟩:=O a u A;refine⟨y,?_,J⟩;rw[M];obtain⟨i,hi⟩:=List.getElem?_of_mem hy;refine List.mem_eraseIdx_iff_getElem?.2 ⟨i,fun X=>E (K.inj _ _ ?_),hi⟩;rw[←J,←h4];rw[X,h3]at hi
    cases hi
    rfl
end
section
variable {α:Type} [DecidableEq α] {K:ie α} {P:Program} {w:World} {ops:Array Oper} {rest:List Oper} {o:Oper} {a:Act} {Q:Exit→Act→World→Prop} {f:α→Option Value} {t k e:TypeId}
theorem AU (hg:o.guard=none) (m x:Operand) (t k:TypeId) (bM:o.op=Op.call {callee:=Callee.builtin Builtin.delete,args:=#[m,x],argTypes:=#[t,k]}) (e:TypeId) (ht:P.underlying t=some (.map k e)) (hk:P.underlying k=some K.kind)
 (B:Nat) (h:cF K w B f) (hm:a.eval m=.map (some B)) (key:α) (hx:a.eval x=K.enc key)
 (hK:∀w',Hid (cF K w' B (fun y=>if y=key then none else f y))→Hid (Kept (aA B) w w')→w'.heap.size=w.heap.size→wpList P ops Q rest (a.put o.dst (.tuple #[])) w'):wpList P ops Q (o::rest) a w:=by
 refine wpList_plain hg fun G hK'=>?_
 obtain⟨w',A,h1,D,E⟩:=h.del ht hk key o.type;unfold Oper.wp;simp[execOp,bM,resolve,invoke,builtin,hm,hx,A,Result.andThen];exact hK' _ _ (hK w' (Qh h1) (Qh D) E)
end
end Mk
namespace Mp
open bJ Go.Lib
variable {listed:Array Bool} {md:Region.Mode}
def mu (n:Nat) (listed:Array Bool):Nat:=((List.range n).filter fun i=>!listed.getD i true).length
theorem ai (hi:i<listed.size) (j:Nat) (d:Bool):(listed.setIfInBounds i true).getD j d=if j=i then true else listed.getD j d:=by
 by_cases h:j=i
 ·subst h;simp[hi]
 ·simp[h,Array.getElem?_setIfInBounds_ne (Ne.symm h)]
theorem bA (h:listed.getD i true=false):i<listed.size:=by
 rcases Nat.lt_or_ge i listed.size with h'|h'
 ·exact h'
 ·simp[Array.getElem?_eq_none h']at h
theorem qa {P:Program} {Q:Exit→Act→World→Prop} (I:Array Bool→Act→World→Prop)
 (qz:∀listed a w i,I listed a w→i∈Region.ready md ops listed→wpOp P ops Q i (I (listed.setIfInBounds i true)) a w)
 (vE:∀listed a w,I listed a w→Region.ready md ops listed=[]→Q .normal a w):
 ∀(fuel:Nat) (listed:Array Bool) (a:Act) (w:World),mu ops.size listed≤fuel→I listed a w→wpAny P md ops Q fuel listed a w:=by
 intro fuel
 induction fuel with
 |zero=>
  intro listed a w J A
  have B:Region.ready md ops listed=[]:=by
   rw[List.eq_nil_iff_forall_not_mem];intro i hi;have h1:=mem_ready.1 hi;obtain⟨o,G,_⟩:=h1.2;have E:i∈(List.range ops.size).filter fun i=>!listed.getD i true:=List.mem_filter.2 ⟨List.mem_range.2 (Array.getElem?_eq_some_iff.1 G).1,by rw[h1.1];rfl⟩
   have L:(List.range ops.size).filter (fun i=>!listed.getD i true)=[]:=List.eq_nil_of_length_eq_zero (by simpa [mu]using J);rw[L]at E
   cases E
  exact⟨B,vE _ _ _ A B⟩
 |succ fuel ih=>
  intro listed a w J A;refine⟨fun B=>vE _ _ _ A B,fun i hi=>?_⟩;refine wpOp_mono (fun a' w' h=>ih _ _ _ ?_ h) (qz _ _ _ _ A hi);have h1:=mem_ready.1 hi;obtain⟨o,G,_⟩:=h1.2;have H:=bA h1.1
  have E:mu ops.size (listed.setIfInBounds i true)<mu ops.size listed:=by
   unfold mu;refine filter_lt _ _ (fun x D=>?_) i (by rw[h1.1];rfl) (by rw[ai H,if_pos rfl];rfl) _ (List.mem_range.2 (Array.getElem?_eq_some_iff.1 G).1);rw[ai H]at D;split at D
   ·cases D
   ·exact D
  omega
theorem ny (hs:listed.size=ops.size) (hd:∀i o,ops[i]? =some o→∀e∈o.after,Region.binds md e=true→e.on<i) (hr:Region.ready md ops listed=[]):
 ∀n i,i<n→i<ops.size→listed.getD i false=true:=by
 intro n
 induction n with
 |zero=>intro i h;omega
 |succ n ih=>
  intro i h hi
  by_cases B:i<n
  ·exact ih i B hi
  ·obtain rfl:i=n:=by omega
   cases hl:listed.getD i false with
   |true=>rfl
   |false=>
    have h1:listed.getD i true=false:=by
     simp only[Array.getD_eq_getD_getElem?]at hl⊢;rw[Array.getElem?_eq_getElem (by omega)]at hl⊢;exact hl
    have:i∈Region.ready md ops listed:=mem_ready.2 ⟨h1,ops[i],Array.getElem?_eq_getElem hi,fun e he A=>ih e.on (hd i _ (Array.getElem?_eq_getElem hi) e he A) (by
     have:=hd i _ (Array.getElem?_eq_getElem hi) e he A
     omega)⟩
    rw[hr]at this
    cases this
theorem dL {d:Nat} (v:Value) (hd:d<a.tmps.size):(a.put (some d) v).eval (.tmp t)=if t=d then v else a.eval (.tmp t):=by
 show((a.tmps.setIfInBounds d v).getD t undef)=_
 by_cases h:t=d
 ·subst h;simp[hd]
 ·rw[if_neg h]
  show _=a.tmps.getD t undef;simp[Array.getElem?_setIfInBounds_ne (Ne.symm h)]
theorem jo (a:Act) (d:Option Nat) (v:Value):(a.put d v).tmps.size=a.tmps.size:=by
 cases d<;>simp[Act.put]
theorem put_defers (a:Act) (d:Option Nat) (v:Value):(a.put d v).defers=a.defers:=by
 cases d<;>rfl
theorem JZ (a:Act) (v:Value):a.eval (.const v)=v:=rfl
theorem fq (h:listed.getD i true=false):listed.getD i false=false:=by
 have:=bA h;simp only[Array.getD_eq_getD_getElem?]at h⊢;rw[Array.getElem?_eq_getElem this]at h⊢;exact h
end Mp
namespace Mp
open bJ
variable {j:Nat}
structure RI (ops:Array Oper) (V:Nat→Value) (a0:Act) (W:Array Bool→World→Prop) (listed:Array Bool) (a:Act) (w:World):Prop where
 ls:listed.size=ops.size
 ts:a.tmps.size=a0.tmps.size
 df:a.defers=a0.defers
 done:∀j o d,ops[j]? =some o→o.dst=some d→listed.getD j false=true→a.eval (.tmp d)=V j
 same:∀t,(∀j o,ops[j]? =some o→o.dst=some t→listed.getD j false=false)→a.eval (.tmp t)=a0.eval (.tmp t)
 wd:W listed w
def xk (ops:Array Oper) (n:Nat):Bool:=
 (ops.toList.zipIdx.all fun x=>x.1.guard.isNone&&(x.1.after.all fun e=>decide (e.on<x.2))&&(match x.1.dst with
  |none=>true
  |some d=>decide (d<n)&&ops.toList.zipIdx.all fun y=>y.2==x.2||y.1.dst != some d))
theorem yP {ops:Array Oper} (h:xk ops n=true):∀i o,ops[i]? =some o→
 o.guard=none∧(∀e∈o.after,Region.binds .any e=true→e.on<i)∧(∀d,o.dst=some d→d<n∧∀j oj,ops[j]? =some oj→oj.dst=some d→j=i):=by
 intro i o G;unfold xk at h;rw[List.all_eq_true]at h
 have hm:∀(j:Nat) (oj:Oper),ops[j]? =some oj→(oj,j)∈ops.toList.zipIdx:=fun j oj B=>by
  rw[List.mem_iff_getElem?];exact⟨j,by simp[B]⟩
 have h1:=h (o,i) (hm i o G);simp only[Bool.and_eq_true]at h1;obtain⟨⟨D,E⟩,A⟩:=h1;refine⟨by simpa using D,fun e he _=>by simpa using Array.all_eq_true_iff_forall_mem.1 E e he,fun d hd=>?_⟩;rw[hd]at A;simp only[Bool.and_eq_true,decide_eq_true_eq]at A;refine⟨A.1,fun j oj B H=>?_⟩;have h5:=List.all_eq_true.1 A.2 (oj,j) (hm j oj B);simp only[Bool.or_eq_true,beq_iff_eq,bne_iff_ne]at h5;rcases h5 with h5|h5
 ·exact h5
 ·exact absurd H h5
theorem DZ {P:Program} {ops:Array Oper} {Q:Exit→Act→World→Prop} (V:Nat→Value) (a0:Act) (W:Array Bool→World→Prop) (n:Nat) (I6:xk ops n=true) (hn:n≤a0.tmps.size)
 (qz:∀listed a w j o,RI ops V a0 W listed a w→ops[j]? =some o→listed.getD j true=false→(∀e∈o.after,Region.binds .any e=true→listed.getD e.on false=true)→
  Oper.wp P o a w (fun a' w'=>a'=a.put o.dst (V j)∧W (listed.setIfInBounds j true) w') Q)
 (vE:∀listed a w,RI ops V a0 W listed a w→(∀j,j<ops.size→listed.getD j false=true)→Q .normal a w)
 {w:World} (h0:W (Array.replicate ops.size false) w):wpAny P .any ops Q ops.size (Array.replicate ops.size false) a0 w:=by
 have sp:=yP I6
 have no:∀j,(Array.replicate ops.size false).getD j false=false:=fun j=>by
  rw[Array.getD_eq_getD_getElem?,Array.getElem?_replicate];split<;>rfl
 refine qa (RI ops V a0 W) (fun listed a w' i h L=>?_) (fun listed a' w' h L=>?_) _ _ _ _ ?_ ?_
 ·obtain⟨R,o,D,Y⟩:=mem_ready.1 L
  have I:=bA R;obtain⟨b,_,hd⟩:=sp i o D;refine wpOp_step D fun K Z=>?_
  rw[if_pos (by simp[Region.wanted,b])];refine Oper.wp_mono (fun a' T c=>Z a' T ?_) (qz listed a w' i o h D R Y);obtain⟨rfl,hw⟩:=c;refine⟨by simpa using h.ls,by rw[jo];exact h.ts,by rw[put_defers];exact h.df,fun j G d A B hl=>?_,fun t O=>?_,hw⟩
  ·cases E:o.dst with
   |none=>
    have N:j≠i:=fun e=>by
     subst e;rw[D]at A
     cases A
     rw[E]at B
     cases B
    rw[ai I,if_neg N]at hl;exact h.done j G d A B hl
   |some d'=>
    obtain⟨J,U⟩:=hd d' E;have M:d'<a.tmps.size:=by rw[h.ts];exact Nat.lt_of_lt_of_le J hn
    rw[dL _ M]
    by_cases H:d=d'
    ·have:=U j G A (by rw[←H];exact B)
     rw[if_pos H,this]
    ·rw[if_neg H]
     have N:j≠i:=fun e=>by
      subst e;rw[D]at A
      cases A
      rw[E]at B;exact H (Option.some.inj B).symm
     rw[ai I,if_neg N]at hl;exact h.done j G d A B hl
  ·have X:o.dst≠some t:=fun e=>by
    have:=O i o D e;rw[ai I,if_pos rfl]at this
    cases this
   have hold:a.eval (.tmp t)=a0.eval (.tmp t):=h.same t fun j G A B=>by
    have h1:=O j G A B;rw[ai I]at h1;split at h1
    ·cases h1
    ·exact h1
   cases E:o.dst with
   |none=>exact hold
   |some d'=>
    obtain⟨J,_⟩:=hd d' E;rw[dL _ (by rw[h.ts];exact Nat.lt_of_lt_of_le J hn),if_neg (fun e=>X (by rw[E,e]))];exact hold
 ·exact vE _ _ _ h fun j A=>ny h.ls (fun i o D=>(sp i o D).2.1) L (j+1) j (by omega) A
 ·unfold mu
  exact Nat.le_trans (List.length_filter_le _ _) (by rw[List.length_range];exact Qk _)
 ·exact⟨Array.size_replicate,rfl,rfl,fun j o d _ _ hl=>(by rw[no]at hl;cases hl),fun t _=>rfl,h0⟩
def xA (ops:Array Oper) (j i:Nat):Bool:=((ops[j]?).map fun o=>o.after.any fun e=>e.on==i&&Region.binds .any e).getD false
def OM (ops:Array Oper) (t:Nat):Bool:=ops.toList.all fun o=>o.dst != some t
section
variable {ops:Array Oper} {V:Nat→Value} {a0 a:Act} {W:Array Bool→World→Prop} {listed:Array Bool} {w:World}
theorem RI.get (h:RI ops V a0 W listed a w) {d:Nat} {o:Oper} (ho:ops[j]? =some o) (bE:∀e∈o.after,Region.binds .any e=true→listed.getD e.on false=true) (hd:xA ops j i=true) (cj:(ops[i]?).bind (·.dst)=some d):a.eval (.tmp d)=V i:=by
 unfold xA at hd;rw[ho]at hd;obtain⟨e,he,B⟩:=Array.any_eq_true'.1 (show o.after.any _=true from hd);simp only[Bool.and_eq_true,beq_iff_eq]at B;have hl:=bE e he B.2;rw[B.1]at hl
 cases A:ops[i]? with
 |none=>rw[A]at cj;cases cj
 |some oi=>
  rw[A]at cj;exact h.done i oi d A cj hl
theorem RI.old (h:RI ops V a0 W listed a w) (hf:OM ops t=true):a.eval (.tmp t)=a0.eval (.tmp t):=
 h.same t fun j o A hd=>by
  unfold OM at hf;rw[List.all_eq_true]at hf;have:=hf o (by rw[Array.mem_toList_iff];exact Array.mem_of_getElem? A);rw[hd]at this;simp at this
end
def gF:Code→List (Nat × Array Oper)
 |.region id ops _=>[(id,ops)]
 |.seq a b=>gF a++gF b
 |.cond _ a b=>gF a++gF b
 |.block _ c=>gF c
 |.loop c=>gF c
 |_=>[]
def tO (f:Func) (id:Nat):Array Oper:=
 match f.body with
 |some c=>(((gF c).find? fun x=>x.1==id).map (·.2)).getD #[]
 |none=>#[]
section
variable {P:Program} {o:Oper} {a:Act} {w:World} {K:Act→World→Prop} {Q:Exit→Act→World→Prop}
theorem wp_move (x:Operand) (v:Value) (ho:o.op=.move x∨o.op=.assign x) (hx:a.eval x=v) (h:K (a.put o.dst v) w):Oper.wp P o a w K Q:=by
 unfold Oper.wp;rcases ho with ho|ho
 ·simp[execOp,ho,hx,Oper.upon_value];exact h
 ·simp[execOp,ho,hx,Oper.upon_value];exact h
theorem dQ (v:Value) (hr:(execOp a.eval o).run P w=.ok (.value v) w) (h:K (a.put o.dst v) w):Oper.wp P o a w K Q:=by
 unfold Oper.wp;rw[hr,Oper.upon_value];exact h
theorem mW (t:TypeId) (m x:Operand) (ho:o.op=.lookup t m x false) (mv xv v:Value) (hm:a.eval m=mv) (hx:a.eval x=xv) (hr:(Instr.lookup t mv xv false).run P w=.ok v w) (h:K (a.put o.dst v) w):Oper.wp P o a w K Q:=by
 unfold Oper.wp;simp[execOp,ho,hm,hx,hr,Result.andThen,Oper.upon_value];exact h
theorem Tc (a:Act) (f:FuncId):a.eval (.func f)=.func (.func f) #[] #[]:=rfl
theorem pe (f:FuncId) (xs:Array Operand) (ts:Array TypeId) (ho:o.op=.call {callee:=.value (.func f),args:=xs,argTypes:=ts}) (vs:Array Value) (hx:xs.map a.eval=vs)
 (hf:∀args w,(callFunc f args).run P w=.ok (.enter f args) w) (v:Value) (R:World→Prop) (hc:Calls P f vs w fun e w'=>e=.returned v∧R w') (h:∀w',R w'→K (a.put o.dst v) w'):Oper.wp P o a w K Q:=by
 unfold Oper.wp;simp[execOp,ho,resolve,invoke,hx,Tc,Deferred.ofValue,hf,Oper.upon];refine hc.mono fun e w' he=>?_
 obtain⟨rfl,A⟩:=he;exact h w' A
end
def nz (ops:Array Oper) (n:Nat):Bool:=
 (ops.toList.zipIdx.all fun x=>x.1.guard.isNone&&(x.1.after.all fun e=>decide (e.on<x.2)||!Region.binds .any e)&&(match x.1.dst with
  |none=>true
  |some d=>decide (d<n)&&ops.toList.zipIdx.all fun y=>y.2==x.2||y.1.dst != some d))
theorem lE {ops:Array Oper} (h:nz ops n=true):∀i o,ops[i]? =some o→
 o.guard=none∧(∀e∈o.after,Region.binds .any e=true→e.on<i)∧(∀d,o.dst=some d→d<n∧∀j oj,ops[j]? =some oj→oj.dst=some d→j=i):=by
 intro i o H;unfold nz at h;rw[List.all_eq_true]at h
 have hm:∀(j:Nat) (oj:Oper),ops[j]? =some oj→(oj,j)∈ops.toList.zipIdx:=fun j oj B=>by
  rw[List.mem_iff_getElem?];exact⟨j,by simp[B]⟩
 have h1:=h (o,i) (hm i o H);simp only[Bool.and_eq_true]at h1;obtain⟨⟨D,E⟩,A⟩:=h1;refine⟨by simpa using D,fun e he G=>?_,fun d hd=>?_⟩
 ·have h5:=Array.all_eq_true_iff_forall_mem.1 E e he
  rw[G]at h5
  simpa using h5
 rw[hd]at A;simp only[Bool.and_eq_true,decide_eq_true_eq]at A;refine⟨A.1,fun j oj B I=>?_⟩;have h5:=List.all_eq_true.1 A.2 (oj,j) (hm j oj B);simp only[Bool.or_eq_true,beq_iff_eq,bne_iff_ne]at h5;rcases h5 with h5|h5
 ·exact h5
 ·exact absurd I h5
theorem RI.next {ops:Array Oper} {V:Nat→Value} {a0 a:Act} {W W':Array Bool→World→Prop} {listed:Array Bool} {w w':World} (n:Nat) (I6:nz ops n=true) (hn:n≤a0.tmps.size) (h:RI ops V a0 W listed a w)
 {o:Oper} (ho:ops[i]? =some o) (lj:listed.getD i true=false) (hw:W' (listed.setIfInBounds i true) w'):RI ops V a0 W' (listed.setIfInBounds i true) (a.put o.dst (V i)) w':=by
 have H:=bA lj;obtain⟨R,_,hd⟩:=lE I6 i o ho;refine⟨by simpa using h.ls,by rw[jo];exact h.ts,by rw[put_defers];exact h.df,fun j E d A B hl=>?_,fun t M=>?_,hw⟩
 ·cases D:o.dst with
  |none=>
   have L:j≠i:=fun e=>by
    subst e;rw[ho]at A
    cases A
    rw[D]at B
    cases B
   rw[ai H,if_neg L]at hl;exact h.done j E d A B hl
  |some d'=>
   obtain⟨I,N⟩:=hd d' D;have J:d'<a.tmps.size:=by rw[h.ts];exact Nat.lt_of_lt_of_le I hn
   rw[dL _ J]
   by_cases G:d=d'
   ·have:=N j E A (by rw[←G];exact B)
    rw[if_pos G,this]
   ·rw[if_neg G]
    have L:j≠i:=fun e=>by
     subst e;rw[ho]at A
     cases A
     rw[D]at B;exact G (Option.some.inj B).symm
    rw[ai H,if_neg L]at hl;exact h.done j E d A B hl
 ·have O:o.dst≠some t:=fun e=>by
   have:=M i o ho e;rw[ai H,if_pos rfl]at this
   cases this
  have hold:a.eval (.tmp t)=a0.eval (.tmp t):=h.same t fun j E A B=>by
   have h1:=M j E A B;rw[ai H]at h1;split at h1
   ·cases h1
   ·exact h1
  cases D:o.dst with
  |none=>exact hold
  |some d'=>
   obtain⟨I,_⟩:=hd d' D;rw[dL _ (by rw[h.ts];exact Nat.lt_of_lt_of_le I hn),if_neg (fun e=>O (by rw[D,e]))];exact hold
theorem qU {Γ:Type} {P:Program} {ops:Array Oper} {Q:Exit→Act→World→Prop} (V:Γ→Nat→Value) (γ0:Γ) (a0:Act) (W:Γ→Array Bool→World→Prop) (n:Nat) (I6:nz ops n=true) (hn:n≤a0.tmps.size)
 (qz:∀γ listed a w j o,RI ops (V γ) a0 (W γ) listed a w→ops[j]? =some o→listed.getD j true=false→(∀e∈o.after,Region.binds .any e=true→listed.getD e.on false=true)→
  Oper.wp P o a w (fun a' w'=>∃γ',(∀i,listed.getD i false=true→V γ' i=V γ i)∧a'=a.put o.dst (V γ' j)∧W γ' (listed.setIfInBounds j true) w') Q)
 (vE:∀γ listed a w,RI ops (V γ) a0 (W γ) listed a w→(∀j,j<ops.size→listed.getD j false=true)→Q .normal a w)
 {w:World} (h0:W γ0 (Array.replicate ops.size false) w):wpAny P .any ops Q ops.size (Array.replicate ops.size false) a0 w:=by
 have sp:=lE I6
 have no:∀j,(Array.replicate ops.size false).getD j false=false:=fun j=>by
  rw[Array.getD_eq_getD_getElem?,Array.getElem?_replicate];split<;>rfl
 refine qa (fun listed a w'=>∃γ,RI ops (V γ) a0 (W γ) listed a w') (fun listed a w' i h E=>?_) (fun listed a' w' h E=>?_) _ _ _ _ ?_ ?_
 ·obtain⟨γ,h⟩:=h
  obtain⟨G,o,A,I⟩:=mem_ready.1 E;obtain⟨M,_,hd⟩:=sp i o A;refine wpOp_step A fun K L=>?_
  rw[if_pos (by simp[Region.wanted,M])];refine Oper.wp_mono (fun a' H N=>L a' H ?_) (qz γ listed a w' i o h A G I);obtain⟨γ',B,rfl,hw⟩:=N;have J:RI ops (V γ') a0 (fun _ _=>True) listed a w':=⟨h.ls,h.ts,h.df,fun j O d D R hl=>(h.done j O d D R hl).trans (B j hl).symm,h.same,trivial⟩
  exact⟨γ',J.next n I6 hn A G hw⟩
 ·obtain⟨γ,h⟩:=h
  exact vE γ _ _ _ h fun j D=>ny h.ls (fun i o A=>(sp i o A).2.1) E (j+1) j (by omega) D
 ·unfold mu
  exact Nat.le_trans (List.length_filter_le _ _) (by rw[List.length_range];exact Qk _)
 ·exact⟨γ0,Array.size_replicate,rfl,rfl,fun j o d _ _ hl=>(by rw[no]at hl;cases hl),fun t _=>rfl,h0⟩
def ch (ops:Array Oper) (i:Nat):Option Nat:=(ops[i]?).bind fun o=>o.dst
def ij (ops:Array Oper) (V:Nat→Value) (a0:Act):Nat→Act
 |0=>a0
 |n+1=>(ij ops V a0 n).put (ch ops n) (V n)
theorem Ap (a:Act) (v:Value):a.put none v=a:=rfl
theorem mc (ops:Array Oper) (V:Nat→Value) (a0:Act):∀n,(ij ops V a0 n).tmps.size=a0.tmps.size
 |0=>rfl
 |n+1=>by rw[ij,jo,mc ops V a0 n]
theorem nr (ops:Array Oper) (V:Nat→Value) (a0:Act):∀n,(ij ops V a0 n).defers=a0.defers
 |0=>rfl
 |n+1=>by rw[ij,put_defers,nr ops V a0 n]
theorem qN {a:Act} {d:Option Nat} (v:Value) (h:d≠some t):(a.put d v).eval (.tmp t)=a.eval (.tmp t):=by
 cases d with
 |none=>rfl
 |some d=>
  have A:¬d=t:=fun e=>h (by rw[e])
  show((a.tmps.setIfInBounds d v).getD t undef)=a.tmps.getD t undef;simp[Array.getElem?_setIfInBounds_ne A]
theorem qJ (ops:Array Oper) (V:Nat→Value) (a0:Act) (t:Nat):∀n,(∀j,j<n→ch ops j≠some t)→(ij ops V a0 n).eval (.tmp t)=a0.eval (.tmp t)
 |0,_=>rfl
 |n+1,h=>by
  rw[ij,qN _ (h n (by omega))];exact qJ ops V a0 t n fun j A=>h j (by omega)
theorem qK {ops:Array Oper} (V:Nat→Value) (a0:Act) {t:Nat} (ht:t<a0.tmps.size) {i:Nat} (hi:ch ops i=some t) (hu:∀j,ch ops j=some t→j=i):∀n,i<n→(ij ops V a0 n).eval (.tmp t)=V i
 |0,h=>absurd h (by omega)
 |n+1,h=>by
  rw[ij]
  by_cases A:n=i
  ·subst A
   rw[hi,dL _ (by rw[mc];exact ht),if_pos rfl]
  ·rw[qN _ (fun e=>A (hu n e))]
   exact qK V a0 ht hi hu n (by omega)
theorem M7 {a b:Act} (hs:a.tmps.size=b.tmps.size) (hd:a.defers=b.defers) (h:∀t,a.eval (.tmp t)=b.eval (.tmp t)):a=b:=by
 obtain⟨D,A⟩:=a;obtain⟨E,db⟩:=b;obtain rfl:A=db:=hd
 congr 1
 apply Array.ext hs;intro i h1 B;have:=h i;change D.getD i undef=E.getD i undef at this;rw[Array.getD_eq_getD_getElem?,Array.getD_eq_getD_getElem?,Array.getElem?_eq_getElem h1,Array.getElem?_eq_getElem B]at this;exact this
theorem iW {ops:Array Oper} {listed:Array Bool} {o:Oper} (ho:ops[j]? =some o) (bE:∀e∈o.after,Region.binds .any e=true→listed.getD e.on false=true) (hd:xA ops j i=true):listed.getD i false=true:=by
 unfold xA at hd;rw[ho]at hd;obtain⟨e,he,A⟩:=Array.any_eq_true'.1 (show o.after.any _=true from hd);simp only[Bool.and_eq_true,beq_iff_eq]at A;have hl:=bE e he A.2
 rwa [A.1]at hl
theorem oy {ops:Array Oper} {V:Nat→Value} {a0 a:Act} {W:Array Bool→World→Prop} {listed:Array Bool} {w:World} (n:Nat) (I6:nz ops n=true) (hn:n≤a0.tmps.size) (h:RI ops V a0 W listed a w) (hall:∀j,j<ops.size→listed.getD j false=true):a=ij ops V a0 ops.size:=by
 have sp:=lE I6;refine M7 (by rw[h.ts,mc]) (by rw[h.df,nr]) fun t=>?_
 by_cases hex:∃i,ch ops i=some t
 ·obtain⟨i,hi⟩:=hex
  cases A:ops[i]? with
  |none=>rw[ch,A]at hi;cases hi
  |some o=>
   have hd:o.dst=some t:=by rw[ch,A]at hi;exact hi
   have E:=(Array.getElem?_eq_some_iff.1 A).1;obtain⟨h1,G⟩:=(sp i o A).2.2 t hd
   rw[h.done i o t A hd (hall i E),qK V a0 (Nat.lt_of_lt_of_le h1 hn) hi (fun j B=>by
    cases D:ops[j]? with
    |none=>rw[ch,D]at B;cases B
    |some oj=>exact G j oj D (by rw[ch,D]at B;exact B)) _ E]
 ·rw[qJ ops V a0 t _ fun j _ e=>hex ⟨j,e⟩]
  exact h.same t fun j o A hd=>absurd ⟨j,by rw[ch,A];exact hd⟩ hex
end Mp
namespace Mk
open Go.MapKept bJ cn
def MD:ie UInt8 where
 enc c:=.int .u8 (c.toNat:Int)
 kind:=.int .u8
 isKey _:=rfl
 inj a b h:=by injection h with _ h;exact UInt8.toNat.inj (by omega)
 same a:=by
  rw[Instr.sameBits];simp
section
variable {α:Type} {K:ie α} {w:World} {B:Nat} {f:α→Option Value} {P:Program} {t k e:TypeId}
theorem cF.count (h:cF K w B f) (ht:P.underlying t=some (.map k e)) (ty:TypeId):∃n:Nat,(Builtin.len_ #[t] ty #[.map (some B)]).run P w=.ok (.int .i64 n) w∧(n=0↔∀x,f x=none):=by
 obtain⟨es,clock,D,hs,h1,A⟩:=h;refine⟨es.size,by simp[Builtin.len_,run_underlying ht,MapKept.run_getObj_map D,goInt,Result.andThen],fun G x=>?_,fun E=>?_⟩
 ·cases hf:f x with
  |none=>rfl
  |some v=>
   obtain⟨y,hy,_⟩:=A x v hf;rw[Array.eq_empty_of_size_eq_zero G]at hy;simp at hy
 ·rcases Nat.eq_zero_or_pos es.size with h0|h0
  ·exact h0
  ·obtain⟨j,_,hf⟩:=h1 es[0] (by simp)
   rw[E j]at hf
   cases hf
theorem cF.Nf (h:cF K w B f) (ht:P.underlying t=some (.map k e)) (ty:TypeId):
 ∃w',(Builtin.clear_ #[t] ty #[.map (some B)]).run P w=.ok (.tuple #[]) w'∧cF K w' B (fun _=>none)∧Kept (aA B) w w'∧w'.heap.size=w.heap.size:=by
 obtain⟨es,clock,A,hs,h1,D⟩:=h;refine⟨Go.ChangeMaps.setBlock w B (.map #[] clock),?_,⟨#[],clock,(MapKept.heap_set A).1,stamped_empty clock,by simp,by simp⟩,jd A,by simp[Go.ChangeMaps.setBlock]⟩;simp[Builtin.clear_,run_underlying ht,MapKept.run_getObj_map A,MapKept.run_setObj_map _ A,Result.andThen,Go.ChangeMaps.setBlock]
end
section
variable {α:Type} {K:ie α} {P:Program} {w:World} {ops:Array Oper} {rest:List Oper} {o:Oper} {a:Act} {Q:Exit→Act→World→Prop} {f:α→Option Value} {t k e:TypeId}
end
end Mk
end Go.Proofs.YtdhibldkldlfpaaGreatDoor
