/- Merged. -/
import Derived.Test.YtdhibldkldlfpaaGreatDoorEmitUnpacksX11
import Derived.Laws.AppendOwnNone
namespace Go.Proofs.YtdhibldkldlfpaaGreatDoor
set_option linter.unusedVariables false
set_option maxHeartbeats 1600000
open Go.ChangeShapes Go.WideShapes Go.ChangeAt Go.RowKit Base
variable {a:Act} {ops:Array Oper} {bs:List UInt8} {B i n t:Nat} {v:Value}
namespace cb
open Go.Lib
variable {Q:Exit→Act→World→Prop} {zs:List Int} {rest:List Oper} {xs:List Value} {k base size:Nat} {o:Oper} {p:Option Addr} {P:Program} {e:TypeId}
def nums (bs:List UInt8):List Int:=bs.map fun x=>(x.toNat:Int)
theorem od (bs:List UInt8):(nums bs).length=bs.length:=by simp[nums]
theorem O2 (bs:List UInt8):∀x∈nums bs,0≤x∧x<256:=fun x A=>by
 obtain⟨y,_,rfl⟩:=List.mem_map.1 A;have:=y.toNat_lt;omega
theorem qk (bs:List UInt8):bytesOf (nums bs)=bs:=by
 unfold bytesOf nums;rw[List.map_map]
 conv=>rhs;rw[←List.map_id bs]
 apply List.map_congr_left;intro x _;simp
theorem yv (bs:List UInt8) (j:Nat) (hj:j<bs.length):((nums bs).map (Value.int .u8))[j]? =some (.int .u8 (bs.getD j 0).toNat):=by
 simp[nums,List.getD,hj]
theorem kt {w:World} (vI:o.guard=none) (s x:Operand) (t:TypeId)
 (ho:o.op=.call {callee:=.builtin .append,args:=#[s,x],argTypes:=#[t,t]})
 (base:Nat) (e:TypeId) (i:TypeInfo) (ht:P.underlying t=some (.slice e)) (hi:P.info? e=some i) (hz:i.zero=some (.int .u8 0)) (kl:i.size=1) (sa:i.bytes=1)
 (v:Value) (n:Nat) (xs:List Int) (hs:a.eval s=v) (aK:w.ownsRow base e 1 v n (xs.map (Value.int .u8)))
 (p:Option Addr) (m c:Nat) (bs:List UInt8) (hx:a.eval x=.slice p m c) (hb:iC w p m bs) (hl:bs.length=m) (qy:n+m≤140737488351232) (jx:base≤w.heap.size)
 (h:∀v' w',w'.ownsRow base e 1 v' (n+m) ((xs++nums bs).map (Value.int .u8))→w.grownBy w' v.ownBlock→wpList P ops Q rest (a.put o.dst v') w'):wpList P ops Q (o::rest) a w:=by
 rcases p with _|ad
 ·have hm:m=0:=by
   rcases Nat.eq_zero_or_pos m with h0|h0
   ·exact h0
   ·obtain⟨_,_,he,_⟩:=hb h0
    cases he
  subst hm;obtain rfl:bs=[]:=List.eq_nil_of_length_eq_zero hl
  have G:(Builtin.append_ #[t,t] o.type #[v,.slice none 0 c]).run P w=.ok v w:=by
   rcases aK.2 with⟨rfl,rfl⟩|⟨g,cap,cur,rfl,_,_,Jo,_⟩
   ·simp[Builtin.append_,run_underlying ht,sizeOf,typeInfo,hi,Builtin.lenOf,Builtin.firstCells]
   ·simp[Builtin.append_,run_underlying ht,sizeOf,typeInfo,hi,Builtin.lenOf,Builtin.firstCells,Jo,storeCells]
  refine wpList_plain vI fun K E=>?_
  unfold Oper.wp;simp[execOp,ho,resolve,invoke,builtin,hs,hx,G,Result.andThen];exact E _ _ (h v w (by simpa [nums]using aK) (World.grownBy.refl w _))
 ·refine wpList_append_own w vI s x t ho base e i (.int .u8 0) 1 1 ht hi hz kl sa rfl (by decide) v n (xs.map (Value.int .u8)) hs aK ad m c ((nums bs).map (Value.int .u8)) hx (by rw[Qi,od,hl];omega) ?_ (ints_oneCell .u8 _) (by unfold maxLen;omega) (by omega) jx ?_
  ·intro j u A
   have B:j<m:=by
    have:=(List.getElem?_eq_some_iff.1 A).1;rw[Qi,od,hl]at this;exact this
   obtain⟨b,off,he,hc⟩:=hb (by omega)
   cases he
   rw[yv bs j (by omega)]at A
   cases A
   rw[WideShapes.add_plain];exact hc j B
  ·intro v' w' h1 D _
   rw[←List.map_append]at h1;exact h v' w' h1 D
structure Kept (S:Nat→Prop) (w w':World):Prop where
 os:w'.os=w.os
 tape:w'.tape=w.tape
 output:w'.output=w.output
 size:w.heap.size≤w'.heap.size
 block:∀k,k<w.heap.size→¬S k→w'.heap[k]? =w.heap[k]?
def ag:Nat→Prop:=fun _=>False
def aA (g:Nat):Nat→Prop:=fun k=>k=g
def zJ (g:Nat) (o:Option Nat):Nat→Prop:=fun k=>k=g∨some k=o
section
variable {S T:Nat→Prop} {w w' KA:World}
theorem Kept.refl (S:Nat→Prop) (w:World):Kept S w w:=⟨rfl,rfl,rfl,Qk _,fun _ _ _=>rfl⟩
theorem Kept.trans (h:Kept S w w') (k:Kept S w' KA):Kept S w KA:=
 ⟨k.os.trans h.os,k.tape.trans h.tape,k.output.trans h.output,Nat.le_trans h.size k.size,fun i hi A=>(k.block i (Nat.lt_of_lt_of_le hi h.size) A).trans (h.block i hi A)⟩
theorem Kept.mono (h:Kept S w w') (hs:∀k,S k→T k):Kept T w w':=⟨h.os,h.tape,h.output,h.size,fun k hk B=>h.block k hk fun A=>B (hs k A)⟩
theorem Kept.kC (h:Kept ag w w') (S:Nat→Prop):Kept S w w':=h.mono fun _ A=>A.elim
theorem Kept.drewN (h:Kept S w w') (n:Nat):Kept S w (w'.drewN n):=h.trans ⟨rfl,rfl,rfl,Qk _,fun _ _ _=>rfl⟩
theorem Kept.drew (h:Kept S w w'):Kept S w w'.drew:=h.trans ⟨rfl,rfl,rfl,Qk _,fun _ _ _=>rfl⟩
theorem Kept.alloc (h:Kept S w w') (o:Obj):Kept S w (w'.alloc o):=h.trans ⟨rfl,rfl,rfl,by simp,fun k hk _=>Below.heap_alloc _ _ _ hk⟩
theorem Kept.setCell (h:Kept S w w') {a:Addr} (ha:w.heap.size≤a.block∨S a.block) (v:Value):Kept S w (w'.setCell a v):=
 ⟨h.os,h.tape,h.output,by simpa using h.size,fun k hk A=>by
  rw[Below.heap_setCell _ _ _ _ (fun e=>by rcases ha with ha|ha;· omega
                                           ·exact A (e▸ha))]
  exact h.block k hk A⟩
theorem Kept.below (h:Kept S w w') (hB:B≤w.heap.size) (hs:∀k,S k→B≤k):Below B w w':=
 ⟨h.os,h.tape,h.output,h.size,fun k hk=>h.block k (by omega) fun A=>by have:=hs k A;omega⟩
theorem Kept.bj (h:Below w.heap.size w w') (S:Nat→Prop):Kept S w w':=⟨h.os,h.tape,h.output,h.size,fun k hk _=>h.block k hk⟩
theorem Kept.grown (h:Kept S w w') {row:Option Nat} (hg:w'.grownBy KA row) (hr:∀k,row=some k→w.heap.size≤k∨S k):Kept S w KA:=
 ⟨hg.os.trans h.os,hg.tape.trans h.tape,hg.output.trans h.output,Nat.le_trans h.size hg.size,fun k hk A=>by
  rw[hg.block k (Nat.lt_of_lt_of_le hk h.size) (fun e=>by rcases hr k e.symm with h1|h1;· omega
                                                          ·exact A h1)]
  exact h.block k hk A⟩
theorem Kept.then (h:Kept S w w') (k:Kept T w' KA) (hs:∀i,T i→w.heap.size≤i∨S i):Kept S w KA:=
 ⟨k.os.trans h.os,k.tape.trans h.tape,k.output.trans h.output,Nat.le_trans h.size k.size,fun i hi A=>by
  rw[k.block i (Nat.lt_of_lt_of_le hi h.size) (fun B=>by rcases hs i B with h1|h1;· omega
                                                         ·exact A h1)]
  exact h.block i hi A⟩
theorem Kept.at (h:Kept S w w') (hk:k<w.heap.size) (hn:¬S k):w'.heap[k]? =w.heap[k]? :=h.block k hk hn
theorem Kept.some_ (h:Kept S w w') {o:Obj} (hk:w.heap[k]? =some o) (hn:¬S k):w'.heap[k]? =some o:=
 (h.block k (Array.getElem?_eq_some_iff.1 hk).1 hn).trans hk
theorem iC.kept (h:iC w p n bs) (hk:Kept S w w') (hn:0<n→∀a,p=some a→¬S a.block):iC w' p n bs:=fun A=>by
 obtain⟨b,o,rfl,B,hc⟩:=h.cell A;exact⟨b,o,rfl,fun i hi=>by rw[World.cell?_of_block (hk.block b B (hn A _ rfl))];exact hc i hi⟩
theorem cg (h:w.ownsRow base e size v n xs) (hk:Kept S w w') (hn:∀k,v.ownBlock=some k→¬S k):w'.ownsRow base e size v n xs:=
 ⟨h.1,h.2.imp id fun⟨g,cap,cur,h1,h2,h3,h4⟩=>⟨g,cap,cur,h1,h2,hk.some_ h3 (hn g (by rw[h1];rfl)),h4⟩⟩
def N4 (w:World) (p:Option Addr) (n:Nat) (zs:List Int):Prop:=
 0<n→∃b o,p=some ⟨b,o,none⟩∧b<w.heap.size∧∀i,i<n→w.cell? ⟨b,o+i,none⟩=some (.int .i64 (zs.getD i 0))
theorem N4.kept (h:N4 w p n zs) (hk:Kept S w w') (hn:0<n→∀a,p=some a→¬S a.block):N4 w' p n zs:=fun A=>by
 obtain⟨b,o,rfl,B,hc⟩:=h A;exact⟨b,o,rfl,Nat.lt_of_lt_of_le B hk.size,fun i hi=>by rw[World.cell?_of_block (hk.block b B (hn A _ rfl))];exact hc i hi⟩
theorem Ml {a:Option Addr} {len cap:Nat} (h:IsRow .i64 w a len cap zs):N4 w a len (zs.take len)∧(zs.take len).length=len∧len≤cap∧cap≤maxLen:=by
 refine⟨fun A=>?_,?_⟩
 ·obtain⟨b,off,rfl,_,_,_,D,B,_⟩:=V0 h A
  exact⟨b,off,rfl,D,B⟩
 ·rcases h with⟨_,rfl,rfl,rfl⟩|⟨_,_,h1,h2,h3,_,_⟩
  ·exact⟨rfl,by omega,by omega⟩
  ·exact⟨by rw[Qg];omega,h1,h2⟩
theorem Mj (h:w.ownsRow base e 1 v n (zs.map (Value.int .i64))):
 ∃p c,v=.slice p n c∧n≤c∧c≤maxLen∧N4 w p n zs∧zs.length=n∧(∀a,p=some a→base≤a.block∧v.ownBlock=some a.block):=by
 have hl:zs.length=n:=by have:=h.1;simpa using this
 have A:=h.lt;have B:=h;rcases h.2 with⟨rfl,rfl⟩|⟨g,cap,cur,rfl,hg,_,h1,h2,_⟩
 ·exact⟨none,0,rfl,by omega,by omega,fun h=>absurd h (by omega),hl,fun a h=>by cases h⟩
 ·refine⟨some ⟨g,0,none⟩,cap,rfl,h1,h2,fun D=>⟨g,0,rfl,(A g rfl).2,fun i hi=>?_⟩,hl,fun a h=>by cases h;exact⟨hg,rfl⟩⟩
  rw[Nat.zero_add,B.cellAt i (by omega),List.getElem?_map,Qd (by omega)];simp[List.getD,hl,hi]
theorem Fq (h:w.ownsRow base e size v n xs) {m c:Nat} (hv:v=.slice p m c):∀a,p=some a→base≤a.block∧a.block<w.heap.size∧v.ownBlock=some a.block:=fun a ha=>by
 subst ha hv;exact⟨(h.lt _ rfl).1,(h.lt _ rfl).2,rfl⟩
theorem IH {w:World} (vI:o.guard=none) (s x:Operand) (t:TypeId)
 (ho:o.op=.call {callee:=.builtin .append,args:=#[s,x],argTypes:=#[t,t]})
 (base:Nat) (e:TypeId) (i:TypeInfo) (ht:P.underlying t=some (.slice e)) (hi:P.info? e=some i) (hz:i.zero=some (.int .i64 0)) (kl:i.size=1) (sa:i.bytes=8)
 (v:Value) (n:Nat) (xs:List Int) (hs:a.eval s=v) (aK:w.ownsRow base e 1 v n (xs.map (Value.int .i64)))
 (p:Option Addr) (m c:Nat) (zs:List Int) (hx:a.eval x=.slice p m c) (hb:N4 w p m zs) (hl:zs.length=m) (qy:(n+m)*8≤140737488351232) (jx:base≤w.heap.size)
 (h:∀v' w',w'.ownsRow base e 1 v' (n+m) ((xs++zs).map (Value.int .i64))→w.grownBy w' v.ownBlock→wpList P ops Q rest (a.put o.dst v') w'):wpList P ops Q (o::rest) a w:=by
 rcases p with _|ad
 ·have hm:m=0:=by
   rcases Nat.eq_zero_or_pos m with h0|h0
   ·exact h0
   ·obtain⟨_,_,he,_⟩:=hb h0
    cases he
  subst hm;obtain rfl:zs=[]:=List.eq_nil_of_length_eq_zero hl
  have G:(Builtin.append_ #[t,t] o.type #[v,.slice none 0 c]).run P w=.ok v w:=by
   rcases aK.2 with⟨rfl,rfl⟩|⟨g,cap,cur,rfl,_,_,Jo,_⟩
   ·simp[Builtin.append_,run_underlying ht,sizeOf,typeInfo,hi,Builtin.lenOf,Builtin.firstCells]
   ·simp[Builtin.append_,run_underlying ht,sizeOf,typeInfo,hi,Builtin.lenOf,Builtin.firstCells,Jo,storeCells]
  refine wpList_plain vI fun K E=>?_
  unfold Oper.wp;simp[execOp,ho,resolve,invoke,builtin,hs,hx,G,Result.andThen];exact E _ _ (h v w (by simpa using aK) (World.grownBy.refl w _))
 ·refine wpList_append_own w vI s x t ho base e i (.int .i64 0) 1 8 ht hi hz kl sa rfl (by decide) v n (xs.map (Value.int .i64)) hs aK ad m c (zs.map (Value.int .i64)) hx (by rw[Qi,hl];omega) ?_ (ints_oneCell .i64 _) (by unfold maxLen;omega) (by omega) jx ?_
  ·intro j u A
   have B:j<m:=by
    have:=(List.getElem?_eq_some_iff.1 A).1;rw[Qi,hl]at this;exact this
   obtain⟨b,off,he,_,hc⟩:=hb (by omega)
   cases he
   rw[List.getElem?_map,Qd (by omega)]at A
   cases A
   rw[WideShapes.add_plain,hc j B];simp[List.getD,Qd (show j<zs.length by omega)]
  ·intro v' w' h1 D _
   rw[←List.map_append]at h1;exact h v' w' h1 D
end
theorem qZ:(Tryz.prog.info? 5).map (fun i=>(i.zero,i.size,i.bytes))=some (some (.int .u8 0),1,1):=by kernel_rfl
theorem Yn:(Tryz.prog.info? 3).map (fun i=>(i.zero,i.size,i.bytes))=some (some (.int .i64 0),1,8):=by kernel_rfl
end cb
namespace Mk
open Go.MapKept cb iK
variable {z:Value}
structure pZ (α:Type) where
 enc:α→Value
 kind:TypeDesc
 isKey:∀a,IsKey kind (enc a)
 inj:∀a b,enc a=enc b→a=b
 same:∀a,Instr.sameBits 10000 (enc a) (enc a)=true
def p8:pZ (List UInt8) where
 enc l:=.string (str l)
 kind:=.string
 isKey _:=trivial
 inj a b h:=by injection h with h;exact str_inj h
 same a:=by
  rw[Instr.sameBits]
  simpa using Y7 a a
section
variable {α:Type} (K:pZ α)
def jj (w:World) (B:Nat) (f:α→Option Value):Prop:=
 ∃es clock,w.heap[B]? =some (.map es clock)∧Stamped es clock∧(∀e∈es.toList,∃k,e.key=K.enc k∧f k=some e.val)∧(∀k v,f k=some v→∃e∈es.toList,e.key=K.enc k)
variable {K} {w w':World} {B:Nat} {f:α→Option Value}
theorem jj.lt (h:jj K w B f):B<w.heap.size:=by
 obtain⟨es,clock,A,_⟩:=h;exact(Array.getElem?_eq_some_iff.1 A).1
theorem jj.kept {S:Nat→Prop} (h:jj K w B f) (hk:Kept S w w') (hB:¬S B):jj K w' B f:=by
 obtain⟨es,clock,A,h⟩:=h;exact⟨es,clock,hk.some_ A hB,h⟩
theorem qG (K:pZ α) (w:World):jj K (w.alloc (.map #[] 0)) w.heap.size (fun _=>none):=
 ⟨#[],0,(MapKept.heap_alloc w _).1,stamped_empty 0,by simp,by simp⟩
theorem q9 {o o':Obj} (hb:w.heap[B]? =some o):Kept (aA B) w (Go.ChangeMaps.setBlock w B o'):=
 ⟨rfl,rfl,rfl,by simp[Go.ChangeMaps.setBlock],fun k hk A=>(MapKept.heap_set hb).2 k A⟩
variable {P:Program} {t k e:TypeId}
theorem jj.put [DecidableEq α] (h:jj K w B f) (ht:P.underlying t=some (.map k e)) (hk:P.underlying k=some K.kind) (x:α) (v:Value):
 ∃w',(Instr.mapUpdate t (.map (some B)) (K.enc x) v).run P w=.ok () w'∧jj K w' B (fun y=>if y=x then some v else f y)∧Kept (aA B) w w'∧w'.heap.size=w.heap.size:=by
 obtain⟨es,clock,D,hs,h1,T⟩:=h;rcases findNow_spec (K.isKey x) es.toList 0 (fun y hy=>by obtain⟨j,A,_⟩:=h1 y hy;rw[A];exact K.isKey j)with⟨kj,ck⟩|⟨j,e0,kj,h3,h4⟩
 ·refine⟨Go.ChangeMaps.setBlock w B (.map (es.push {key:=K.enc x,val:=v,born:=clock}) (clock+1)),?_,⟨_,_,(MapKept.heap_set D).1,stamped_push hs ck,?_,?_⟩,q9 D,by simp[Go.ChangeMaps.setBlock]⟩
  ·simp[Instr.mapUpdate,run_underlying ht,MapKept.run_getObj_map D,run_checkKey hk (K.isKey x),run_findKey hk kj,MapKept.run_setObj_map _ D,Result.andThen,Go.ChangeMaps.setBlock]
  ·intro y hy
   simp only[Array.toList_push,List.mem_append,List.mem_singleton]at hy;rcases hy with hy|rfl
   ·obtain⟨j,A,hf⟩:=h1 y hy
    refine⟨j,A,?_⟩;show(if j=x then some v else f j)=_;rw[if_neg (fun e=>ck y hy (by rw[A,e]))];exact hf
   ·exact⟨x,rfl,by show(if x=x then some v else f x)=_;rw[if_pos rfl]⟩
  ·intro j u A
   simp only[Array.toList_push,List.mem_append,List.mem_singleton];have A:(if j=x then some v else f j)=some u:=A
   by_cases I:j=x
   ·exact⟨_,Or.inr rfl,by rw[I]⟩
   ·rw[if_neg I]at A
    obtain⟨y,hy,hk⟩:=T j u A;exact⟨y,Or.inl hy,hk⟩
 ·rw[Nat.zero_add]at kj
  have M:es[j]? =some e0:=by simpa using h3
  have N:∀w:World,(Instr.keyThatStays (((es[j]?).map (·.key)).getD (K.enc x)) (K.enc x)).run P w=.ok (K.enc x) w:=fun w=>by
   rw[M];simp only[Option.map_some,Option.getD_some,h4,Instr.keyThatStays,K.same x,if_true];rfl
  refine⟨Go.ChangeMaps.setBlock w B (.map (es.modify j fun e=>{e with key:=K.enc x,val:=v}) clock),?_,⟨_,_,(MapKept.heap_set D).1,?_,?_,?_⟩,q9 D,by simp[Go.ChangeMaps.setBlock]⟩
  ·simp only[Instr.mapUpdate,Sem.run_bind,run_underlying ht,MapKept.run_getObj_map D,run_checkKey hk (K.isKey x),run_findKey hk kj,N,Result.andThen]
   simp[MapKept.run_setObj_map _ D,Go.ChangeMaps.setBlock]
  ·exact stamped_modify hs j _ (fun _ _=>rfl) fun e he H=>by
    rw[M]at H
    cases H
    exact h4.symm
  ·intro y hy
   obtain⟨i,hi⟩:=List.getElem?_of_mem hy;rw[Array.getElem?_toList,Array.getElem?_modify]at hi
   by_cases E:j=i
   ·rw[if_pos E]at hi
    rw[←E,M]at hi
    cases hi
    exact⟨x,rfl,by show(if x=x then some v else f x)=_;rw[if_pos rfl]⟩
   ·rw[if_neg E]at hi
    have Z:y∈es.toList:=List.mem_of_getElem? (by rw[Array.getElem?_toList];exact hi);obtain⟨a,ha,hf⟩:=h1 y Z;refine⟨a,ha,?_⟩;show(if a=x then some v else f a)=_;rw[if_neg (fun L=>?_)]
    ·exact hf
    ·subst L
     have d:j<es.toList.length:=(List.getElem?_eq_some_iff.1 h3).1
     have X:i<es.toList.length:=by
      have:=(Array.getElem?_eq_some_iff.1 hi).1
      simpa using this
     have Y:=hs.2.2;have R:(es.toList.map (·.key))[j]? =some (K.enc a):=by rw[List.getElem?_map,h3];simp[h4]
     have J:(es.toList.map (·.key))[i]? =some (K.enc a):=by rw[List.getElem?_map,Array.getElem?_toList,hi];simp[ha]
     have b:j<(es.toList.map (·.key)).length:=(List.getElem?_eq_some_iff.1 R).1;have c:i<(es.toList.map (·.key)).length:=(List.getElem?_eq_some_iff.1 J).1
     have W:(es.toList.map (·.key))[j]=(es.toList.map (·.key))[i]:=by
      have V:=(List.getElem?_eq_some_iff.1 R).2;have a2:=(List.getElem?_eq_some_iff.1 J).2;rw[V,a2]
     exact E ((List.getElem_inj Y).1 W)
  ·intro a u ha
   have ha:(if a=x then some v else f a)=some u:=ha
   have key:∀y∈es.toList,∃z∈(es.modify j fun e=>{e with key:=K.enc x,val:=v}).toList,z.key=y.key:=fun y hy=>by
    obtain⟨i,hi⟩:=List.getElem?_of_mem hy;rw[Array.getElem?_toList]at hi
    by_cases E:j=i
    ·subst E
     refine⟨{y with key:=K.enc x,val:=v},List.mem_of_getElem? (i:=j) (by rw[Array.getElem?_toList,Array.getElem?_modify,if_pos rfl,hi];rfl),?_⟩;rw[M]at hi
     cases hi
     exact h4.symm
    ·exact⟨y,List.mem_of_getElem? (i:=i) (by rw[Array.getElem?_toList,Array.getElem?_modify,if_neg E];exact hi),rfl⟩
   by_cases L:a=x
   ·obtain⟨z,O,G⟩:=key e0 (List.mem_of_getElem? h3)
    exact⟨z,O,by rw[G,h4,L]⟩
   ·rw[if_neg L]at ha
    obtain⟨y,hy,U⟩:=T a u ha;obtain⟨z,O,G⟩:=key y hy;exact⟨z,O,by rw[G,U]⟩
theorem jj.look (h:jj K w B f) (ht:P.underlying t=some (.map k e)) (hk:P.underlying k=some K.kind) (hz:∀w,(zeroValue e).run P w=.ok z w) (x:α):
 (Instr.lookup t (.map (some B)) (K.enc x) false).run P w=.ok ((f x).getD z) w:=by
 obtain⟨es,clock,D,hs,h1,I⟩:=h;rcases findNow_spec (K.isKey x) es.toList 0 (fun y hy=>by obtain⟨j,J,_⟩:=h1 y hy;rw[J];exact K.isKey j)with⟨kj,oH⟩|⟨j,e0,kj,h3,h4⟩
 ·have A:f x=none:=by
   cases hf:f x with
   |none=>rfl
   |some v=>
    obtain⟨y,hy,H⟩:=I x v hf;exact absurd H (oH y hy)
  rw[A];simp[Instr.lookup,run_underlying ht,MapKept.run_getObj_map D,run_checkKey hk (K.isKey x),run_findKey hk kj,Result.andThen,hz]
 ·have A:f x=some e0.val:=by
   obtain⟨j',G,hf⟩:=h1 e0 (List.mem_of_getElem? h3);rw[←K.inj _ _ (G.symm.trans h4)];exact hf
  rw[A];have E:Instr.findNow K.kind (K.enc x) es.toList 0=some (some (0+j,e0.val)):=by simpa using kj
  simp[Instr.lookup,run_underlying ht,MapKept.run_getObj_map D,run_checkKey hk (K.isKey x),run_findKey hk E,Result.andThen]
theorem jj.look_ok (h:jj K w B f) (ht:P.underlying t=some (.map k e)) (hk:P.underlying k=some K.kind) (hz:∀w,(zeroValue e).run P w=.ok z w) (x:α):
 (Instr.lookup t (.map (some B)) (K.enc x) true).run P w=.ok (.tuple #[(f x).getD z,.bool (f x).isSome]) w:=by
 obtain⟨es,clock,D,hs,h1,I⟩:=h;rcases findNow_spec (K.isKey x) es.toList 0 (fun y hy=>by obtain⟨j,J,_⟩:=h1 y hy;rw[J];exact K.isKey j)with⟨kj,oH⟩|⟨j,e0,kj,h3,h4⟩
 ·have A:f x=none:=by
   cases hf:f x with
   |none=>rfl
   |some v=>
    obtain⟨y,hy,H⟩:=I x v hf;exact absurd H (oH y hy)
  rw[A];simp[Instr.lookup,run_underlying ht,MapKept.run_getObj_map D,run_checkKey hk (K.isKey x),run_findKey hk kj,Result.andThen,hz]
 ·have A:f x=some e0.val:=by
   obtain⟨j',G,hf⟩:=h1 e0 (List.mem_of_getElem? h3);rw[←K.inj _ _ (G.symm.trans h4)];exact hf
  rw[A];have E:Instr.findNow K.kind (K.enc x) es.toList 0=some (some (0+j,e0.val)):=by simpa using kj
  simp[Instr.lookup,run_underlying ht,MapKept.run_getObj_map D,run_checkKey hk (K.isKey x),run_findKey hk E,Result.andThen]
theorem look_nil (ht:P.underlying t=some (.map k e)) (hk:P.underlying k=some K.kind) (hz:∀w,(zeroValue e).run P w=.ok z w) (x:α) (w:World):
 (Instr.lookup t (.map none) (K.enc x) false).run P w=.ok z w:=by
 have hf:Instr.findNow K.kind (K.enc x) [] 0=some none:=rfl;simp[Instr.lookup,run_underlying ht,run_checkKey hk (K.isKey x),run_findKey hk hf,Result.andThen,hz]
end
section
variable {α:Type} [DecidableEq α] {K:pZ α} {P:Program} {w:World} {ops:Array Oper} {rest:List Oper} {o:Oper} {a:Act} {Q:Exit→Act→World→Prop} {f:α→Option Value} {t k e:TypeId}
theorem jA (hg:o.guard=none) (m x v:Operand) (bk:o.op=.mapUpdate t m x v) (ht:P.underlying t=some (.map k e)) (hk:P.underlying k=some K.kind)
 (B:Nat) (h:jj K w B f) (hm:a.eval m=.map (some B)) (key:α) (hx:a.eval x=K.enc key) (val:Value) (hv:a.eval v=val)
 (hK:∀w',Hid (jj K w' B (fun y=>if y=key then some val else f y))→Hid (Kept (aA B) w w')→w'.heap.size=w.heap.size→wpList P ops Q rest (a.put o.dst undef) w'):wpList P ops Q (o::rest) a w:=by
 refine wpList_plain hg fun G hK'=>?_
 subst hv;obtain⟨w',E,h1,A,D⟩:=h.put ht hk key (a.eval v);unfold Oper.wp;simp[execOp,bk,hm,hx,E,Result.andThen];exact hK' _ _ (hK w' (Qh h1) (Qh A) D)
end
end Mk
namespace Block
open cb Go.Lib
variable {cs:Array Value} {T:Nat→Prop} {e:TypeId}
structure Sv where
 p:Option Addr
 n:Nat
 c:Nat
 bs:List UInt8
 q:Option Addr
 m:Nat
 d:Nat
 zs:List Int
structure Src (w:World) (g:Nat) (S:Sv) (a t:Nat):Prop where
 pE:w.heap[g]? =some (.cells #[.slice S.p S.n S.c,.int .i64 a,.slice S.q S.m S.d,.int .i64 t] 132 (0,0))
 nB:iC w S.p S.n S.bs
 len:S.bs.length=S.n
 nc:S.n≤S.c
 cm:S.c≤maxLen
 big:S.n≤140737488351232
 le:a≤S.n
 Ym:N4 w S.q S.m S.zs
 aj5:S.zs.length=S.m
 md:S.m≤S.d
 dm:S.d≤maxLen
 turn:0<S.m→t<S.m
 aa3:S.m=0→t=0
theorem pK {w:World} {g:Nat} (h:w.heap[g]? =some (.cells cs e (0,0))) (i:Nat):w.cell? ⟨g,i,none⟩=cs[i]? :=by
 simp[World.cell?,h]
theorem qm {w:World} {g:Nat} (h:w.heap[g]? =some (.cells cs e (0,0))) (i:Nat):w.frozen? ⟨g,i,none⟩=false:=by
 simp[World.frozen?,h]
theorem yW {w:World} {g:Nat} (h:w.heap[g]? =some (.cells cs e (0,0))) (i:Nat) (v:Value) (hi:i<cs.size):(w.setCell ⟨g,i,none⟩ v).heap[g]? =some (.cells (cs.set i v hi) e (0,0)):=by
 simp only[World.setCell,Array.getElem?_modify,if_true,h];simp[Array.setIfInBounds,hi]
section
variable {w w':World} {g a t:Nat} {S:Sv}
theorem Src.lt (h:Src w g S a t):g<w.heap.size:=(Array.getElem?_eq_some_iff.1 h.pE).1
theorem Src.c0 (h:Src w g S a t):w.cell? ⟨g,0,none⟩=some (.slice S.p S.n S.c):=pK h.pE 0
theorem Src.c1 (h:Src w g S a t):w.cell? ⟨g,1,none⟩=some (.int .i64 a):=pK h.pE 1
theorem Src.c2 (h:Src w g S a t):w.cell? ⟨g,2,none⟩=some (.slice S.q S.m S.d):=pK h.pE 2
theorem Src.c3 (h:Src w g S a t):w.cell? ⟨g,3,none⟩=some (.int .i64 t):=pK h.pE 3
theorem Src.ah5 (h:Src w g S a t):0<S.n→∀x,S.p=some x→x.block≠g:=fun A x B e=>by
 obtain⟨b,o,D,hc⟩:=h.nB A;rw[D]at B;cases B;have h1:=hc 0 A;change b=g at e;subst e;rw[pK h.pE]at h1
 match o,h1 with
 |0,h1=>simp at h1
 |1,h1=>simp at h1
 |2,h1=>simp at h1
 |3,h1=>simp at h1
 |o+4,h1=>simp at h1
theorem Src.kept (h:Src w g S a t) (hk:Kept T w w') (hg:¬T g) (hp:0<S.n→∀x,S.p=some x→¬T x.block) (hq:0<S.m→∀x,S.q=some x→¬T x.block):Src w' g S a t:=
 ⟨hk.some_ h.pE hg,h.nB.kept hk hp,h.len,h.nc,h.cm,h.big,h.le,h.Ym.kept hk hq,h.aj5,h.md,h.dm,h.turn,h.aa3⟩
theorem Src.jq (h:Src w g S a t) (hk:Kept ag w w'):Src w' g S a t:=h.kept hk id (fun _ _ _=>id) (fun _ _ _=>id)
end
def Sv.off (S:Sv) (g:Nat):Prop:=0<S.m→∀x,S.q=some x→x.block≠g
section
variable {w w':World} {g a t:Nat} {S:Sv}
theorem Src.at_ (h:Src w g S a t) (ho:S.off g) (b:Nat) (hb:b≤S.n):Src (w.setCell ⟨g,1,none⟩ (.int .i64 b)) g S b t:=by
 have hk:Kept (aA g) w (w.setCell ⟨g,1,none⟩ (.int .i64 b)):=(Kept.refl (aA g) w).setCell (Or.inr (show aA g g from rfl)) _;exact⟨yW h.pE 1 _ (by simp),h.nB.kept hk h.ah5,h.len,h.nc,h.cm,h.big,hb,h.Ym.kept hk ho,h.aj5,h.md,h.dm,h.turn,h.aa3⟩
theorem Src.ax9 (h:Src w g S a t) (ho:S.off g) (b:Nat) (h1:0<S.m→b<S.m) (h2:S.m=0→b=0):Src (w.setCell ⟨g,3,none⟩ (.int .i64 b)) g S a b:=by
 have hk:Kept (aA g) w (w.setCell ⟨g,3,none⟩ (.int .i64 b)):=(Kept.refl (aA g) w).setCell (Or.inr (show aA g g from rfl)) _;exact⟨yW h.pE 3 _ (by simp),h.nB.kept hk h.ah5,h.len,h.nc,h.cm,h.big,h.le,h.Ym.kept hk ho,h.aj5,h.md,h.dm,h1,h2⟩
end
def G5 (S:Sv) (a:Nat):Value:=.slice (if S.c=a then S.p else S.p.map (·.add a)) (S.n - a) (S.c - a)
theorem uJ (w:World) (g a t:Nat) (S:Sv) (h:Src w g S a t):
 Calls Tryz.prog 97 #[.pointer (some ⟨g,0,none⟩)] w fun e w'=>e=.returned (G5 S a)∧Src w' g S a t∧Kept ag w w':=by
 have D:=h.c0;have h1:=h.c1;have hm:=h.cm;have B:=h.nc;have hle:=h.le;unfold maxLen at hm;have H:=Qh h;unfold G5;clear h;obtain⟨p,n,c,bs,q,m,d,zs⟩:=S
 dsimp only at D hm B hle⊢
 by_cases A:c=a
 ·subst A
  go_enter Tryz.func97,Tryz.ntmps97
  go_wp2
  go_quiet (fail)
  go_wp2;go_ret;exact⟨rfl,H.out.jq ((Kept.refl _ _).drewN _),(Kept.refl _ _).drewN _⟩
 ·go_enter Tryz.func97,Tryz.ntmps97
  go_wp2
  go_quiet (fail)
  go_wp2;go_ret;exact⟨rfl,H.out.jq ((Kept.refl _ _).drewN _),(Kept.refl _ _).drewN _⟩
theorem Ly (w:World) (g a t:Nat) (S:Sv) (h:Src w g S a t) (A9:S.m=0) (n:Int):
 Calls Tryz.prog 167 #[.pointer (some ⟨g,0,none⟩),.int .i64 n] w fun e w'=>e=.returned (.int .i64 n)∧w=w':=by
 have A:=h.c2;rw[A9]at A;clear h A9
 go_enter Tryz.func167,Tryz.ntmps167
 go_wp2;go_ret;exact⟨rfl,rfl⟩
def yO (w:World) (g a:Nat) (S:Sv) (n:Int) (e:Ending) (w':World):Prop:=
 ∃(k:Int) (t':Nat),e=.returned (.int .i64 k)∧1≤k∧k≤n∧Src w' g S a t'∧Kept (aA g) w w'
theorem D3 {w:World} {g a t m:Nat} {S:Sv} {n k:Int} (H:Src w g S a t) (HO:S.off g) (hm:S.m=m) (A9:0<m) (h1:1≤k) (h2:k≤n):
 yO w g a S n (.returned (.int .i64 k)) (w.setCell ⟨g,3,none⟩ (.int .i64 (((t:Int)+1) % (m:Int)))).drew.drew:=by
 have e:(((t:Int)+1) % (m:Int))=(((t+1) % m:Nat):Int):=by simp
 rw[e];refine⟨k,(t+1) % m,rfl,h1,h2,?_,?_⟩
 ·exact(H.ax9 HO _ (fun _=>by rw[hm];exact Nat.mod_lt _ A9) (fun h=>by omega)).jq (((Kept.refl _ _).drew).drew)
 ·exact(((Kept.refl (aA g) w).setCell (Or.inr (show aA g g from rfl)) _).drew).drew
theorem Lz (w:World) (g a t:Nat) (S:Sv) (h:Src w g S a t) (ho:S.off g) (A9:0<S.m) (n:Int) (hn:1≤n):
 Calls Tryz.prog 167 #[.pointer (some ⟨g,0,none⟩),.int .i64 n] w (yO w g a S n):=by
 have B:=h.c2;have O:=h.c3;have f3:=qm h.pE 3;obtain⟨b,o,D,M,hc⟩:=h.Ym A9;have E:=h.turn A9;have hcell:=hc t E;have L:=h.dm;have A:=h.md;unfold maxLen at L;obtain⟨z,G⟩:∃z,z=S.zs.getD t 0:=⟨_,rfl⟩
 rw[←G]at hcell;rw[D]at B;have H:=Qh h;have I:=Qh ho;have N:=Qh A9;obtain⟨m,hm⟩:∃m,S.m=m:=⟨_,rfl⟩
 have J:=Qh hm;rw[hm]at B E A A9;clear h ho hc M G D hm
 go_enter Tryz.func167,Tryz.ntmps167
 go_wp2
 go_region
 all_goals go_wp2
 all_goals go_region
 all_goals go_wp2
 all_goals go_ret
 all_goals exact D3 H.out I.out J.out A9 (by omega) (by omega)
theorem P9 (w:World) (g a t:Nat) (S:Sv) (h:Src w g S a t) (ho:S.off g) (n:Int) (hn:1≤n):
 Calls Tryz.prog 167 #[.pointer (some ⟨g,0,none⟩),.int .i64 n] w (yO w g a S n):=by
 rcases Nat.eq_zero_or_pos S.m with h0|h0
 ·refine(Ly w g a t S h h0 n).mono ?_
  rintro e w' ⟨rfl,rfl⟩;exact⟨n,t,rfl,hn,Int.le_refl _,h,Kept.refl _ _⟩
 ·exact Lz w g a t S h ho h0 n hn
def Ez (w:World) (g a:Nat) (S:Sv) (n:Int) (e:Ending) (w':World):Prop:=
 ∃(p:Option Addr) (k c t':Nat),e=.returned (.slice p k c)∧a+k≤S.n∧(k:Int)≤n∧(a<S.n→0<k)∧k≤c∧iC w' p k ((S.bs.drop a).take k)∧Src w' g S (a+k) t'∧Kept (aA g) w w'
theorem ra {w:World} {g a t:Nat} {S:Sv} (h:Src w g S a t):∃p,G5 S a=.slice p (S.n - a) (S.c - a)∧iC w p (S.n - a) (S.bs.drop a)∧(0<S.n - a→∀x,p=some x→x.block≠g):=
 ⟨_,rfl,h.nB.drop h.le h.nc h.len,fun B x A=>by
  rw[if_neg (by have:=h.nc;omega)]at A;obtain⟨y,hy,rfl⟩:=Option.map_eq_some_iff.1 A;have:=h.ah5 (by omega) y hy;unfold Addr.add
  split<;>exact this⟩
theorem RL (w:World) (g a t:Nat) (S:Sv) (h:Src w g S a t) (ho:S.off g) (n:Int) (hn:1≤n):
 Calls Tryz.prog 133 #[.pointer (some ⟨g,0,none⟩),.int .i64 n] w (Ez w g a S n):=by
 have hle:=h.le;have Z:=h.nc;have Bu:=h.cm;unfold maxLen at Bu;obtain⟨l,hl⟩:∃l,l=S.n - a:=⟨_,rfl⟩
 obtain⟨d,hd⟩:∃d,d=S.c - a:=⟨_,rfl⟩
 have r:l≤d:=by omega
 have SR:d≤9223372036854775807:=by omega
 have u:a+l≤9223372036854775807:=by omega
 have D:=Qh hl;have X:=Qh hd;have H:=Qh h;have M:=Qh ho;have O:=Qh hle;clear h ho hl hd hle Z Bu
 go_enter Tryz.func133,Tryz.ntmps133
 go_wp2_with fail
 refine(uJ _ g a t S H.out).mono ?_;rintro e w1 ⟨rfl,L,U⟩;obtain⟨p,R,G,A⟩:=ra L;have nR:=Qh A;rw[R,←D.out,←X.out];rw[←D.out]at G;have vU:=Qh L;have z:=Qh U;have y:=Qh G;clear L U G R A;go_wp2_with fail;refine(P9 _ g a t S vU.out M.out n hn).mono ?_;rintro e E ⟨k,t2,rfl,hk,cn,B,V⟩;have c1:=B.c1;have f1:=qm B.pE 1;have b:=Qh B;have W:=Qh V;clear B V;obtain⟨m,rfl⟩:∃m:Nat,k=m:=⟨k.toNat,by omega⟩
 have fin:∀j:Nat,1≤m→j≤l→(j:Int)≤n→(0<l→0<j)→Ez w g a S n (.returned (.slice p j d)) (E.setCell ⟨g,1,none⟩ (.int .i64 ((a:Int)+(j:Int)))):=by
  intro j _ q J I;have e:((a:Int)+(j:Int))=((a+j:Nat):Int):=by simp
  rw[e];have A:0<j→∀x,p=some x→x.block≠g:=fun o=>nR.out (by have:=D.out;omega)
  have Y:=D.out;have f:=(y.out.take q).kept W.out A;have T:Kept (aA g) E (E.setCell ⟨g,1,none⟩ (.int .i64 ((a+j:Nat):Int))):=(Kept.refl (aA g) E).setCell (Or.inr (show aA g g from rfl)) _;refine⟨p,j,d,t2,rfl,?_,J,fun o=>I (by omega),by omega,f.kept T A,b.out.at_ M.out _ ?_,((z.out.kC _).trans W.out).trans T⟩
  ·have:=O.out;omega
  ·have:=O.out;omega
 have N:=Qh fin;clear fin;go_wp2
 all_goals go_ret
 ·exact N.out l (by omega) (Qk _) (by omega) (fun h=>h)
 ·exact N.out m (by omega) (by omega) (by omega) (by omega)
def ar1:Value→Nat|.slice _ n _=>n|_=>0
def j3 (w:World) (B:Nat) (v:Value) (n:Nat) (bs:List UInt8):Prop:=w.ownsRow B 5 1 v n ((nums bs).map (Value.int .u8))
theorem j3.kept {w w':World} (h:j3 w B v n bs) (hk:Kept T w w') (hn:∀k,v.ownBlock=some k→¬T k):j3 w' B v n bs:=cg h hk hn
theorem j3.slice {w:World} (h:j3 w B v n bs):∃p c,v=.slice p n c∧n≤c∧c≤maxLen∧iC w p n bs∧bs.length=n∧∀x,p=some x→B≤x.block∧x.block<w.heap.size∧v.ownBlock=some x.block:=by
 obtain⟨p,c,E,h1,G,A,D⟩:=wU h (O2 bs);rw[qk]at A D;exact⟨p,c,E,h1,G,A,D,Fq h E⟩
theorem j3.lt {w:World} (h:j3 w B v n bs):∀k,v.ownBlock=some k→B≤k∧k<w.heap.size:=World.ownsRow.lt h
theorem j3.mono {w:World} {B':Nat} (h:j3 w B v n bs) (hb:B'≤B):j3 w B' v n bs:=
 ⟨h.1,h.2.imp id fun⟨g,cap,cur,h1,h2,h3⟩=>⟨g,cap,cur,h1,Nat.le_trans hb h2,h3⟩⟩
theorem Src.since {w0 w w':World} {g a0 t0 a t:Nat} {S:Sv} (h0:Src w0 g S a0 t0) (h:Src w g S a t) (hk:Kept T w w') (hT:∀k,T k→w0.heap.size≤k):Src w' g S a t:=
 h.kept hk (fun A=>by have:=hT g A;have:=h0.lt;omega)
  (fun D x B A=>by
   obtain⟨b,o,E,G,_⟩:=h0.nB.cell D;rw[E]at B;cases B;have:=hT b A
   omega)
  (fun D x B A=>by
   obtain⟨b,o,E,G,_⟩:=h0.Ym D;rw[E]at B;cases B;have:=hT b A
   omega)
def uv (w:World) (g a:Nat) (S:Sv) (N:Nat) (e:Ending) (w':World):Prop:=
 (a+N≤S.n∧∃v,e=.returned (.tuple #[v,.int .i64 0])∧j3 w' w.heap.size v N ((S.bs.drop a).take N)∧(∃t',Src w' g S (a+N) t')∧Kept (aA g) w w')∨
 (S.n<a+N∧e=.returned (.tuple #[.slice none 0 0,.int .i64 2])∧(∃t',Src w' g S S.n t')∧Kept (aA g) w w')
structure ab8 (w:World) (g a:Nat) (S:Sv) (L N j:Nat) (v:Value) (wr:World):Prop where
 own:j3 wr w.heap.size v j ((S.bs.drop a).take j)
 src:∃t',Src wr g S (a+j) t'
 kept:Kept (aA g) w wr
 jn:j≤N
 jl:j≤L
theorem AK (w:World) (g a t:Nat) (S:Sv) (h:Src w g S a t) (ho:S.off g) (N:Nat) (hN:N≤9223372036854775807):
 Calls Tryz.prog 98 #[.pointer (some ⟨g,0,none⟩),.int .i64 (N:Int)] w (uv w g a S N):=by
 obtain⟨i0,hi,kh,jS,jU⟩:=info_parts qZ;obtain⟨L,hL⟩:∃L,L=S.n - a:=⟨_,rfl⟩
 obtain⟨C,O,R⟩:∃C:Nat,(if(L:Int)<(N:Int)then(L:Int)else(N:Int))=(C:Int)∧C≤L:=by
  by_cases h:(L:Int)<(N:Int)
  ·exact⟨L,if_pos h,Qk _⟩
  ·exact⟨N,if_neg h,by omega⟩
 have f:(if L<N then(L:Int)else(N:Int))=(C:Int):=by
  rw[←O]
  by_cases h:L<N
  ·rw[if_pos h,if_pos (by omega)]
  ·rw[if_neg h,if_neg (by omega)]
 have y:=Qh hi;have rC:=Qh kh;have pX:=Qh jS;have pD:=Qh jU;have G:=Qh hL;have yL:=Qh R;have H:=Qh h;have HO:=Qh ho;clear hi kh jS jU hL R h ho
 go_enter Tryz.func98,Tryz.ntmps98
 go_wp2_with fail
 refine(uJ _ g a t S H.out).mono ?_;rintro e q ⟨rfl,r,U⟩;obtain⟨p,hp,ch,om⟩:=ra r;rw[hp,←G.out];have o:=Qh r;have nQ:=Qh U;clear r U ch hp om
 go_wp2_with (at_make;refine wpList_make_own _ rfl _ _ 26 rfl q.heap.size 5 i0 (.int .u8 0) 1 Tryz.underlying26 y.out rC.out pX.out .i64 .i64 (C:Int) C rfl rfl rfl ?b1 ?b2 (Qk _) ?_)
 case b1=>rw[pD.out];have:=o.out.big;have:=G.out;have:=yL.out;omega
 case b2=>unfold maxLen;have:=o.out.big;have:=G.out;have:=yL.out;omega
 intro w2 aK b;have m:Kept (aA g) w w2:=(nQ.out.kC _).grown b (by intro k hk;cases hk)
 have z:ab8 w g a S L N 0 (.slice (some ⟨q.heap.size,0,none⟩) 0 C) w2:=⟨j3.mono (bs:=[]) aK nQ.out.size,⟨t,by
  have:=H.out.since o.out (T:=ag) ((Kept.refl ag q).grown b (by intro k hk;cases hk)) (fun _ h=>h.elim)
  simpa using this⟩,m,Nat.zero_le _,Nat.zero_le _⟩
 have X:=Qh z;clear aK b m z O f;go_wp2
 go_loopw [6] (fun v wr=>∃(j:Nat) (p:Option Addr) (c:Nat),j≤N∧v=.slice p j c∧Hid (ab8 w g a S L N j v wr)) (fun v _=>N - ar1 v)
 case atStart=>exact⟨0,_,C,Nat.zero_le _,rfl,X⟩
 case round=>
  obtain⟨j,p,c,hjN,rfl,A⟩:=hrel;obtain⟨t3,u⟩:=A.out.src;have I:=Qh u;clear u
  by_cases ay:j<N
  ·go_wp2_with fail
   refine(RL _ g (a+j) t3 S I.out HO.out ((N:Int) - (j:Int)) (by omega)).mono ?_;rintro e w4 ⟨p',k,c',t4,rfl,U,m,jC,tz,hb,WU,sB⟩;have cn:j+k≤N:=by omega
   have HB:=Qh hb;have J:=Qh WU;have V:=Qh sB;have W:=Qh U;have d:=Qh jC;clear hb WU sB U jC
   by_cases la:k=0
   ·subst la
    have E:Hid (a+j=S.n):=Qh (by have:=W.out;have:=d.out;omega);go_wp2;go_ret2;exact Or.inr ⟨by have:=E.out;omega,rfl,⟨t4,by have:=J.out;rw[←E.out];simpa using this⟩,A.out.kept.trans V.out⟩
   ·have hko:((k:Int)==0)=false:=by simpa using la
    have M:j3 w4 w.heap.size (.slice p j c) j ((S.bs.drop a).take j):=A.out.own.kept V.out (fun x D hg=>by
     have:=A.out.own.lt x D;have:=H.out.lt;have:x=g:=hg
     omega)
    have B:=Qh M;clear M
    go_wp2_with (at_builtin;refine kt rfl _ _ 26 rfl w.heap.size 5 i0 Tryz.underlying26 y.out rC.out pX.out pD.out _ j _ rfl B.out p' k c' _ rfl HB.out ?d1 ?d2 ?d3 ?_)
    case d1=>have:=W.out;rw[Qg,Qe,H.out.len];omega
    case d2=>have:=W.out;have:=H.out.big;omega
    case d3=>exact(A.out.kept.trans V.out).size
    intro v' w5 Z Y
    have R5:Hid (ab8 w g a S L N (j+k) v' w5):=Qh (by
     refine⟨?_,⟨t4,?_⟩,?_,cn,?_⟩
     ·unfold j3
      have e:(S.bs.drop a).take (j+k)=(S.bs.drop a).take j++((S.bs.drop (a+j)).take k):=by
       rw[List.take_add,List.drop_drop]
      rw[e];unfold nums at Z⊢;rw[List.map_append,List.map_append];exact Z
     ·have:=H.out.since J.out (T:=fun x=>some x=(Value.slice p j c).ownBlock) ((Kept.refl _ w4).grown Y (fun x D=>Or.inr D.symm)) (fun x D=>(B.out.lt x D.symm).1)
      rw[←Nat.add_assoc];exact this
     ·exact(A.out.kept.trans V.out).grown Y (fun x D=>Or.inl (B.out.lt x D).1)
     ·have:=W.out;have:=G.out;have:=H.out.le;omega)
    obtain⟨p5,c5,l,uH⟩:=(show j3 w5 w.heap.size v' (j+k) _ from R5.out.own).slice;clear uH Z Y;subst l;go_wp2;go_roundw
    case rel=>exact⟨j+k,_,c5,cn,rfl,R5⟩
    case measure=>simp[ar1];omega
  ·obtain rfl:j=N:=by omega
   go_wp2;go_ret2;exact Or.inl ⟨by have:=A.out.jl;have:=G.out;have:=H.out.le;omega,_,rfl,A.out.own,⟨t3,I.out⟩,A.out.kept⟩
end Block
namespace cb
variable {args:Array Value} {f:FuncId} {P:Program} {w:World}
structure pI (w:World) where
 w':World
 bel:Below w.heap.size w w'
instance (w:World):Inhabited (pI w):=⟨⟨w,Below.refl _ _⟩⟩
theorem Dx {b o:Nat} (h:w.cell? ⟨b,o,none⟩=some v):∀p:pI w,p.w'.cell? ⟨b,o,none⟩=some v:=
 fun p=>(p.bel.cell (p:=⟨b,o,none⟩) (World.block_lt_of_cell? _ _ h)).trans h
theorem cA {id:Nat} {Q:Exit→Act→World→Prop} {l:List Oper} (hm:P.follows .mixedOrders=true) (hB:Region.lexB .any l.toArray=true)
 (h:wpQuiet P l.toArray (fun w'=>∃p:pI w,w'=p.w') (fun a'=>∀w',(∃p:pI w,w'=p.w')→Q .normal a' w') l a):(Code.region id l.toArray true).wp P Q a w:=
 wp_region_quiet (C:=fun w'=>∃p:pI w,w'=p.w') hm hB ⟨⟨{w with drawn:=w.drawn+1},⟨rfl,rfl,rfl,Qk _,fun _ _=>rfl⟩⟩,rfl⟩ (by simpa using h)
theorem Calls.pT {p:pI w}
 (h:Calls P f args p.w' fun e w'=>e=.returned v∧Below p.w'.heap.size p.w' w'):Calls P f args p.w' fun e KA=>e=.returned v∧∃q:pI w,KA=q.w':=
 h.mono fun _ KA ⟨he,hb⟩=>⟨he,⟨KA,p.bel.trans (hb.mono p.bel.size)⟩,rfl⟩
theorem Calls.tR {p:pI w}
 (h:Calls P f args p.w' fun e w'=>e=.returned v∧p.w'=w'):Calls P f args p.w' fun e KA=>e=.returned v∧∃q:pI w,KA=q.w':=
 h.mono fun _ KA ⟨he,hb⟩=>⟨he,p,hb.symm⟩
theorem kN {wq:World} (h:∃p:pI w,wq=p.w'):Below w.heap.size w wq:=by
 obtain⟨p,rfl⟩:=h;exact p.bel
end cb
namespace Mk
open Go.MapKept cb iK
section
variable {α:Type} {K:pZ α} {w w':World} {B:Nat} {f:α→Option Value} {P:Program} {t k e:TypeId}
theorem jj.del [DecidableEq α] (h:jj K w B f) (ht:P.underlying t=some (.map k e)) (hk:P.underlying k=some K.kind) (x:α) (ty:TypeId):
 ∃w',(Builtin.delete_ #[t,k] ty #[.map (some B),K.enc x]).run P w=.ok (.tuple #[]) w'∧jj K w' B (fun y=>if y=x then none else f y)∧Kept (aA B) w w'∧w'.heap.size=w.heap.size:=by
 obtain⟨es,clock,A,hs,h1,O⟩:=h;rcases findNow_spec (K.isKey x) es.toList 0 (fun y hy=>by obtain⟨j,W,_⟩:=h1 y hy;rw[W];exact K.isKey j)with⟨kj,I⟩|⟨j,e0,kj,h3,h4⟩
 ·refine⟨Go.ChangeMaps.setBlock w B (.map es clock),?_,⟨_,_,(MapKept.heap_set A).1,hs,?_,?_⟩,q9 A,by simp[Go.ChangeMaps.setBlock]⟩
  ·simp[Builtin.delete_,run_underlying ht,MapKept.run_getObj_map A,run_checkKey hk (K.isKey x),run_findKey hk kj,MapKept.run_setObj_map _ A,Result.andThen,Go.ChangeMaps.setBlock]
  ·intro y hy
   obtain⟨i,hi,hf⟩:=h1 y hy;refine⟨i,hi,?_⟩;show(if i=x then none else f i)=_;rw[if_neg (fun e=>I y hy (by rw[hi,e]))];exact hf
  ·intro i u hi
   have hi:(if i=x then none else f i)=some u:=hi
   by_cases G:i=x
   ·rw[if_pos G]at hi;cases hi
   ·rw[if_neg G]at hi
    exact O i u hi
 ·rw[Nat.zero_add]at kj
  have L:j<es.toList.length:=(List.getElem?_eq_some_iff.1 h3).1;have J:j<es.size:=by simpa using L
  have E:(es.eraseIdxIfInBounds j).toList=es.toList.eraseIdx j:=by
   unfold Array.eraseIdxIfInBounds;rw[dif_pos J];simp
  have T:∀i y,es.toList[i]? =some y→y.key=K.enc x→i=j:=fun i y hi hy=>by
   have M:(es.toList.map (·.key))[j]? =some (K.enc x):=by rw[List.getElem?_map,h3];simp[h4]
   have H:(es.toList.map (·.key))[i]? =some (K.enc x):=by rw[List.getElem?_map,hi];simp[hy]
   have L:j<(es.toList.map (·.key)).length:=(List.getElem?_eq_some_iff.1 M).1;have X:i<(es.toList.map (·.key)).length:=(List.getElem?_eq_some_iff.1 H).1
   have V:(es.toList.map (·.key))[j]=(es.toList.map (·.key))[i]:=by
    have U:=(List.getElem?_eq_some_iff.1 M).2;have a2:=(List.getElem?_eq_some_iff.1 H).2;rw[U,a2]
   exact((List.getElem_inj hs.2.2).1 V).symm
  refine⟨Go.ChangeMaps.setBlock w B (.map (es.eraseIdxIfInBounds j) clock),?_,⟨_,_,(MapKept.heap_set A).1,stamped_erase hs j,?_,?_⟩,q9 A,by simp[Go.ChangeMaps.setBlock]⟩
  ·simp[Builtin.delete_,run_underlying ht,MapKept.run_getObj_map A,run_checkKey hk (K.isKey x),run_findKey hk kj,MapKept.run_setObj_map _ A,Result.andThen,Go.ChangeMaps.setBlock]
  ·intro y hy
   rw[E]at hy;obtain⟨i,I,hi⟩:=List.mem_eraseIdx_iff_getElem?.1 hy;obtain⟨a,ha,hf⟩:=h1 y (List.mem_of_getElem? hi);refine⟨a,ha,?_⟩;show(if a=x then none else f a)=_;rw[if_neg (fun D=>I (T i y hi (by rw[ha,D])))];exact hf
  ·intro a u ha
   have ha:(if a=x then none else f a)=some u:=ha
   by_cases D:a=x
   ·rw[if_pos D]at ha;cases ha
   ·rw[if_neg D]at ha
    obtain⟨y,hy,N⟩:=O a u ha;refine⟨y,?_,N⟩;rw[E];obtain⟨i,hi⟩:=List.getElem?_of_mem hy;refine List.mem_eraseIdx_iff_getElem?.2 ⟨i,fun R=>D (K.inj _ _ ?_),hi⟩;rw[←N,←h4];rw[R,h3]at hi
    cases hi
    rfl
end
section
variable {α:Type} [DecidableEq α] {K:pZ α} {P:Program} {w:World} {ops:Array Oper} {rest:List Oper} {o:Oper} {a:Act} {Q:Exit→Act→World→Prop} {f:α→Option Value} {t k e:TypeId}
theorem KB (hg:o.guard=none) (m x:Operand) (t k:TypeId) (bk:o.op=Op.call {callee:=Callee.builtin Builtin.delete,args:=#[m,x],argTypes:=#[t,k]}) (e:TypeId) (ht:P.underlying t=some (.map k e)) (hk:P.underlying k=some K.kind)
 (B:Nat) (h:jj K w B f) (hm:a.eval m=.map (some B)) (key:α) (hx:a.eval x=K.enc key)
 (hK:∀w',Hid (jj K w' B (fun y=>if y=key then none else f y))→Hid (Kept (aA B) w w')→w'.heap.size=w.heap.size→wpList P ops Q rest (a.put o.dst (.tuple #[])) w'):wpList P ops Q (o::rest) a w:=by
 refine wpList_plain hg fun G hK'=>?_
 obtain⟨w',E,h1,A,D⟩:=h.del ht hk key o.type;unfold Oper.wp;simp[execOp,bk,resolve,invoke,builtin,hm,hx,E,Result.andThen];exact hK' _ _ (hK w' (Qh h1) (Qh A) D)
end
end Mk
namespace Mp
open cb Go.Lib
variable {listed:Array Bool} {md:Region.Mode}
def vk (n:Nat) (listed:Array Bool):Nat:=((List.range n).filter fun i=>!listed.getD i true).length
theorem ai (hi:i<listed.size) (j:Nat) (d:Bool):(listed.setIfInBounds i true).getD j d=if j=i then true else listed.getD j d:=by
 by_cases h:j=i
 ·subst h;simp[hi]
 ·simp[h,Array.getElem?_setIfInBounds_ne (Ne.symm h)]
theorem bz (h:listed.getD i true=false):i<listed.size:=by
 rcases Nat.lt_or_ge i listed.size with h'|h'
 ·exact h'
 ·simp[Array.getElem?_eq_none h']at h
theorem zN {P:Program} {Q:Exit→Act→World→Prop} (I:Array Bool→Act→World→Prop)
 (Ar:∀listed a w i,I listed a w→i∈Region.ready md ops listed→wpOp P ops Q i (I (listed.setIfInBounds i true)) a w)
 (oZ:∀listed a w,I listed a w→Region.ready md ops listed=[]→Q .normal a w):
 ∀(fuel:Nat) (listed:Array Bool) (a:Act) (w:World),vk ops.size listed≤fuel→I listed a w→wpAny P md ops Q fuel listed a w:=by
 intro fuel
 induction fuel with
 |zero=>
  intro listed a w J A
  have B:Region.ready md ops listed=[]:=by
   rw[List.eq_nil_iff_forall_not_mem];intro i hi;have h1:=mem_ready.1 hi;obtain⟨o,G,_⟩:=h1.2;have E:i∈(List.range ops.size).filter fun i=>!listed.getD i true:=List.mem_filter.2 ⟨List.mem_range.2 (Array.getElem?_eq_some_iff.1 G).1,by rw[h1.1];rfl⟩
   have L:(List.range ops.size).filter (fun i=>!listed.getD i true)=[]:=List.eq_nil_of_length_eq_zero (by simpa [vk]using J);rw[L]at E
   cases E
  exact⟨B,oZ _ _ _ A B⟩
 |succ fuel ih=>
  intro listed a w J A;refine⟨fun B=>oZ _ _ _ A B,fun i hi=>?_⟩;refine wpOp_mono (fun a' w' h=>ih _ _ _ ?_ h) (Ar _ _ _ _ A hi);have h1:=mem_ready.1 hi;obtain⟨o,G,_⟩:=h1.2;have H:=bz h1.1
  have E:vk ops.size (listed.setIfInBounds i true)<vk ops.size listed:=by
   unfold vk;refine filter_lt _ _ (fun x D=>?_) i (by rw[h1.1];rfl) (by rw[ai H,if_pos rfl];rfl) _ (List.mem_range.2 (Array.getElem?_eq_some_iff.1 G).1);rw[ai H]at D;split at D
   ·cases D
   ·exact D
  omega
theorem wO (hs:listed.size=ops.size) (hd:∀i o,ops[i]? =some o→∀e∈o.after,Region.binds md e=true→e.on<i) (hr:Region.ready md ops listed=[]):
 ∀n i,i<n→i<ops.size→listed.getD i false=true:=by
 intro n
 induction n with
 |zero=>intro i h;omega
 |succ n ih=>
  intro i h hi
  by_cases B:i<n
  ·exact ih i B hi
  ·obtain rfl:i=n:=by omega
   cases hl:listed.getD i false with
   |true=>rfl
   |false=>
    have h1:listed.getD i true=false:=by
     simp only[Array.getD_eq_getD_getElem?]at hl⊢;rw[Array.getElem?_eq_getElem (by omega)]at hl⊢;exact hl
    have:i∈Region.ready md ops listed:=mem_ready.2 ⟨h1,ops[i],Array.getElem?_eq_getElem hi,fun e he A=>ih e.on (hd i _ (Array.getElem?_eq_getElem hi) e he A) (by
     have:=hd i _ (Array.getElem?_eq_getElem hi) e he A
     omega)⟩
    rw[hr]at this
    cases this
theorem j9 {d:Nat} (v:Value) (hd:d<a.tmps.size):(a.put (some d) v).eval (.tmp t)=if t=d then v else a.eval (.tmp t):=by
 show((a.tmps.setIfInBounds d v).getD t undef)=_
 by_cases h:t=d
 ·subst h;simp[hd]
 ·rw[if_neg h]
  show _=a.tmps.getD t undef;simp[Array.getElem?_setIfInBounds_ne (Ne.symm h)]
theorem rr (a:Act) (d:Option Nat) (v:Value):(a.put d v).tmps.size=a.tmps.size:=by
 cases d<;>simp[Act.put]
theorem put_defers (a:Act) (d:Option Nat) (v:Value):(a.put d v).defers=a.defers:=by
 cases d<;>rfl
theorem uC (a:Act) (v:Value):a.eval (.const v)=v:=rfl
theorem jk (h:listed.getD i true=false):listed.getD i false=false:=by
 have:=bz h;simp only[Array.getD_eq_getD_getElem?]at h⊢;rw[Array.getElem?_eq_getElem this]at h⊢;exact h
end Mp
namespace Mp
open cb
variable {j:Nat}
structure RI (ops:Array Oper) (V:Nat→Value) (a0:Act) (W:Array Bool→World→Prop) (listed:Array Bool) (a:Act) (w:World):Prop where
 ls:listed.size=ops.size
 ts:a.tmps.size=a0.tmps.size
 df:a.defers=a0.defers
 done:∀j o d,ops[j]? =some o→o.dst=some d→listed.getD j false=true→a.eval (.tmp d)=V j
 same:∀t,(∀j o,ops[j]? =some o→o.dst=some t→listed.getD j false=false)→a.eval (.tmp t)=a0.eval (.tmp t)
 wd:W listed w
def wP (ops:Array Oper) (n:Nat):Bool:=
 (ops.toList.zipIdx.all fun x=>x.1.guard.isNone&&(x.1.after.all fun e=>decide (e.on<x.2))&&(match x.1.dst with
  |none=>true
  |some d=>decide (d<n)&&ops.toList.zipIdx.all fun y=>y.2==x.2||y.1.dst != some d))
theorem zX {ops:Array Oper} (h:wP ops n=true):∀i o,ops[i]? =some o→
 o.guard=none∧(∀e∈o.after,Region.binds .any e=true→e.on<i)∧(∀d,o.dst=some d→d<n∧∀j oj,ops[j]? =some oj→oj.dst=some d→j=i):=by
 intro i o H;unfold wP at h;rw[List.all_eq_true]at h
 have hm:∀(j:Nat) (oj:Oper),ops[j]? =some oj→(oj,j)∈ops.toList.zipIdx:=fun j oj B=>by
  rw[List.mem_iff_getElem?];exact⟨j,by simp[B]⟩
 have h1:=h (o,i) (hm i o H);simp only[Bool.and_eq_true]at h1;obtain⟨⟨E,G⟩,A⟩:=h1;refine⟨by simpa using E,fun e he _=>by simpa using Array.all_eq_true_iff_forall_mem.1 G e he,fun d hd=>?_⟩;rw[hd]at A;simp only[Bool.and_eq_true,decide_eq_true_eq]at A;refine⟨A.1,fun j oj B D=>?_⟩;have h5:=List.all_eq_true.1 A.2 (oj,j) (hm j oj B);simp only[Bool.or_eq_true,beq_iff_eq,bne_iff_ne]at h5;rcases h5 with h5|h5
 ·exact h5
 ·exact absurd D h5
theorem xw {P:Program} {ops:Array Oper} {Q:Exit→Act→World→Prop} (V:Nat→Value) (a0:Act) (W:Array Bool→World→Prop) (n:Nat) (Gw:wP ops n=true) (hn:n≤a0.tmps.size)
 (Ar:∀listed a w j o,RI ops V a0 W listed a w→ops[j]? =some o→listed.getD j true=false→(∀e∈o.after,Region.binds .any e=true→listed.getD e.on false=true)→
  Oper.wp P o a w (fun a' w'=>a'=a.put o.dst (V j)∧W (listed.setIfInBounds j true) w') Q)
 (oZ:∀listed a w,RI ops V a0 W listed a w→(∀j,j<ops.size→listed.getD j false=true)→Q .normal a w)
 {w:World} (h0:W (Array.replicate ops.size false) w):wpAny P .any ops Q ops.size (Array.replicate ops.size false) a0 w:=by
 have sp:=zX Gw
 have no:∀j,(Array.replicate ops.size false).getD j false=false:=fun j=>by
  rw[Array.getD_eq_getD_getElem?,Array.getElem?_replicate];split<;>rfl
 refine zN (RI ops V a0 W) (fun listed a w' i h N=>?_) (fun listed a' w' h N=>?_) _ _ _ _ ?_ ?_
 ·obtain⟨U,o,D,Y⟩:=mem_ready.1 N
  have J:=bz U;obtain⟨b,_,hd⟩:=sp i o D;refine wpOp_step D fun K Z=>?_
  rw[if_pos (by simp[Region.wanted,b])];refine Oper.wp_mono (fun a' X c=>Z a' X ?_) (Ar listed a w' i o h D U Y);obtain⟨rfl,hw⟩:=c;refine⟨by simpa using h.ls,by rw[rr];exact h.ts,by rw[put_defers];exact h.df,fun j H d A B hl=>?_,fun t T=>?_,hw⟩
  ·cases G:o.dst with
   |none=>
    have L:j≠i:=fun e=>by
     subst e;rw[D]at A
     cases A
     rw[G]at B
     cases B
    rw[ai J,if_neg L]at hl;exact h.done j H d A B hl
   |some d'=>
    obtain⟨E,M⟩:=hd d' G;have O:d'<a.tmps.size:=by rw[h.ts];exact Nat.lt_of_lt_of_le E hn
    rw[j9 _ O]
    by_cases I:d=d'
    ·have:=M j H A (by rw[←I];exact B)
     rw[if_pos I,this]
    ·rw[if_neg I]
     have L:j≠i:=fun e=>by
      subst e;rw[D]at A
      cases A
      rw[G]at B;exact I (Option.some.inj B).symm
     rw[ai J,if_neg L]at hl;exact h.done j H d A B hl
  ·have R:o.dst≠some t:=fun e=>by
    have:=T i o D e;rw[ai J,if_pos rfl]at this
    cases this
   have hold:a.eval (.tmp t)=a0.eval (.tmp t):=h.same t fun j H A B=>by
    have h1:=T j H A B;rw[ai J]at h1;split at h1
    ·cases h1
    ·exact h1
   cases G:o.dst with
   |none=>exact hold
   |some d'=>
    obtain⟨E,_⟩:=hd d' G;rw[j9 _ (by rw[h.ts];exact Nat.lt_of_lt_of_le E hn),if_neg (fun e=>R (by rw[G,e]))];exact hold
 ·exact oZ _ _ _ h fun j A=>wO h.ls (fun i o D=>(sp i o D).2.1) N (j+1) j (by omega) A
 ·unfold vk
  exact Nat.le_trans (List.length_filter_le _ _) (by rw[List.length_range];exact Qk _)
 ·exact⟨Array.size_replicate,rfl,rfl,fun j o d _ _ hl=>(by rw[no]at hl;cases hl),fun t _=>rfl,h0⟩
def Gx (ops:Array Oper) (j i:Nat):Bool:=((ops[j]?).map fun o=>o.after.any fun e=>e.on==i&&Region.binds .any e).getD false
def Zs (ops:Array Oper) (t:Nat):Bool:=ops.toList.all fun o=>o.dst != some t
section
variable {ops:Array Oper} {V:Nat→Value} {a0 a:Act} {W:Array Bool→World→Prop} {listed:Array Bool} {w:World}
theorem RI.get (h:RI ops V a0 W listed a w) {d:Nat} {o:Oper} (ho:ops[j]? =some o) (ba:∀e∈o.after,Region.binds .any e=true→listed.getD e.on false=true) (hd:Gx ops j i=true) (bF:(ops[i]?).bind (·.dst)=some d):a.eval (.tmp d)=V i:=by
 unfold Gx at hd;rw[ho]at hd;obtain⟨e,he,B⟩:=Array.any_eq_true'.1 (show o.after.any _=true from hd);simp only[Bool.and_eq_true,beq_iff_eq]at B;have hl:=ba e he B.2;rw[B.1]at hl
 cases A:ops[i]? with
 |none=>rw[A]at bF;cases bF
 |some oi=>
  rw[A]at bF;exact h.done i oi d A bF hl
theorem RI.old (h:RI ops V a0 W listed a w) (hf:Zs ops t=true):a.eval (.tmp t)=a0.eval (.tmp t):=
 h.same t fun j o A hd=>by
  unfold Zs at hf;rw[List.all_eq_true]at hf;have:=hf o (by rw[Array.mem_toList_iff];exact Array.mem_of_getElem? A);rw[hd]at this;simp at this
end
def py:Code→List (Nat × Array Oper)
 |.region id ops _=>[(id,ops)]
 |.seq a b=>py a++py b
 |.cond _ a b=>py a++py b
 |.block _ c=>py c
 |.loop c=>py c
 |_=>[]
def uZ (f:Func) (id:Nat):Array Oper:=
 match f.body with
 |some c=>(((py c).find? fun x=>x.1==id).map (·.2)).getD #[]
 |none=>#[]
section
variable {P:Program} {o:Oper} {a:Act} {w:World} {K:Act→World→Prop} {Q:Exit→Act→World→Prop}
theorem wp_move (x:Operand) (v:Value) (ho:o.op=.move x∨o.op=.assign x) (hx:a.eval x=v) (h:K (a.put o.dst v) w):Oper.wp P o a w K Q:=by
 unfold Oper.wp;rcases ho with ho|ho
 ·simp[execOp,ho,hx,Oper.upon_value];exact h
 ·simp[execOp,ho,hx,Oper.upon_value];exact h
theorem iN (v:Value) (hr:(execOp a.eval o).run P w=.ok (.value v) w) (h:K (a.put o.dst v) w):Oper.wp P o a w K Q:=by
 unfold Oper.wp;rw[hr,Oper.upon_value];exact h
theorem vR (t:TypeId) (m x:Operand) (ho:o.op=.lookup t m x false) (mv xv v:Value) (hm:a.eval m=mv) (hx:a.eval x=xv) (hr:(Instr.lookup t mv xv false).run P w=.ok v w) (h:K (a.put o.dst v) w):Oper.wp P o a w K Q:=by
 unfold Oper.wp;simp[execOp,ho,hm,hx,hr,Result.andThen,Oper.upon_value];exact h
theorem al4 (a:Act) (f:FuncId):a.eval (.func f)=.func (.func f) #[] #[]:=rfl
theorem tV (f:FuncId) (xs:Array Operand) (ts:Array TypeId) (ho:o.op=.call {callee:=.value (.func f),args:=xs,argTypes:=ts}) (vs:Array Value) (hx:xs.map a.eval=vs)
 (hf:∀args w,(callFunc f args).run P w=.ok (.enter f args) w) (v:Value) (R:World→Prop) (hc:Calls P f vs w fun e w'=>e=.returned v∧R w') (h:∀w',R w'→K (a.put o.dst v) w'):Oper.wp P o a w K Q:=by
 unfold Oper.wp;simp[execOp,ho,resolve,invoke,hx,al4,Deferred.ofValue,hf,Oper.upon];refine hc.mono fun e w' he=>?_
 obtain⟨rfl,A⟩:=he;exact h w' A
end
def wQ (ops:Array Oper) (n:Nat):Bool:=
 (ops.toList.zipIdx.all fun x=>x.1.guard.isNone&&(x.1.after.all fun e=>decide (e.on<x.2)||!Region.binds .any e)&&(match x.1.dst with
  |none=>true
  |some d=>decide (d<n)&&ops.toList.zipIdx.all fun y=>y.2==x.2||y.1.dst != some d))
theorem ux {ops:Array Oper} (h:wQ ops n=true):∀i o,ops[i]? =some o→
 o.guard=none∧(∀e∈o.after,Region.binds .any e=true→e.on<i)∧(∀d,o.dst=some d→d<n∧∀j oj,ops[j]? =some oj→oj.dst=some d→j=i):=by
 intro i o I;unfold wQ at h;rw[List.all_eq_true]at h
 have hm:∀(j:Nat) (oj:Oper),ops[j]? =some oj→(oj,j)∈ops.toList.zipIdx:=fun j oj B=>by
  rw[List.mem_iff_getElem?];exact⟨j,by simp[B]⟩
 have h1:=h (o,i) (hm i o I);simp only[Bool.and_eq_true]at h1;obtain⟨⟨E,G⟩,A⟩:=h1;refine⟨by simpa using E,fun e he H=>?_,fun d hd=>?_⟩
 ·have h5:=Array.all_eq_true_iff_forall_mem.1 G e he
  rw[H]at h5
  simpa using h5
 rw[hd]at A;simp only[Bool.and_eq_true,decide_eq_true_eq]at A;refine⟨A.1,fun j oj B D=>?_⟩;have h5:=List.all_eq_true.1 A.2 (oj,j) (hm j oj B);simp only[Bool.or_eq_true,beq_iff_eq,bne_iff_ne]at h5;rcases h5 with h5|h5
 ·exact h5
 ·exact absurd D h5
theorem RI.next {ops:Array Oper} {V:Nat→Value} {a0 a:Act} {W W':Array Bool→World→Prop} {listed:Array Bool} {w w':World} (n:Nat) (Gw:wQ ops n=true) (hn:n≤a0.tmps.size) (h:RI ops V a0 W listed a w)
 {o:Oper} (ho:ops[i]? =some o) (qa:listed.getD i true=false) (hw:W' (listed.setIfInBounds i true) w'):RI ops V a0 W' (listed.setIfInBounds i true) (a.put o.dst (V i)) w':=by
 have I:=bz qa;obtain⟨R,_,hd⟩:=ux Gw i o ho;refine⟨by simpa using h.ls,by rw[rr];exact h.ts,by rw[put_defers];exact h.df,fun j G d B A hl=>?_,fun t O=>?_,hw⟩
 ·cases E:o.dst with
  |none=>
   have J:j≠i:=fun e=>by
    subst e;rw[ho]at B
    cases B
    rw[E]at A
    cases A
   rw[ai I,if_neg J]at hl;exact h.done j G d B A hl
  |some d'=>
   obtain⟨D,L⟩:=hd d' E;have M:d'<a.tmps.size:=by rw[h.ts];exact Nat.lt_of_lt_of_le D hn
   rw[j9 _ M]
   by_cases H:d=d'
   ·have:=L j G B (by rw[←H];exact A)
    rw[if_pos H,this]
   ·rw[if_neg H]
    have J:j≠i:=fun e=>by
     subst e;rw[ho]at B
     cases B
     rw[E]at A;exact H (Option.some.inj A).symm
    rw[ai I,if_neg J]at hl;exact h.done j G d B A hl
 ·have N:o.dst≠some t:=fun e=>by
   have:=O i o ho e;rw[ai I,if_pos rfl]at this
   cases this
  have hold:a.eval (.tmp t)=a0.eval (.tmp t):=h.same t fun j G B A=>by
   have h1:=O j G B A;rw[ai I]at h1;split at h1
   ·cases h1
   ·exact h1
  cases E:o.dst with
  |none=>exact hold
  |some d'=>
   obtain⟨D,_⟩:=hd d' E;rw[j9 _ (by rw[h.ts];exact Nat.lt_of_lt_of_le D hn),if_neg (fun e=>N (by rw[E,e]))];exact hold
theorem AQ {Γ:Type} {P:Program} {ops:Array Oper} {Q:Exit→Act→World→Prop} (V:Γ→Nat→Value) (γ0:Γ) (a0:Act) (W:Γ→Array Bool→World→Prop) (n:Nat) (Gw:wQ ops n=true) (hn:n≤a0.tmps.size)
 (Ar:∀γ listed a w j o,RI ops (V γ) a0 (W γ) listed a w→ops[j]? =some o→listed.getD j true=false→(∀e∈o.after,Region.binds .any e=true→listed.getD e.on false=true)→
  Oper.wp P o a w (fun a' w'=>∃γ',(∀i,listed.getD i false=true→V γ' i=V γ i)∧a'=a.put o.dst (V γ' j)∧W γ' (listed.setIfInBounds j true) w') Q)
 (oZ:∀γ listed a w,RI ops (V γ) a0 (W γ) listed a w→(∀j,j<ops.size→listed.getD j false=true)→Q .normal a w)
 {w:World} (h0:W γ0 (Array.replicate ops.size false) w):wpAny P .any ops Q ops.size (Array.replicate ops.size false) a0 w:=by
 have sp:=ux Gw
 have no:∀j,(Array.replicate ops.size false).getD j false=false:=fun j=>by
  rw[Array.getD_eq_getD_getElem?,Array.getElem?_replicate];split<;>rfl
 refine zN (fun listed a w'=>∃γ,RI ops (V γ) a0 (W γ) listed a w') (fun listed a w' i h E=>?_) (fun listed a' w' h E=>?_) _ _ _ _ ?_ ?_
 ·obtain⟨γ,h⟩:=h
  obtain⟨G,o,A,J⟩:=mem_ready.1 E;obtain⟨N,_,hd⟩:=sp i o A;refine wpOp_step A fun K M=>?_
  rw[if_pos (by simp[Region.wanted,N])];refine Oper.wp_mono (fun a' I O=>M a' I ?_) (Ar γ listed a w' i o h A G J);obtain⟨γ',B,rfl,hw⟩:=O;have L:RI ops (V γ') a0 (fun _ _=>True) listed a w':=⟨h.ls,h.ts,h.df,fun j R d D H hl=>(h.done j R d D H hl).trans (B j hl).symm,h.same,trivial⟩
  exact⟨γ',L.next n Gw hn A G hw⟩
 ·obtain⟨γ,h⟩:=h
  exact oZ γ _ _ _ h fun j D=>wO h.ls (fun i o A=>(sp i o A).2.1) E (j+1) j (by omega) D
 ·unfold vk
  exact Nat.le_trans (List.length_filter_le _ _) (by rw[List.length_range];exact Qk _)
 ·exact⟨γ0,Array.size_replicate,rfl,rfl,fun j o d _ _ hl=>(by rw[no]at hl;cases hl),fun t _=>rfl,h0⟩
def aP (ops:Array Oper) (i:Nat):Option Nat:=(ops[i]?).bind fun o=>o.dst
def nS (ops:Array Oper) (V:Nat→Value) (a0:Act):Nat→Act
 |0=>a0
 |n+1=>(nS ops V a0 n).put (aP ops n) (V n)
theorem Di (a:Act) (v:Value):a.put none v=a:=rfl
theorem rS (ops:Array Oper) (V:Nat→Value) (a0:Act):∀n,(nS ops V a0 n).tmps.size=a0.tmps.size
 |0=>rfl
 |n+1=>by rw[nS,rr,rS ops V a0 n]
theorem sd (ops:Array Oper) (V:Nat→Value) (a0:Act):∀n,(nS ops V a0 n).defers=a0.defers
 |0=>rfl
 |n+1=>by rw[nS,put_defers,sd ops V a0 n]
theorem AA {a:Act} {d:Option Nat} (v:Value) (h:d≠some t):(a.put d v).eval (.tmp t)=a.eval (.tmp t):=by
 cases d with
 |none=>rfl
 |some d=>
  have A:¬d=t:=fun e=>h (by rw[e])
  show((a.tmps.setIfInBounds d v).getD t undef)=a.tmps.getD t undef;simp[Array.getElem?_setIfInBounds_ne A]
theorem uT (ops:Array Oper) (V:Nat→Value) (a0:Act) (t:Nat):∀n,(∀j,j<n→aP ops j≠some t)→(nS ops V a0 n).eval (.tmp t)=a0.eval (.tmp t)
 |0,_=>rfl
 |n+1,h=>by
  rw[nS,AA _ (h n (by omega))];exact uT ops V a0 t n fun j A=>h j (by omega)
theorem uU {ops:Array Oper} (V:Nat→Value) (a0:Act) {t:Nat} (ht:t<a0.tmps.size) {i:Nat} (hi:aP ops i=some t) (hu:∀j,aP ops j=some t→j=i):∀n,i<n→(nS ops V a0 n).eval (.tmp t)=V i
 |0,h=>absurd h (by omega)
 |n+1,h=>by
  rw[nS]
  by_cases A:n=i
  ·subst A
   rw[hi,j9 _ (by rw[rS];exact ht),if_pos rfl]
  ·rw[AA _ (fun e=>A (hu n e))]
   exact uU V a0 ht hi hu n (by omega)
theorem N9 {a b:Act} (hs:a.tmps.size=b.tmps.size) (hd:a.defers=b.defers) (h:∀t,a.eval (.tmp t)=b.eval (.tmp t)):a=b:=by
 obtain⟨D,A⟩:=a;obtain⟨E,db⟩:=b;obtain rfl:A=db:=hd
 congr 1
 apply Array.ext hs;intro i h1 B;have:=h i;change D.getD i undef=E.getD i undef at this;rw[Array.getD_eq_getD_getElem?,Array.getD_eq_getD_getElem?,Array.getElem?_eq_getElem h1,Array.getElem?_eq_getElem B]at this;exact this
theorem Ag {ops:Array Oper} {V:Nat→Value} {a0 a:Act} {W:Array Bool→World→Prop} {listed:Array Bool} {w:World} (n:Nat) (Gw:wP ops n=true) (hn:n≤a0.tmps.size) (h:RI ops V a0 W listed a w) (hall:∀j,j<ops.size→listed.getD j false=true):a=nS ops V a0 ops.size:=by
 have sp:=zX Gw;refine N9 (by rw[h.ts,rS]) (by rw[h.df,sd]) fun t=>?_
 by_cases hex:∃i,aP ops i=some t
 ·obtain⟨i,hi⟩:=hex
  cases A:ops[i]? with
  |none=>rw[aP,A]at hi;cases hi
  |some o=>
   have hd:o.dst=some t:=by rw[aP,A]at hi;exact hi
   have E:=(Array.getElem?_eq_some_iff.1 A).1;obtain⟨h1,G⟩:=(sp i o A).2.2 t hd
   rw[h.done i o t A hd (hall i E),uU V a0 (Nat.lt_of_lt_of_le h1 hn) hi (fun j D=>by
    cases B:ops[j]? with
    |none=>rw[aP,B]at D;cases D
    |some oj=>exact G j oj B (by rw[aP,B]at D;exact D)) _ E]
 ·rw[uT ops V a0 t _ fun j _ e=>hex ⟨j,e⟩]
  exact h.same t fun j o A hd=>absurd ⟨j,by rw[aP,A];exact hd⟩ hex
theorem o9 {ops:Array Oper} {listed:Array Bool} {o:Oper} (ho:ops[j]? =some o) (ba:∀e∈o.after,Region.binds .any e=true→listed.getD e.on false=true) (hd:Gx ops j i=true):listed.getD i false=true:=by
 unfold Gx at hd;rw[ho]at hd;obtain⟨e,he,A⟩:=Array.any_eq_true'.1 (show o.after.any _=true from hd);simp only[Bool.and_eq_true,beq_iff_eq]at A;have hl:=ba e he A.2
 rwa [A.1]at hl
theorem xX {ops:Array Oper} {V:Nat→Value} {a0 a:Act} {W:Array Bool→World→Prop} {listed:Array Bool} {w:World} (n:Nat) (Gw:wQ ops n=true) (hn:n≤a0.tmps.size) (h:RI ops V a0 W listed a w) (hall:∀j,j<ops.size→listed.getD j false=true):a=nS ops V a0 ops.size:=by
 have sp:=ux Gw;refine N9 (by rw[h.ts,rS]) (by rw[h.df,sd]) fun t=>?_
 by_cases hex:∃i,aP ops i=some t
 ·obtain⟨i,hi⟩:=hex
  cases A:ops[i]? with
  |none=>rw[aP,A]at hi;cases hi
  |some o=>
   have hd:o.dst=some t:=by rw[aP,A]at hi;exact hi
   have E:=(Array.getElem?_eq_some_iff.1 A).1;obtain⟨h1,G⟩:=(sp i o A).2.2 t hd
   rw[h.done i o t A hd (hall i E),uU V a0 (Nat.lt_of_lt_of_le h1 hn) hi (fun j D=>by
    cases B:ops[j]? with
    |none=>rw[aP,B]at D;cases D
    |some oj=>exact G j oj B (by rw[aP,B]at D;exact D)) _ E]
 ·rw[uT ops V a0 t _ fun j _ e=>hex ⟨j,e⟩]
  exact h.same t fun j o A hd=>absurd ⟨j,by rw[aP,A];exact hd⟩ hex
end Mp
namespace Mk
open Go.MapKept cb iK
def WZ:pZ UInt8 where
 enc c:=.int .u8 (c.toNat:Int)
 kind:=.int .u8
 isKey _:=rfl
 inj a b h:=by injection h with _ h;exact UInt8.toNat.inj (by omega)
 same a:=by
  rw[Instr.sameBits];simp
section
variable {α:Type} {K:pZ α} {w:World} {B:Nat} {f:α→Option Value} {P:Program} {t k e:TypeId}
theorem jj.count (h:jj K w B f) (ht:P.underlying t=some (.map k e)) (ty:TypeId):∃n:Nat,(Builtin.len_ #[t] ty #[.map (some B)]).run P w=.ok (.int .i64 n) w∧(n=0↔∀x,f x=none):=by
 obtain⟨es,clock,D,hs,h1,A⟩:=h;refine⟨es.size,by simp[Builtin.len_,run_underlying ht,MapKept.run_getObj_map D,goInt,Result.andThen],fun G x=>?_,fun E=>?_⟩
 ·cases hf:f x with
  |none=>rfl
  |some v=>
   obtain⟨y,hy,_⟩:=A x v hf;rw[Array.eq_empty_of_size_eq_zero G]at hy;simp at hy
 ·rcases Nat.eq_zero_or_pos es.size with h0|h0
  ·exact h0
  ·obtain⟨j,_,hf⟩:=h1 es[0] (by simp)
   rw[E j]at hf
   cases hf
theorem jj.XN (h:jj K w B f) (ht:P.underlying t=some (.map k e)) (ty:TypeId):
 ∃w',(Builtin.clear_ #[t] ty #[.map (some B)]).run P w=.ok (.tuple #[]) w'∧jj K w' B (fun _=>none)∧Kept (aA B) w w'∧w'.heap.size=w.heap.size:=by
 obtain⟨es,clock,A,hs,h1,D⟩:=h;refine⟨Go.ChangeMaps.setBlock w B (.map #[] clock),?_,⟨#[],clock,(MapKept.heap_set A).1,stamped_empty clock,by simp,by simp⟩,q9 A,by simp[Go.ChangeMaps.setBlock]⟩;simp[Builtin.clear_,run_underlying ht,MapKept.run_getObj_map A,MapKept.run_setObj_map _ A,Result.andThen,Go.ChangeMaps.setBlock]
end
section
variable {α:Type} {K:pZ α} {P:Program} {w:World} {ops:Array Oper} {rest:List Oper} {o:Oper} {a:Act} {Q:Exit→Act→World→Prop} {f:α→Option Value} {t k e:TypeId}
end
end Mk
end Go.Proofs.YtdhibldkldlfpaaGreatDoor
