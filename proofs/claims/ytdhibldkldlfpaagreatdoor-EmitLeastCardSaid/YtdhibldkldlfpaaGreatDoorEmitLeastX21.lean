/- Merged. -/
import Derived.Test.YtdhibldkldlfpaaGreatDoorEmitLeastX12
import Derived.Maps.RangeRun
import Derived.Maps.RangeWalk
import Derived.Test.YtdhibldkldlfpaaGreatDoorEmitLeastX13
import Derived.Test.YtdhibldkldlfpaaGreatDoorEmitLeastX7
namespace Go.Proofs.YtdhibldkldlfpaaGreatDoor
set_option linter.unusedVariables false
set_option maxRecDepth 100000
open Go.ChangeShapes Go.WideShapes Go.ChangeAt Go.RowKit Base bJ
variable {S:Nat→Prop}
namespace Mp
open Go.MapKept
def ka (k:Nat):Value:=.int .i64 k
theorem oI {a b:Nat} (h:ka a=ka b):a=b:=by unfold ka at h;injection h with _ h;omega
def js (w:World) (B:Nat) (f:Nat→Option Value):Prop:=
 ∃es clock,w.heap[B]? =some (.map es clock)∧Stamped es clock∧(∀e∈es.toList,∃k,e.key=ka k∧f k=some e.val)∧(∀k v,f k=some v→∃e∈es.toList,e.key=ka k)
def fV (w:World) (B R:Nat) (f:Nat→Option Value) (todo:Nat→Bool):Prop:=
 ∃es clock since seen c0,w.heap[B]? =some (.map es clock)∧Stamped es clock∧(∀e∈es.toList,∃k,e.key=ka k∧f k=some e.val)∧(∀k v,f k=some v→∃e∈es.toList,e.key=ka k)∧
  w.heap[R]? =some (.mapIter (some B) since seen c0)∧(∀x∈es.toList,x.born<since)∧since≤c0∧since≤clock∧(∀x∈es.toList,∀k,x.key=ka k→todo k=!seen.contains x.born)
section
variable {w w':World} {B R:Nat} {f:Nat→Option Value} {todo:Nat→Bool}
theorem js.lt (h:js w B f):B<w.heap.size:=by
 obtain⟨es,clock,A,_⟩:=h;exact(Array.getElem?_eq_some_iff.1 A).1
theorem js.kept (h:js w B f) (hk:Kept S w w') (hB:¬S B):js w' B f:=by
 obtain⟨es,clock,A,h⟩:=h;exact⟨es,clock,hk.some_ A hB,h⟩
theorem fV.map (h:fV w B R f todo):js w B f:=by
 obtain⟨es,clock,since,seen,c0,D,hs,h1,A,_⟩:=h;exact⟨es,clock,D,hs,h1,A⟩
theorem fV.kept (h:fV w B R f todo) (hk:Kept S w w') (hB:¬S B) (hR:¬S R):fV w' B R f todo∧w'.rangeLeft B R=w.rangeLeft B R:=by
 obtain⟨es,clock,since,seen,c0,E,hs,h1,H,G,I⟩:=h;have D:=hk.some_ E hB;have A:=hk.some_ G hR;exact⟨⟨es,clock,since,seen,c0,D,hs,h1,H,A,I⟩,by simp only[World.rangeLeft,E,G,D,A]⟩
theorem pO (w:World):js (w.alloc (.map #[] 0)) w.heap.size (fun _=>none):=
 ⟨#[],0,(MapKept.heap_alloc w _).1,stamped_empty 0,by simp,by simp⟩
theorem nh {o o':Obj} (hb:w.heap[B]? =some o):Kept (aA B) w (Go.ChangeMaps.setBlock w B o'):=
 ⟨rfl,rfl,rfl,by simp[Go.ChangeMaps.setBlock],fun k hk A=>(MapKept.heap_set hb).2 k A⟩
variable {P:Program} {t k e:TypeId}
theorem gr (x:Nat):IsKey (.int .i64) (ka x):=rfl
theorem js.put (h:js w B f) (ht:P.underlying t=some (.map k e)) (hk:P.underlying k=some (.int .i64)) (x:Nat) (v:Value) (hx:f x=none):
 ∃w',(Instr.mapUpdate t (.map (some B)) (ka x) v).run P w=.ok () w'∧js w' B (fun y=>if y=x then some v else f y)∧Kept (aA B) w w'∧w'.heap.size=w.heap.size:=by
 obtain⟨es,clock,D,hs,h1,J⟩:=h
 have E:∀y∈es.toList,y.key≠ka x:=fun y hy G=>by
  obtain⟨j,A,hf⟩:=h1 y hy;have:=oI (A.symm.trans G);subst this;rw[hx]at hf
  cases hf
 have I:Instr.findNow (.int .i64) (ka x) es.toList 0=some none:=by
  rcases findNow_spec (gr x) es.toList 0 (fun y hy=>by obtain⟨j,A,_⟩:=h1 y hy;rw[A];exact gr j)with⟨h,_⟩|⟨j,e0,_,h3,h4⟩
  ·exact h
  ·exact absurd h4 (E e0 (List.mem_of_getElem? h3))
 refine⟨Go.ChangeMaps.setBlock w B (.map (es.push {key:=ka x,val:=v,born:=clock}) (clock+1)),?_,⟨_,_,(MapKept.heap_set D).1,stamped_push hs E,?_,?_⟩,nh D,by simp[Go.ChangeMaps.setBlock]⟩
 ·simp[Instr.mapUpdate,run_underlying ht,MapKept.run_getObj_map D,run_checkKey hk (gr x),run_findKey hk I,MapKept.run_setObj_map _ D,Result.andThen,Go.ChangeMaps.setBlock]
 ·intro y hy
  simp only[Array.toList_push,List.mem_append,List.mem_singleton]at hy;rcases hy with hy|rfl
  ·obtain⟨j,A,hf⟩:=h1 y hy
   refine⟨j,A,?_⟩;show(if j=x then some v else f j)=_;rw[if_neg (fun e=>E y hy (by rw[A,e]))];exact hf
  ·exact⟨x,rfl,by show(if x=x then some v else f x)=_;rw[if_pos rfl]⟩
 ·intro j u A
  simp only[Array.toList_push,List.mem_append,List.mem_singleton];have A:(if j=x then some v else f j)=some u:=A
  by_cases H:j=x
  ·exact⟨_,Or.inr rfl,by rw[H]⟩
  ·rw[if_neg H]at A
   obtain⟨y,hy,hk⟩:=J j u A;exact⟨y,Or.inl hy,hk⟩
theorem js.look (h:js w B f) (ht:P.underlying t=some (.map k e)) (hk:P.underlying k=some (.int .i64)) {x:Nat} {v:Value} (hx:f x=some v):
 (Instr.lookup t (.map (some B)) (ka x) false).run P w=.ok v w:=by
 obtain⟨es,clock,I,hs,h1,H⟩:=h;obtain⟨G,D,E⟩:=H x v hx;rcases findNow_spec (gr x) es.toList 0 (fun y hy=>by obtain⟨j,J,_⟩:=h1 y hy;rw[J];exact gr j)with⟨_,uF⟩|⟨j,e0,dU,h3,h4⟩
 ·exact absurd E (uF G D)
 ·have L:e0.val=v:=by
   obtain⟨j',A,hf⟩:=h1 e0 (List.mem_of_getElem? h3);have:=oI (A.symm.trans h4);subst this;rw[hx]at hf;exact(Option.some.inj hf).symm
  have M:Instr.findNow (.int .i64) (ka x) es.toList 0=some (some (0+j,e0.val)):=by simpa using dU
  simp[Instr.lookup,run_underlying ht,MapKept.run_getObj_map I,run_checkKey hk (gr x),run_findKey hk M,Result.andThen,L]
theorem js.range (h:js w B f) (ht:P.underlying t=some (.map k e)) (KG:∀j v,f j=some v→todo j=true):
 ∃w',(Instr.range t (.map (some B))).run P w=.ok (.pointer (some ⟨w.heap.size,0,none⟩)) w'∧fV w' B w.heap.size f todo∧Kept ag w w'∧w'.heap.size=w.heap.size+1:=by
 have E:=h.lt;obtain⟨es,clock,A,hs,h1,G⟩:=h;refine⟨_,run_range_map w t k e B es clock ht A,⟨es,clock,clock,#[],clock,((MapKept.heap_alloc w _).2 B E).trans A,hs,h1,G,(MapKept.heap_alloc w _).1,hs.1,Qk _,Qk _,?_⟩,(Kept.refl _ _).alloc _,by simp⟩;intro x I j H;obtain⟨j',D,hf⟩:=h1 x I;have:=oI (D.symm.trans H);subst this;simp[KG _ _ hf]
theorem fV.next (h:fV w B R f todo) (ty:TypeId):
 ((∀j v,f j=some v→todo j=false)∧(Instr.next (.pointer (some ⟨R,0,none⟩)) false ty).run P w=.ok (.tuple #[.bool false]) w)∨
 ∃j v w',f j=some v∧todo j=true∧(Instr.next (.pointer (some ⟨R,0,none⟩)) false ty).run P w=.ok (.tuple #[.bool true,ka j,v]) w'∧fV w' B R f (fun z=>todo z&&z != j)∧w'.rangeLeft B R<w.rangeLeft B R∧
  Kept (aA R) w w'∧w'.heap.size=w.heap.size∧(Instr.entry (.pointer (some ⟨R,0,none⟩))).run P w'=.ok (.tuple #[ka j,v]) w':=by
 obtain⟨es,clock,since,seen,c0,I,hs,h1,X,G,hold,Y,H,O⟩:=h;have T:B≠R:=fun e=>by subst e;rw[I]at G;cases G
 rcases run_next_at (P:=P) w ty R B since c0 seen es clock G I hold Y with⟨h0,dS⟩|⟨e,he,w1,I5,dS⟩
 ·refine Or.inl ⟨fun j v A=>?_,dS⟩
  obtain⟨x,D,hk⟩:=X j v A;rw[O x D j hk,all_seen es seen h0 x D];rfl
 ·obtain⟨E,U⟩:=mem_left he
  obtain⟨j,A,hf⟩:=h1 e E;have L:w1.heap[R]? =some (.mapIter (some B) since seen c0):=by rcases I5 with rfl|rfl<;>exact G
  have Z:w1.heap[B]? =some (.map es clock):=by rcases I5 with rfl|rfl<;>exact I
  have b:Kept (aA R) w w1:=by
   rcases I5 with rfl|rfl
   ·exact Kept.refl _ _
   ·exact(Kept.refl _ _).drew
  have W:(Go.ChangeMaps.setBlock w1 R (.mapIter (some B) since (seen.push e.born) clock)).heap[R]? =some (.mapIter (some B) since (seen.push e.born) clock):=(MapKept.heap_set L).1;have M:(Go.ChangeMaps.setBlock w1 R (.mapIter (some B) since (seen.push e.born) clock)).heap[B]? =some (.map es clock):=((MapKept.heap_set L).2 B T).trans Z
  have V:(Go.ChangeMaps.setBlock w1 R (.mapIter (some B) since (seen.push e.born) clock)).heap.size=w.heap.size:=by
   have:w1.heap.size=w.heap.size:=by rcases I5 with rfl|rfl<;>rfl
   simp[Go.ChangeMaps.setBlock,this]
  rw[A]at dS;refine Or.inr ⟨j,e.val,_,hf,?_,dS,⟨es,clock,since,seen.push e.born,clock,M,hs,h1,X,W,hold,H,H,?_⟩,?_,b.trans (nh L),V,?_⟩
  ·rw[O e E j A,U];rfl
  ·intro x D i hi
   show(todo i&&i != j)=!(seen.push e.born).contains x.born;rw[O x D i hi,contains_push,Bool.not_or]
   congr 1
   by_cases J:i=j
   ·have N:x=e:=entry_eq_of_key ((stamped_iff es clock).1 hs).2.2 D E (by rw[hi,A,J])
    subst N;simp[J]
   ·have N:x.born≠e.born:=fun g=>J (by
     obtain rfl:=born_inj hs.2.1 D E g
     exact oI (hi.symm.trans A))
    have c:(x.born==e.born)=false:=by simpa using N
    have d:(i != j)=true:=by simpa using J
    rw[c,d];rfl
  ·simp only[World.rangeLeft,I,G,M,W]
   exact left_shrinks es seen e he
  ·rw[←A]
   exact run_entry_at _ R B since seen es clock e W M E hs.2.1
end
section
variable {P:Program} {w:World} {ops:Array Oper} {rest:List Oper} {o:Oper} {a:Act} {Q:Exit→Act→World→Prop} {f:Nat→Option Value} {t k e:TypeId}
theorem dP (hg:o.guard=none) (m x v:Operand) (bM:o.op=.mapUpdate t m x v∨o.op=.insert t m x v) (ht:P.underlying t=some (.map k e)) (hk:P.underlying k=some (.int .i64))
 (B:Nat) (h:js w B f) (hm:a.eval m=.map (some B)) (key:Nat) (hx:a.eval x=ka key) (hf:f key=none) (val:Value) (hv:a.eval v=val)
 (hK:∀w',Hid (js w' B (fun y=>if y=key then some val else f y))→Hid (Kept (aA B) w w')→w'.heap.size=w.heap.size→wpList P ops Q rest (a.put o.dst undef) w'):wpList P ops Q (o::rest) a w:=by
 refine wpList_plain hg fun G hK'=>?_
 subst hv;obtain⟨w',A,h1,D,E⟩:=h.put ht hk key (a.eval v) hf;unfold Oper.wp;rcases bM with bM|bM
 ·simp[execOp,bM,hm,hx,A,Result.andThen]
  exact hK' _ _ (hK w' (Qh h1) (Qh D) E)
 ·simp[execOp,bM,hm,hx,A,Result.andThen]
  exact hK' _ _ (hK w' (Qh h1) (Qh D) E)
theorem gM (hg:o.guard=none) (m:Operand) (bM:o.op=.range t m) (ht:P.underlying t=some (.map k e)) (B:Nat) (h:js w B f) (todo:Nat→Bool) (KG:∀j v,f j=some v→todo j=true) (hm:a.eval m=.map (some B)) (R:Nat) (hR:R=w.heap.size)
 (hK:∀w',Hid (fV w' B R f todo)→Hid (Kept ag w w')→w'.heap.size=w.heap.size+1→wpList P ops Q rest (a.put o.dst (.pointer (some ⟨R,0,none⟩))) w'):wpList P ops Q (o::rest) a w:=by
 subst hR;refine wpList_plain hg fun G hK'=>?_
 obtain⟨w',A,h1,D,E⟩:=h.range (P:=P) ht KG;unfold Oper.wp;simp[execOp,bM,hm,A,Result.andThen];exact hK' _ _ (hK w' (Qh h1) (Qh D) E)
theorem iL (hg:o.guard=none) (it:Operand) (bM:o.op=.next it false) (B R:Nat) (todo:Nat→Bool) (Yv:Nat→Value) (hf:∀j v,f j=some v→v=Yv j) (hit:a.eval it=.pointer (some ⟨R,0,none⟩)) (h:fV w B R f todo)
 (Tg:(∀j v,f j=some v→todo j=false)→wpList P ops Q rest (a.put o.dst (.tuple #[.bool false])) w)
 (Tp:∀(j:Nat) (w':World) (v:Value),f j=some v→todo j=true→Hid (fV w' B R f (fun z=>todo z&&z != j))→Hid (w'.rangeLeft B R<w.rangeLeft B R)→Hid (Kept (aA R) w w')→w'.heap.size=w.heap.size→
  (Instr.entry (.pointer (some ⟨R,0,none⟩))).run P w'=.ok (.tuple #[.int .i64 j,Yv j]) w'→wpList P ops Q rest (a.put o.dst (.tuple #[.bool true,.int .i64 j,Yv j])) w'):wpList P ops Q (o::rest) a w:=by
 refine wpList_plain hg fun A hK'=>?_
 unfold Oper.wp;rcases h.next (P:=P) o.type with⟨h0,dS⟩|⟨j,v,w',hj,NH,dS,hi,ax,vJ,hsz,Nv⟩
 ·simp[execOp,bM,hit,dS,Result.andThen]
  exact hK' _ _ (Tg h0)
 ·obtain rfl:=hf j v hj
  simp[execOp,bM,hit,dS,Result.andThen];exact hK' _ _ (Tp j w' _ hj NH (Qh hi) (Qh ax) (Qh vJ) hsz Nv)
end
end Mp
namespace Mp
open Go.MapKept Hp Go.Lib
variable {cs:Array Value} {i:Nat} {e:TypeId}
theorem ck {w:World} {g:Nat} (h:w.heap[g]? =some (.cells cs e (0,0))) (i:Nat):w.cell? ⟨g,i,none⟩=cs[i]? :=by
 simp[World.cell?,h]
theorem fp {w:World} {g:Nat} (h:w.heap[g]? =some (.cells cs e (0,0))) (i:Nat):w.frozen? ⟨g,i,none⟩=false:=by
 simp[World.frozen?,h]
def bv (x:UInt8):Value:=.int .u8 (x.toNat:Int)
def eB (w:World) (g:Nat) (bs:List UInt8):Prop:=w.heap[g]? =some (.cells (bs.map bv).toArray 5 (0,0))
section
variable {w w':World} {g:Nat} {bs:List UInt8}
theorem eB.lt (h:eB w g bs):g<w.heap.size:=(Array.getElem?_eq_some_iff.1 h).1
theorem eB.kept (h:eB w g bs) (hk:Kept S w w') (hg:¬S g):eB w' g bs:=hk.some_ h hg
theorem eB.gZ (h:eB w g bs):cB w (some ⟨g,0,none⟩) bs.length bs:=fun _=>⟨g,0,rfl,fun i hi=>by
 simp only[World.cell?,eB]at h⊢;rw[h]
 simp[List.getD,hi,bv]⟩
theorem eB.cell (h:eB w g bs) (i:Nat) (hi:i<bs.length):w.cell? ⟨g,i,none⟩=some (.int .u8 ((bs.getD i 0).toNat:Int)):=by
 obtain⟨b,o,he,hc⟩:=h.gZ (by omega)
 cases he
 have:=hc i hi
 rwa [Nat.zero_add]at this
theorem eB.frozen (h:eB w g bs) (i:Nat):w.frozen? ⟨g,i,none⟩=false:=by
 simp only[World.frozen?,eB]at h⊢;rw[h];rfl
theorem zT (n:Nat):madeCells #[Value.int .u8 0] n=((List.replicate n (0:UInt8)).map bv).toArray:=by
 apply Array.toList_inj.1;rw[toList_madeCells_one,List.map_replicate];rfl
theorem Is (w:World) (n:Nat):eB (w.alloc (.cells (madeCells #[Value.int .u8 0] n) 5)) w.heap.size (List.replicate n 0):=by
 unfold eB;rw[zT];exact heap_alloc_new w _
theorem LH {B n:Nat} (h:w.ownsRow B 5 1 (.slice (some ⟨g,0,none⟩) n n) n (madeCells (Value.int .u8 0).cells (n*1)).toList):eB w g (List.replicate n 0):=by
 rcases h.2 with⟨h1,_⟩|⟨g',cap,cur,he,_,hb,_,_,hs,ht⟩
 ·cases h1
 ·cases he
  unfold eB;rw[hb]
  congr 2
  rw[←zT];apply Array.toList_inj.1;rw[List.take_of_length_le (by simp[hs])]at ht;rw[ht,Nat.mul_one];rfl
end
theorem Iu {P:Program} {w:World} (dT sT ty elem:TypeId) (hu:P.underlying dT=some (.slice elem)) (hsz:(P.info? elem).map (·.size)=some 1) (dp sp:Option Addr) (jP sv AF Iw:Nat)
 (g off:Nat) (bs:List UInt8) (hg:eB w g bs) (cs:List UInt8) (hn:cs.length=Nat.min AF jP) (xF:0<cs.length→dp=some ⟨g,off,none⟩) (xM:cB w sp cs.length cs) (iF:off+cs.length≤bs.length):
 ∃w',(Builtin.copy_ #[dT,sT] ty #[.slice dp jP sv,.slice sp AF Iw]).run P w=.ok (goInt cs.length) w'∧eB w' g (splice bs off cs)∧Kept (aA g) w w'∧w'.heap.size=w.heap.size:=by
 by_cases E:cs.length=0
 ·obtain rfl:cs=[]:=List.eq_nil_of_length_eq_zero E
  exact⟨w,run_copy_none (P:=P) w dT sT ty elem dp sp jP sv AF Iw hu hsz (by simpa using hn.symm),by simpa [splice]using hg,Kept.refl _ _,rfl⟩
 ·obtain rfl:=xF (by omega)
  obtain⟨b,o,rfl,hc⟩:=xM (by omega)
  have D:=run_copy_row (P:=P) w dT sT ty elem g off jP sv ⟨b,o,none⟩ AF Iw _ _ (cs.map bv) hu hsz hg (by simpa using hn) (fun j v B=>by
   have A:j<cs.length:=by simpa using (List.getElem?_eq_some_iff.1 B).1
   rw[WideShapes.add_plain,hc j A];rw[List.getElem?_map,Qd A]at B;rw[←B]
   simp[List.getD,A,bv]) (by simpa using iF) (fun v G=>by
   obtain⟨x,_,rfl⟩:=List.mem_map.1 G
   rfl)
  have e:((bs.map bv).toArray.toList.take off++cs.map bv++(bs.map bv).toArray.toList.drop (off+(cs.map bv).length)).toArray=((splice bs off cs).map bv).toArray:=by
   simp[splice,List.map_take,List.map_drop]
  rw[e,Qi]at D;exact⟨w.setRow g ((splice bs off cs).map bv).toArray,D,setRow_heap w g _ _ _ _ hg,⟨rfl,rfl,rfl,by simp[World.setRow],fun k hk hn=>setRow_other w g k _ hn⟩,by simp[World.setRow]⟩
theorem Iv {P:Program} {w:World} (dT sT ty elem:TypeId) (hu:P.underlying dT=some (.slice elem)) (hsz:(P.info? elem).map (·.size)=some 1) (dp:Option Addr) (jP sv:Nat) (s:ByteArray)
 (g off:Nat) (bs:List UInt8) (hg:eB w g bs) (cs:List UInt8) (hn:cs=s.data.toList.take jP) (xF:0<cs.length→dp=some ⟨g,off,none⟩) (iF:off+cs.length≤bs.length):
 ∃w',(Builtin.copy_ #[dT,sT] ty #[.slice dp jP sv,.string s]).run P w=.ok (goInt cs.length) w'∧eB w' g (splice bs off cs)∧Kept (aA g) w w'∧w'.heap.size=w.heap.size:=by
 have G:s.data.toList.length=s.size:=by simp
 have B:cs.length=min s.size jP:=by
  rw[hn,Qg];omega
 have hl:cs.length=Nat.min s.size jP:=B
 have hcs:((s.data.toList.map fun x=>Value.int .u8 (x.toNat:Int)).take (Nat.min s.size jP))=cs.map bv:=by
  rw[←List.map_take,hn];show(s.data.toList.take (min s.size jP)).map _=_
  by_cases h:s.size≤jP
  ·rw[Nat.min_eq_left h,List.take_of_length_le (by omega),List.take_of_length_le (by omega)]
   rfl
  ·rw[Nat.min_eq_right (by omega)]
   rfl
 obtain⟨i,hi⟩:∃i,P.info? elem=some i:=by
  cases h:P.info? elem with
  |none=>rw[h]at hsz;cases hsz
  |some i=>exact⟨i,rfl⟩
 by_cases D:cs.length=0
 ·obtain rfl:cs=[]:=List.eq_nil_of_length_eq_zero D
  refine⟨w,?_,by simpa [splice]using hg,Kept.refl _ _,rfl⟩;have h1:Nat.min s.size jP=0:=by simpa using hl.symm
  cases dp with
  |none=>simp[Builtin.copy_,run_underlying hu,Builtin.lenOf,Builtin.firstCells,sizeOf,typeInfo,hi,h1]
  |some a=>simp[Builtin.copy_,run_underlying hu,Builtin.lenOf,Builtin.firstCells,sizeOf,typeInfo,hi,h1,storeCells]
 ·obtain rfl:=xF (by omega)
  have A:=run_storeCells_at P g off _ (cs.map bv) 0 _ w hg (by simpa using iF) (fun v E=>by
   obtain⟨x,_,rfl⟩:=List.mem_map.1 E
   rfl)
  have e:((bs.map bv).toArray.toList.take (off+0)++cs.map bv++(bs.map bv).toArray.toList.drop (off+0+(cs.map bv).length)).toArray=((splice bs off cs).map bv).toArray:=by
   simp[splice,List.map_take,List.map_drop]
  rw[e]at A;refine⟨w.setRow g ((splice bs off cs).map bv).toArray,?_,setRow_heap w g _ _ _ _ hg,⟨rfl,rfl,rfl,by simp[World.setRow],fun k hk hn=>setRow_other w g k _ hn⟩,by simp[World.setRow]⟩;simp[Builtin.copy_,run_underlying hu,Builtin.lenOf,Builtin.firstCells,sizeOf,typeInfo,hi,hcs,A,hl]
section
variable {P:Program} {w:World} {ops:Array Oper} {rest:List Oper} {o:Oper} {a:Act} {Q:Exit→Act→World→Prop}
theorem yx (rH:o.guard=none) (d s:Operand) (dT sT:TypeId) (ho:o.op=.call {callee:=.builtin .copy,args:=#[d,s],argTypes:=#[dT,sT]}) (elem:TypeId) (hu:P.underlying dT=some (.slice elem)) (hsz:(P.info? elem).map (·.size)=some 1)
 (dp:Option Addr) (jP sv:Nat) (str:ByteArray) (hd:a.eval d=.slice dp jP sv) (hs:a.eval s=.string str)
 (g off:Nat) (bs:List UInt8) (hg:eB w g bs) (cs:List UInt8) (hn:cs=str.data.toList.take jP) (xF:0<cs.length→dp=some ⟨g,off,none⟩) (iF:off+cs.length≤bs.length)
 (h:∀w',Hid (eB w' g (splice bs off cs))→Kept (aA g) w w'→w'.heap.size=w.heap.size→wpList P ops Q rest (a.put o.dst (goInt cs.length)) w'):wpList P ops Q (o::rest) a w:=by
 refine wpList_plain rH fun K E=>?_
 obtain⟨w',A,h1,B,D⟩:=Iv (P:=P) dT sT o.type elem hu hsz dp jP sv str g off bs hg cs hn xF iF;unfold Oper.wp;simp[execOp,ho,resolve,invoke,builtin,hd,hs,A,Result.andThen];exact E _ _ (h w' (Qh h1) B D)
theorem tZ {K:Act→World→Prop} {E:Prop} (rH:o.guard=none) (d s:Operand) (dT sT:TypeId) (ho:o.op=.call {callee:=.builtin .copy,args:=#[d,s],argTypes:=#[dT,sT]}) (elem:TypeId) (hu:P.underlying dT=some (.slice elem)) (hsz:(P.info? elem).map (·.size)=some 1)
 (dp sp:Option Addr) (jP sv AF Iw:Nat) (hd:a.eval d=.slice dp jP sv) (hs:a.eval s=.slice sp AF Iw)
 (g off:Nat) (bs:List UInt8) (hg:eB w g bs) (cs:List UInt8) (hn:cs.length=Nat.min AF jP) (xF:0<cs.length→dp=some ⟨g,off,none⟩) (xM:cB w sp cs.length cs) (iF:off+cs.length≤bs.length)
 (h:∀w',Hid (eB w' g (splice bs off cs))→Kept (aA g) w w'→w'.heap.size=w.heap.size→K (a.put o.dst (goInt cs.length)) w'):
 if Region.wanted o (yielded ops a.tmps)=true then Oper.wp P o a w K Q else E:=by
 have hw:Region.wanted o (yielded ops a.tmps)=true:=by simp[Region.wanted,rH]
 rw[if_pos hw];obtain⟨w',A,h1,B,D⟩:=Iu (P:=P) dT sT o.type elem hu hsz dp sp jP sv AF Iw g off bs hg cs hn xF xM iF;unfold Oper.wp;simp[execOp,ho,resolve,invoke,builtin,hd,hs,A,Result.andThen];exact h w' (Qh h1) B D
end
def cL (r:Nat→Nat) (i:Nat):Value:=.agg #[.int .i64 (fC i),.slice (some ⟨r i,0,none⟩) (aj i) (aj i)]
def ix (r:Nat→Nat):Nat→Option Value:=fun i=>if i<11 then some (cL r i)else none
structure aZ (w:World) (lo B:Nat) (r:Nat→Nat) (own:Nat→List UInt8):Prop where
 map:js w B (ix r)
 row:∀i,i<11→eB w (r i) (own i)
 fit:Fits own
 inj:∀i j,i<11→j<11→r i=r j→i=j
 lo:lo≤B∧∀i,i<11→lo≤r i
section
variable {w w':World} {lo B:Nat} {r:Nat→Nat} {own:Nat→List UInt8}
theorem aZ.kept (h:aZ w lo B r own) (hk:Kept S w w') (hB:¬S B) (hr:∀i,i<11→¬S (r i)):aZ w' lo B r own:=
 ⟨h.map.kept hk hB,fun i hi=>(h.row i hi).kept hk (hr i hi),h.fit,h.inj,h.lo⟩
theorem aZ.cJ (h:aZ w lo B r own) (hk:Kept ag w w'):aZ w' lo B r own:=h.kept hk id fun _ _=>id
theorem aZ.YB (h:aZ w lo B r own) (hi:i<11):r i≠B:=fun e=>by
 obtain⟨es,clock,A,_⟩:=h.map;have:=h.row i hi;unfold eB at this;rw[e,A]at this
 cases this
theorem aZ.gZ (h:aZ w lo B r own) (hi:i<11):cB w (some ⟨r i,0,none⟩) (aj i) (own i):=by
 have:=(h.row i hi).gZ
 rwa [h.fit i]at this
theorem aZ.wrote (h:aZ w lo B r own) (hi:i<11) (hk:Kept (aA (r i)) w w') {l:List UInt8} (hl:l.length=aj i) (hr:eB w' (r i) l):aZ w' lo B r (Ba own i l):=
 ⟨h.map.kept hk (fun e=>h.YB hi (Eq.symm e)),fun j D=>by
  by_cases A:j=i
  ·subst A;rw[mB];exact hr
  ·rw[iT _ _ A]
   exact(h.row j D).kept hk (fun e=>A (h.inj j i D hi e)),h.fit.Ba hl,h.inj,h.lo⟩
end
end Mp
namespace Head
open Go.MapKept cn Hp Go.Proofs.YtdhibldkldlfpaaGreatDoor.Mp Go.Lib
variable {k:Nat}
def Rp (f:Func):Array Oper:=
 match f.body with
 |some (.seq _ (.region _ ops _))=>ops
 |some (.seq _ (.seq (.region _ ops _) _))=>ops
 |_=>#[]
noncomputable def bu:Array Oper:=Rp Tryz.f135
theorem Ro:∃o,bu[0]? =some o∧o.op=.makeMap 166 none∧o.dst=some 1∧o.guard=none:=⟨_,rfl,rfl,rfl,rfl⟩
theorem N7:∀i,i<11→∃o,bu[1+3*i]? =some o∧o.op=.makeSlice 26 (.const (.int .i64 (aj i))) (.const (.int .i64 (aj i)))∧o.dst=some (2+2*i)∧o.guard=none:=by
 intro i hi;rcases kB hi with rfl|rfl|rfl|rfl|rfl|rfl|rfl|rfl|rfl|rfl|rfl<;>exact⟨_,rfl,rfl,rfl,rfl⟩
theorem Lj:∀i,i<11→∃o,bu[2+3*i]? =some o∧o.op=.build 169 #[(0,.const (.int .i64 (fC i))),(1,.tmp (2+2*i))]∧o.dst=some (3+2*i)∧o.guard=none∧o.after=#[⟨1+3*i,.data⟩]:=by
 intro i hi;rcases kB hi with rfl|rfl|rfl|rfl|rfl|rfl|rfl|rfl|rfl|rfl|rfl<;>exact⟨_,rfl,rfl,rfl,rfl,rfl⟩
theorem Rn:∀i,i<11→∃o,bu[3+3*i]? =some o∧o.op=.insert 166 (.tmp 1) (.const (.int .i64 (i:Int))) (.tmp (3+2*i))∧o.dst=none∧o.guard=none∧o.after=#[⟨0,.data⟩,⟨2+3*i,.data⟩]:=by
 intro i hi;rcases kB hi with rfl|rfl|rfl|rfl|rfl|rfl|rfl|rfl|rfl|rfl|rfl<;>exact⟨_,rfl,rfl,rfl,rfl,rfl⟩
theorem N8:∃o,bu[34]? =some o∧o.op=.move (.tmp 1)∧o.dst=some 24∧o.guard=none∧o.after[0]? =some ⟨0,.data⟩:=⟨_,rfl,rfl,rfl,rfl,rfl⟩
theorem Hw:∃o,bu[35]? =some o∧o.op=.assign (.tmp 24)∧o.dst=some 0∧o.guard=none∧o.after[0]? =some ⟨34,.data⟩:=⟨_,rfl,rfl,rfl,rfl,rfl⟩
theorem rO:bu.size=36:=rfl
theorem N6:∀i o,bu[i]? =some o→∀e∈o.after,Region.binds .any e=true→e.on<i:=by
 have h:(bu.toList.zipIdx.all fun x=>x.1.after.all fun e=>decide (e.on<x.2))=true:=by decide+kernel
 intro i o B e he _;rw[List.all_eq_true]at h;have h1:=h (o,i) (by rw[List.mem_iff_getElem?];exact⟨i,by simp[B]⟩);have A:=Array.all_eq_true_iff_forall_mem.1 h1 e he
 simpa using A
structure BI (w0:World) (listed:Array Bool) (a:Act) (w:World) (B:Nat) (r:Nat→Nat):Prop where
 ls:listed.size=36
 ts:a.tmps.size=25
 df:a.defers=[]
 kept:Kept ag w0 w
 m0:listed.getD 0 false=true→a.eval (.tmp 1)=.map (some B)∧w0.heap.size≤B∧js w B (fun i=>if i<11∧listed.getD (3+3*i) false=true then some (cL r i)else none)
 MC:∀i,i<11→listed.getD (1+3*i) false=true→a.eval (.tmp (2+2*i))=.slice (some ⟨r i,0,none⟩) (aj i) (aj i)∧w0.heap.size≤r i∧eB w (r i) (List.replicate (aj i) 0)
 bd:∀i,i<11→listed.getD (2+3*i) false=true→a.eval (.tmp (3+2*i))=cL r i∧listed.getD (1+3*i) false=true
 ins:∀i,i<11→listed.getD (3+3*i) false=true→listed.getD (2+3*i) false=true∧listed.getD 0 false=true
 inj:∀i j,i<11→j<11→listed.getD (1+3*i) false=true→listed.getD (1+3*j) false=true→r i=r j→i=j
 mv:listed.getD 34 false=true→listed.getD 0 false=true∧a.eval (.tmp 24)=.map (some B)
 RV:listed.getD 35 false=true→listed.getD 34 false=true∧a.eval (.tmp 0)=.map (some B)
theorem BW (w:World) (i:Nat) (x:Value) (hx:∃p l c,x=.slice p l c):(Instr.build 169 #[(0,.int .i64 (fC i)),(1,x)]).run Tryz.prog w=.ok (.agg #[.int .i64 (fC i),x]) w:=by
 obtain⟨p,l,c,rfl⟩:=hx
 kernel_rfl
section
variable {w0 w:World} {listed:Array Bool} {a:Act} {B:Nat} {r:Nat→Nat} {Q:Exit→Act→World→Prop}
def BX (w0:World) (listed:Array Bool) (a:Act) (w:World):Prop:=∃B r,BI w0 listed a w B r
theorem step_map (h:BI w0 listed a w B r) (hr:0∈Region.ready .any bu listed):wpOp Tryz.prog bu Q 0 (BX w0 (listed.setIfInBounds 0 true)) a w:=by
 have I:=(mem_ready.1 hr).1;have hf:=fq I;have A:=bA I;obtain⟨o,T,J,hd,O⟩:=Ro;refine wpOp_step T fun K N=>?_
 rw[if_pos (by simp[Region.wanted,O])];have L:=@run_makeMap Tryz.prog 166 w;unfold Oper.wp;simp[execOp,J,L,Result.andThen];rw[Oper.upon_value,hd];refine N _ _ ⟨w.heap.size,r,?_⟩;have E:=h.ts;have G:Kept ag w (w.alloc (.map #[] 0)):=(Kept.refl _ _).alloc _;have H:∀t:Nat,t≠1→(a.put (some 1) (.map (some w.heap.size))).eval (.tmp t)=a.eval (.tmp t):=fun t U=>by rw[dL _ (by omega),if_neg U]
 have no:∀i,i<11→listed.getD (3+3*i) false=false:=fun i hi=>by
  cases hc:listed.getD (3+3*i) false with
  |false=>rfl
  |true=>have:=(h.ins i hi hc).2;rw[hf]at this;cases this
 refine⟨by simpa using h.ls,by rw[jo];exact E,by rw[put_defers];exact h.df,h.kept.trans G,fun _=>⟨by rw[dL _ (by omega),if_pos rfl],h.kept.size,?_⟩,?_,?_,?_,?_,?_,?_⟩
 ·have e:(fun i=>if i<11∧(listed.setIfInBounds 0 true).getD (3+3*i) false=true then some (cL r i)else none)=fun _=>(none:Option Value):=by
   funext i
   rw[ai A,if_neg (show ¬3+3*i=0 by omega)]
   by_cases hi:i<11
   ·rw[no i hi];simp
   ·simp[hi]
  rw[e];exact pO w
 ·intro i hi hl
  rw[ai A,if_neg (show ¬1+3*i=0 by omega)]at hl;obtain⟨h1,D,M⟩:=h.MC i hi hl;exact⟨by rw[H _ (by omega)];exact h1,D,M.kept G id⟩
 ·intro i hi hl
  rw[ai A,if_neg (show ¬2+3*i=0 by omega)]at hl;obtain⟨h1,D⟩:=h.bd i hi hl;exact⟨by rw[H _ (by omega)];exact h1,by rw[ai A,if_neg (by omega)];exact D⟩
 ·intro i hi hl
  rw[ai A,if_neg (show ¬3+3*i=0 by omega),no i hi]at hl
  cases hl
 ·intro i j hi R h1 D
  rw[ai A,if_neg (show ¬1+3*i=0 by omega)]at h1;rw[ai A,if_neg (show ¬1+3*j=0 by omega)]at D;exact h.inj i j hi R h1 D
 ·intro hl
  rw[ai A,if_neg (by omega)]at hl;have:=(h.mv hl).1;rw[hf]at this
  cases this
 ·intro hl
  rw[ai A,if_neg (by omega)]at hl;have:=(h.mv (h.RV hl).1).1;rw[hf]at this
  cases this
theorem IB (h:BI w0 listed a w B r) (hk:k<11) (hr:1+3*k∈Region.ready .any bu listed):wpOp Tryz.prog bu Q (1+3*k) (BX w0 (listed.setIfInBounds (1+3*k) true)) a w:=by
 have R:=(mem_ready.1 hr).1;have hf:=fq R;have V:=bA R;have hw:=kq hk;obtain⟨o,d,W,hd,c⟩:=N7 k hk;obtain⟨i0,U,Z,X,Y⟩:=info_parts lR;refine wpOp_step d fun K b=>?_
 rw[if_pos (by simp[Region.wanted,c])];have O:=run_make (P:=Tryz.prog) w 26 5 i0 (.int .u8 0) Tryz.underlying26 U Z .i64 .i64 (aj k) (aj k) (by omega) (by omega) (by rw[Y];omega) (by omega);rw[X,Nat.mul_one,Int.toNat_natCast,show(Value.int .u8 0).cells=#[Value.int .u8 0]from rfl]at O;unfold Oper.wp;simp[execOp,W,Act.eval,O,Result.andThen];rw[Oper.upon_value,hd];refine b _ _ ⟨B,fun i=>if i=k then w.heap.size else r i,?_⟩;have M:=h.ts;have J:Kept ag w (w.alloc (.cells (madeCells #[Value.int .u8 0] (aj k)) 5)):=(Kept.refl _ _).alloc _;have G:∀t:Nat,t≠2+2*k→(a.put (some (2+2*k)) (.slice (some ⟨w.heap.size,0,none⟩) (aj k) (aj k))).eval (.tmp t)=a.eval (.tmp t):=fun t f=>by rw[dL _ (by omega),if_neg f]
 have ls:∀j,j≠1+3*k→(listed.setIfInBounds (1+3*k) true).getD j false=listed.getD j false:=fun j I=>by rw[ai V,if_neg I]
 have H:listed.getD (2+3*k) false=false:=by
  cases hc:listed.getD (2+3*k) false with
  |false=>rfl
  |true=>have:=(h.bd k hk hc).2;rw[hf]at this;cases this
 have N:listed.getD (3+3*k) false=false:=by
  cases hc:listed.getD (3+3*k) false with
  |false=>rfl
  |true=>have:=(h.ins k hk hc).1;rw[H]at this;cases this
 have T:∀i,i≠k→cL (fun i=>if i=k then w.heap.size else r i) i=cL r i:=fun i hi=>by simp only[cL,if_neg hi]
 refine⟨by simpa using h.ls,by rw[jo];exact M,by rw[put_defers];exact h.df,h.kept.trans J,?_,?_,?_,?_,?_,?_,?_⟩
 ·intro hl
  rw[ls 0 (by omega)]at hl;obtain⟨h1,D,L⟩:=h.m0 hl;refine⟨by rw[G _ (by omega)];exact h1,D,?_⟩
  have e:(fun i=>if i<11∧(listed.setIfInBounds (1+3*k) true).getD (3+3*i) false=true then some (cL (fun i=>if i=k then w.heap.size else r i) i)else none)=fun i=>if i<11∧listed.getD (3+3*i) false=true then some (cL r i)else none:=by
   funext i
   rw[ls _ (by omega)]
   by_cases A:i=k
   ·subst A;rw[N];simp
   ·rw[T i A]
  rw[e];exact L.kept J id
 ·intro i hi hl
  by_cases A:i=k
  ·subst A
   refine⟨by rw[dL _ (by omega),if_pos rfl,if_pos rfl],by rw[if_pos rfl];exact h.kept.size,?_⟩;rw[if_pos rfl];exact Is w (aj i)
  ·rw[ls _ (by omega)]at hl
   obtain⟨h1,D,L⟩:=h.MC i hi hl;rw[if_neg A];exact⟨by rw[G _ (by omega)];exact h1,D,L.kept J id⟩
 ·intro i hi hl
  rw[ls _ (by omega)]at hl
  by_cases A:i=k
  ·subst A;rw[H]at hl;cases hl
  ·obtain⟨h1,D⟩:=h.bd i hi hl
   exact⟨by rw[G _ (by omega),T i A];exact h1,by rw[ls _ (by omega)];exact D⟩
 ·intro i hi hl
  rw[ls _ (by omega)]at hl;rw[ls _ (by omega),ls _ (by omega)];exact h.ins i hi hl
 ·intro i j hi I h1 D
  by_cases A:i=k
  ·by_cases E:j=k
   ·intro _;rw[A,E]
   ·rw[if_pos A,if_neg E]
    rw[ls _ (by omega)]at D;have:=(h.MC j I D).2.2.lt;intro e;omega
  ·rw[ls _ (by omega)]at h1
   by_cases E:j=k
   ·rw[if_neg A,if_pos E]
    have:=(h.MC i hi h1).2.2.lt;intro e;omega
   ·rw[if_neg A,if_neg E]
    rw[ls _ (by omega)]at D;exact h.inj i j hi I h1 D
 ·intro hl
  rw[ls _ (by omega)]at hl;rw[ls _ (by omega),G _ (by omega)];exact h.mv hl
 ·intro hl
  rw[ls _ (by omega)]at hl;rw[ls _ (by omega),G _ (by omega)];exact h.RV hl
theorem DP (h:BI w0 listed a w B r) (hk:k<11) (hr:2+3*k∈Region.ready .any bu listed):wpOp Tryz.prog bu Q (2+3*k) (BX w0 (listed.setIfInBounds (2+3*k) true)) a w:=by
 obtain⟨L,o',U,R⟩:=mem_ready.1 hr;have I:=bA L;have hf:=fq L;obtain⟨o,J,T,hd,Y,M⟩:=Lj k hk;obtain rfl:o=o':=Option.some.inj (J.symm.trans U);have H:listed.getD (1+3*k) false=true:=R ⟨1+3*k,.data⟩ (by rw[M];simp) rfl;obtain⟨N,_,_⟩:=h.MC k hk H;refine wpOp_step J fun K X=>?_
 rw[if_pos (by simp[Region.wanted,Y])];have V:=BW w k (.slice (some ⟨r k,0,none⟩) (aj k) (aj k)) ⟨_,_,_,rfl⟩;have O:a.tmps.getD (2+2*k) undef=.slice (some ⟨r k,0,none⟩) (aj k) (aj k):=N;unfold Oper.wp;simp only[execOp,T,List.map_toArray,List.map_cons,List.map_nil,Act.eval,O,Sem.run_bind,V,Result.andThen,Oper.upon];rw[hd];refine X _ _ ⟨B,r,?_⟩;have G:=h.ts;have D:∀t:Nat,t≠3+2*k→(a.put (some (3+2*k)) (cL r k)).eval (.tmp t)=a.eval (.tmp t):=fun t Z=>by rw[dL _ (by omega),if_neg Z]
 have ls:∀j,j≠2+3*k→(listed.setIfInBounds (2+3*k) true).getD j false=listed.getD j false:=fun j E=>by rw[ai I,if_neg E]
 show BI w0 _ (a.put (some (3+2*k)) (cL r k)) w B r;refine⟨by simpa using h.ls,by rw[jo];exact G,by rw[put_defers];exact h.df,h.kept,?_,?_,?_,?_,?_,?_,?_⟩
 ·intro hl
  rw[ls 0 (by omega)]at hl;obtain⟨h1,A,W⟩:=h.m0 hl;refine⟨by rw[D _ (by omega)];exact h1,A,?_⟩
  have e:(fun i=>if i<11∧(listed.setIfInBounds (2+3*k) true).getD (3+3*i) false=true then some (cL r i)else none)=fun i=>if i<11∧listed.getD (3+3*i) false=true then some (cL r i)else none:=by
   funext i
   rw[ls _ (by omega)]
  rw[e];exact W
 ·intro i hi hl
  rw[ls _ (by omega)]at hl;rw[D _ (by omega)];exact h.MC i hi hl
 ·intro i hi hl
  by_cases b:i=k
  ·subst b
   exact⟨by rw[dL _ (by omega),if_pos rfl],by rw[ls _ (by omega)];exact H⟩
  ·rw[ls _ (by omega)]at hl
   obtain⟨h1,A⟩:=h.bd i hi hl;exact⟨by rw[D _ (by omega)];exact h1,by rw[ls _ (by omega)];exact A⟩
 ·intro i hi hl
  rw[ls _ (by omega)]at hl;obtain⟨h1,A⟩:=h.ins i hi hl;refine⟨?_,by rw[ls _ (by omega)];exact A⟩;rw[ai I];split
  ·rfl
  ·exact h1
 ·intro i j hi E h1 A
  rw[ls _ (by omega)]at h1 A;exact h.inj i j hi E h1 A
 ·intro hl
  rw[ls _ (by omega)]at hl;rw[ls _ (by omega),D _ (by omega)];exact h.mv hl
 ·intro hl
  rw[ls _ (by omega)]at hl;rw[ls _ (by omega),D _ (by omega)];exact h.RV hl
theorem LU (h:BI w0 listed a w B r) (hk:k<11) (hr:3+3*k∈Region.ready .any bu listed):wpOp Tryz.prog bu Q (3+3*k) (BX w0 (listed.setIfInBounds (3+3*k) true)) a w:=by
 obtain⟨U,o',c,R⟩:=mem_ready.1 hr;have O:=bA U;have hf:=fq U;obtain⟨o,T,Z,hd,l,J⟩:=Rn k hk;obtain rfl:o=o':=Option.some.inj (T.symm.trans c);have L:listed.getD 0 false=true:=R ⟨0,.data⟩ (by rw[J];simp) rfl;have M:listed.getD (2+3*k) false=true:=R ⟨2+3*k,.data⟩ (by rw[J];simp) rfl;obtain⟨N,W,G⟩:=h.m0 L;obtain⟨b,_⟩:=h.bd k hk M;refine wpOp_step T fun K f=>?_
 rw[if_pos (by simp[Region.wanted,l])];obtain⟨w',d,m,V,hs⟩:=G.put (P:=Tryz.prog) Tryz.underlying166 Tryz.underlying170 k (cL r k) (by rw[hf];simp);have X:(Instr.mapUpdate 166 (.map (some B)) (.int .i64 (k:Int)) (cL r k)).run Tryz.prog w=.ok () w':=d;unfold Oper.wp;simp[execOp,Z,N,b,JZ,X,Result.andThen]
 first|rw[Oper.upon_value,hd]|rw[Oper.upon_skip,hd]
 refine f _ _ ⟨B,r,?_⟩;have I:=h.ts;have ls:∀j,j≠3+3*k→(listed.setIfInBounds (3+3*k) true).getD j false=listed.getD j false:=fun j H=>by rw[ai O,if_neg H]
 have p:B<w.heap.size:=G.lt
 have Y:Kept ag w0 w':=h.kept.then V (fun i hi=>by
  have:i=B:=hi
  omega)
 refine⟨by simpa using h.ls,I,h.df,Y,?_,?_,?_,?_,?_,?_,?_⟩
 ·intro _
  refine⟨N,W,?_⟩
  have e:(fun i=>if i<11∧(listed.setIfInBounds (3+3*k) true).getD (3+3*i) false=true then some (cL r i)else none)=fun y=>if y=k then some (cL r k)else(if y<11∧listed.getD (3+3*y) false=true then some (cL r y)else none):=by
   funext i
   by_cases E:i=k
   ·subst E
    rw[ai O,if_pos rfl,if_pos ⟨hk,rfl⟩,if_pos rfl]
   ·rw[ls _ (by omega),if_neg E]
  rw[e];exact m
 ·intro i hi hl
  rw[ls _ (by omega)]at hl;obtain⟨h1,A,D⟩:=h.MC i hi hl;refine⟨h1,A,D.kept V (fun e=>?_)⟩;have e:r i=B:=e;obtain⟨es,clock,g,_⟩:=G;unfold eB at D;rw[e,g]at D
  cases D
 ·intro i hi hl
  rw[ls _ (by omega)]at hl;rw[ls _ (by omega)];exact h.bd i hi hl
 ·intro i hi hl
  rw[ls _ (by omega),ls _ (by omega)]
  by_cases E:i=k
  ·subst E;exact⟨M,L⟩
  ·rw[ls _ (by omega)]at hl
   exact h.ins i hi hl
 ·intro i j hi H h1 A
  rw[ls _ (by omega)]at h1 A;exact h.inj i j hi H h1 A
 ·intro hl
  rw[ls _ (by omega)]at hl;rw[ls _ (by omega)];exact h.mv hl
 ·intro hl
  rw[ls _ (by omega)]at hl;rw[ls _ (by omega)];exact h.RV hl
theorem wQ (h:BI w0 listed a w B r) {d:Nat} {s:Nat} {o:Oper} (hr:k∈Region.ready .any bu listed) (ho:bu[k]? =some o) (bM:o.op=.move (.tmp s)∨o.op=.assign (.tmp s)) (hd:o.dst=some d) (hg:o.guard=none)
 (hc:(k=34∧d=24∧s=1∧listed.getD 0 false=true)∨(k=35∧d=0∧s=24∧listed.getD 34 false=true)):wpOp Tryz.prog bu Q k (BX w0 (listed.setIfInBounds k true)) a w:=by
 obtain⟨I,_⟩:=mem_ready.1 hr;have J:=bA I;have hf:=fq I
 have hs:a.eval (.tmp s)=.map (some B):=by
  rcases hc with⟨_,_,rfl,h0⟩|⟨_,_,rfl,h0⟩
  ·exact(h.m0 h0).1
  ·exact(h.mv h0).2
 refine wpOp_step ho fun K M=>?_
 rw[if_pos (by simp[Region.wanted,hg])];unfold Oper.wp;rcases bM with bM|bM
 all_goals
  simp[execOp,bM,hs];rw[Oper.upon_value,hd];refine M _ _ ⟨B,r,?_⟩;have G:=h.ts;have A:∀t:Nat,t≠d→(a.put (some d) (.map (some B))).eval (.tmp t)=a.eval (.tmp t):=fun t N=>by rw[dL _ (by omega),if_neg N]
  have H:(a.put (some d) (.map (some B))).eval (.tmp d)=.map (some B):=by rw[dL _ (by omega),if_pos rfl]
  have ls:∀j,j≠k→(listed.setIfInBounds k true).getD j false=listed.getD j false:=fun j E=>by rw[ai J,if_neg E]
  refine⟨by simpa using h.ls,by rw[jo];exact G,by rw[put_defers];exact h.df,h.kept,?_,?_,?_,?_,?_,?_,?_⟩
  ·intro hl
   rw[ls 0 (by omega)]at hl;obtain⟨h1,D,L⟩:=h.m0 hl;refine⟨by rw[A _ (by omega)];exact h1,D,?_⟩
   have e:(fun i=>if i<11∧(listed.setIfInBounds k true).getD (3+3*i) false=true then some (cL r i)else none)=fun i=>if i<11∧listed.getD (3+3*i) false=true then some (cL r i)else none:=by
    funext i
    by_cases hi:i<11
    ·rw[ls _ (by omega)]
    ·simp[hi]
   rw[e];exact L
  ·intro i hi hl
   rw[ls _ (by omega)]at hl;rw[A _ (by omega)];exact h.MC i hi hl
  ·intro i hi hl
   rw[ls _ (by omega)]at hl;rw[A _ (by omega),ls _ (by omega)];exact h.bd i hi hl
  ·intro i hi hl
   rw[ls _ (by omega)]at hl;rw[ls _ (by omega),ls _ (by omega)];exact h.ins i hi hl
  ·intro i j hi E h1 D
   rw[ls _ (by omega)]at h1 D;exact h.inj i j hi E h1 D
  ·intro hl
   rcases hc with⟨rfl,rfl,rfl,h0⟩|⟨rfl,rfl,rfl,h0⟩
   ·exact⟨by rw[ls _ (by omega)];exact h0,H⟩
   ·rw[ls _ (by omega)]at hl
    rw[ls _ (by omega),A _ (by omega)];exact h.mv hl
  ·intro hl
   rcases hc with⟨rfl,rfl,rfl,h0⟩|⟨rfl,rfl,rfl,h0⟩
   ·rw[ls _ (by omega)]at hl
    have:=(h.RV hl).1;rw[hf]at this
    cases this
   ·exact⟨by rw[ls _ (by omega)];exact h0,H⟩
theorem LS (i:Nat) (h:BX w0 listed a w) (hr:i∈Region.ready .any bu listed):wpOp Tryz.prog bu Q i (BX w0 (listed.setIfInBounds i true)) a w:=by
 obtain⟨B,r,h⟩:=h
 have hi:i<36:=by
  obtain⟨_,o,A,_⟩:=mem_ready.1 hr;have:=(Array.getElem?_eq_some_iff.1 A).1
  rwa [rO]at this
 have J:i=0∨(∃k,k<11∧i=1+3*k)∨(∃k,k<11∧i=2+3*k)∨(∃k,k<11∧i=3+3*k)∨i=34∨i=35:=by
  by_cases L:i=0
  ·exact Or.inl L
  ·by_cases M:i<34
   ·have:i=1+3*((i - 1) / 3)∨i=2+3*((i - 1) / 3)∨i=3+3*((i - 1) / 3):=by omega
    rcases this with h|h|h
    ·exact Or.inr (Or.inl ⟨_,by omega,h⟩)
    ·exact Or.inr (Or.inr (Or.inl ⟨_,by omega,h⟩))
    ·exact Or.inr (Or.inr (Or.inr (Or.inl ⟨_,by omega,h⟩)))
   ·exact Or.inr (Or.inr (Or.inr (Or.inr (by omega))))
 rcases J with rfl|⟨k,hk,rfl⟩|⟨k,hk,rfl⟩|⟨k,hk,rfl⟩|rfl|rfl
 ·exact step_map h hr
 ·exact IB h hk hr
 ·exact DP h hk hr
 ·exact LU h hk hr
 ·obtain⟨o,A,G,hd,I,D⟩:=N8
  obtain⟨_,o',H,E⟩:=mem_ready.1 hr;obtain rfl:o=o':=Option.some.inj (A.symm.trans H);exact wQ h hr A (Or.inl G) hd I (Or.inl ⟨rfl,rfl,rfl,E ⟨0,.data⟩ (Array.mem_of_getElem? D) rfl⟩)
 ·obtain⟨o,A,G,hd,I,D⟩:=Hw
  obtain⟨_,o',H,E⟩:=mem_ready.1 hr;obtain rfl:o=o':=Option.some.inj (A.symm.trans H);exact wQ h hr A (Or.inr G) hd I (Or.inr ⟨rfl,rfl,rfl,E ⟨34,.data⟩ (Array.mem_of_getElem? D) rfl⟩)
theorem xn (ha:a.tmps.size=25) (hd:a.defers=[]) (hQ:∀a' w' B r,a'.defers=[]→a'.eval (.tmp 0)=.map (some B)→aZ w' w.heap.size B r fy→Kept ag w w'→Q .normal a' w'):
 wpAny Tryz.prog .any bu Q bu.size (Array.replicate bu.size false) a {w with drawn:=w.drawn+1}:=by
 have no:∀j,(Array.replicate bu.size false).getD j false=false:=fun j=>by
  rw[Array.getD_eq_getD_getElem?,Array.getElem?_replicate];split<;>rfl
 refine qa (BX w) (fun listed a w' i h D=>LS i h D) (fun listed a' w' h D=>?_) _ _ _ _ ?_ ?_
 ·obtain⟨B,r,h⟩:=h
  have A:=ny (by rw[h.ls,rO]) N6 D 36;have all:∀i,i<36→listed.getD i false=true:=fun i hi=>A i hi (by rw[rO];exact hi)
  obtain⟨h1,G,H⟩:=h.m0 (all 0 (by omega));refine hQ a' w' B r h.df (h.RV (all 35 (by omega))).2 ⟨?_,?_,kX,fun i j hi E=>h.inj i j hi E (all _ (by omega)) (all _ (by omega)),G,fun i hi=>(h.MC i hi (all _ (by omega))).2.1⟩ h.kept
  ·have e:ix r=fun i=>if i<11∧listed.getD (3+3*i) false=true then some (cL r i)else none:=by
    funext i
    unfold ix
    by_cases hi:i<11
    ·rw[if_pos hi,if_pos ⟨hi,all _ (by omega)⟩]
    ·rw[if_neg hi,if_neg (fun e=>hi e.1)]
   rw[e];exact H
  ·intro i hi
   exact(h.MC i hi (all _ (by omega))).2.2
 ·unfold mu
  exact Nat.le_trans (List.length_filter_le _ _) (by rw[List.length_range];exact Qk _)
 ·refine⟨0,fun _=>0,by rw[Array.size_replicate];exact rO,ha,hd,(Kept.refl ag w).drew,?_,?_,?_,?_,?_,?_,?_⟩
  all_goals first
   |(intro hl;rw[no]at hl;cases hl)
   |(intro i hi hl;rw[no]at hl;cases hl)
   |(intro i j hi E hl;rw[no]at hl;cases hl)
end
theorem gn (w:World) (x:Int) (p:Option Addr) (l c:Nat):(Instr.field 169 (.agg #[.int .i64 x,.slice p l c]) 1).run Tryz.prog w=.ok (.slice p l c) w:=by kernel_rfl
theorem vr (w:World):Calls Tryz.prog 135 #[] w fun e w'=>∃B r,e=.returned (.map (some B))∧aZ w' w.heap.size B r fy∧Kept ag w w':=by
 go_enter Tryz.func135,Tryz.ntmps135
 go_wp2;refine wp_region_any (by kernel_rfl) (xn (by rfl) (by rfl) fun a' w' B r hd A D hk=>?_);simp only[Exit.then]
 apply_assumption
 go_wp2;refine bodyPost_ret (results_tmp rfl _ _ _) hd ?_;exact⟨B,r,congrArg Ending.returned A,D,hk⟩
end Head
namespace Head
open cn Hp Go.Proofs.YtdhibldkldlfpaaGreatDoor.Mp Go.Lib
theorem uc (a b:List UInt8):str a++str b=str (a++b):=by
 apply ByteArray.ext;simp[str,ByteArray.data_append]
theorem DW (l:List UInt8):(0≤Lib.indexByte l 0→l.take (Lib.indexByte l 0).toNat=aF l∧(Lib.indexByte l 0).toNat≤l.length)∧(¬0≤Lib.indexByte l 0→aF l=l):=by
 induction l with
 |nil=>exact⟨fun h=>by simp[Lib.indexByte]at h,fun _=>rfl⟩
 |cons b l ih=>
  have E:=Lib.indexByte_ge l 0
  by_cases A:b=0
  ·subst A
   have e:Lib.indexByte ((0:UInt8)::l) 0=0:=by simp[Lib.indexByte]
   rw[e];exact⟨fun _=>⟨by simp[aF],by simp⟩,fun h=>absurd (by omega) h⟩
  ·have B:(b==0)=false:=by simpa using A
   have hu:aF (b::l)=b::aF l:=by
    unfold aF;rw[List.takeWhile_cons,if_pos (by simpa using A)]
   by_cases hi:Lib.indexByte l 0=-1
   ·have e:Lib.indexByte (b::l) 0=-1:=by simp[Lib.indexByte,B,hi]
    rw[e,hu];refine⟨fun h=>absurd h (by omega),fun _=>?_⟩;rw[ih.2 (by omega)]
   ·have D:(Lib.indexByte l 0==-1)=false:=by simpa using hi
    have e:Lib.indexByte (b::l) 0=Lib.indexByte l 0+1:=by simp[Lib.indexByte,B,D]
    obtain⟨h1,G⟩:=ih.1 (by omega);rw[e,hu,show(Lib.indexByte l 0+1).toNat=(Lib.indexByte l 0).toNat+1 by omega];exact⟨fun _=>⟨by rw[List.take_succ_cons,h1],by rw[List.length_cons];omega⟩,fun h=>absurd (by omega) h⟩
theorem El (b o n c b2:Nat) (bs:List UInt8) (w:World) (hn:bs.length=n) (hc:n≤c) (hm:n≤140737488351232) (h:cB w (some ⟨b,o,none⟩) n bs) (h2:w.cell? ⟨b2,0,none⟩=some (.int .u8 0)):
 Calls Tryz.prog 109 #[.slice (some ⟨b,o,none⟩) n c,.slice (some ⟨b2,0,none⟩) 1 1] w fun e w'=>∃v2 v3,e=.returned (.tuple #[.slice (some ⟨b,o,none⟩) (aF bs).length c,v2,v3])∧Kept ag w w':=by
 have hu:=DW bs;have D:bytesOf (nums bs)=bs:=iA bs
 have B:=Any.bytes_Index_one Tryz.jz.index b o n c b2 0 1 (nums bs) 0 w (by rw[fw,hn]) (fun i hi=>by
  obtain⟨I,L,he,hcell⟩:=h (by omega)
  cases he
  rw[hcell i hi]
  simp[nums,List.getD,Qd (show i<bs.length by omega)]) h2
 rw[D,show(0:Int).toNat.toUInt8=0 from rfl]at B
 have G:0≤Lib.indexByte bs 0→Lib.indexByte bs 0+(1:Nat)≤n:=fun A=>by
  obtain⟨k,hk⟩:∃k:Nat,Lib.indexByte bs 0=k:=⟨(Lib.indexByte bs 0).toNat,by omega⟩
  have:=(Lib.indexByte_some hk).1;have H:=(List.getElem?_eq_some_iff.1 this).1;omega
 refine(Any.bytes_Cut_of Tryz.jz (some ⟨b,o,none⟩) (some ⟨b2,0,none⟩) n c 1 1 (Lib.indexByte bs 0) w hc (Lib.indexByte_ge _ _) G (by omega) (B.mono fun e w' he=>⟨he.1,0,he.2⟩)).mono ?_;rintro e w' ⟨rfl,q,rfl⟩;unfold Lib.cutV
 by_cases A:0≤Lib.indexByte bs 0
 ·rw[if_pos A]
  obtain⟨E,J⟩:=hu.1 A;refine⟨_,_,congrArg (fun k=>Ending.returned (.tuple #[.slice (some ⟨b,o,none⟩) k c,_,_])) ?_,(Kept.refl _ _).drewN _⟩;rw[←E,Qg];omega
 ·rw[if_neg A]
  refine⟨_,_,congrArg (fun k=>Ending.returned (.tuple #[.slice (some ⟨b,o,none⟩) k c,_,_])) ?_,(Kept.refl _ _).drewN _⟩;rw[hu.2 A,hn]
theorem fP (bs:List UInt8):(aF bs).length≤bs.length∧bs.take (aF bs).length=aF bs:=by
 have h:aF bs<+:bs:=List.takeWhile_prefix _;exact⟨h.length_le,(List.prefix_iff_eq_take.1 h).symm⟩
theorem fO (lo B:Nat) (r:Nat→Nat) (own:Nat→List UInt8) (i:Nat) (w:World) (hi:i<11) (hP:aZ w lo B r own):
 Calls Tryz.prog 106 #[.map (some B),.int .i64 (i:Int)] w fun e w'=>e=.returned (.string (str (aF (own i))))∧Kept ag w w':=by
 have J:=gn;have A:=Qh hP
 have L:(Instr.lookup 166 (.map (some B)) (.int .i64 (i:Int)) false).run Tryz.prog w=.ok (.agg #[.int .i64 (fC i),.slice (some ⟨r i,0,none⟩) (aj i) (aj i)]) w:=
  hP.map.look (P:=Tryz.prog) Tryz.underlying166 Tryz.underlying170 (x:=i) (v:=cL r i) (by unfold ix;rw[if_pos hi])
 have hw:=kq hi;have D:=Qh ((Kept.refl ag w).alloc (.cells #[.int .u8 0] 5));have H:=Qh hw;clear hP hw
 go_enter Tryz.func106,Tryz.ntmps106
 go_wp2_with fail
 refine(El (r i) 0 (aj i) (aj i) w.heap.size (own i) _ (A.out.fit i) (Qk _) (by have:=H.out;omega) ((A.out.cJ D.out).gZ hi) (by
  rw[World.cell?_alloc_at _ _ _ _ rfl];rfl)).mono ?_
 rintro e w1 ⟨v2,v3,rfl,hk⟩;have E:=fP (own i)
 have cs:(convert 26 9 (.slice (some ⟨r i,0,none⟩) (aF (own i)).length (aj i))).run Tryz.prog w1=.ok (.string (str (aF (own i)))) w1:=by
  refine cD ?_ rfl _ _ _ Tryz.underlying26 Tryz.underlying5 Tryz.underlying9 _;have I:=((A.out.cJ D.out).cJ hk).gZ hi;have:=I.take (k:=(aF (own i)).length) (by rw[←A.out.fit i];exact E.1)
  rwa [E.2]at this
 have G:=Qh (D.out.trans hk);clear hk E;go_wp2;go_ret;exact⟨rfl,G.out⟩
def vN (l:List UInt8):UInt8:=if l.getD 0 0=0 then 48 else l.getD 0 0
theorem KR (lo B:Nat) (r:Nat→Nat) (own:Nat→List UInt8) (w:World) (hP:aZ w lo B r own):
 Calls Tryz.prog 107 #[.map (some B)] w fun e w'=>e=.returned (.int .u8 ((vN (own 7)).toNat:Int))∧w=w':=by
 unfold vN;have J:=gn
 have L:(Instr.lookup 166 (.map (some B)) (.int .i64 7) false).run Tryz.prog w=.ok (.agg #[.int .i64 156,.slice (some ⟨r 7,0,none⟩) 1 1]) w:=
  hP.map.look (P:=Tryz.prog) Tryz.underlying166 Tryz.underlying170 (x:=7) (v:=cL r 7) rfl
 have hc:=(hP.row 7 (by omega)).cell 0 (by rw[hP.fit 7];decide);generalize H:(own 7).getD 0 0=X at*;obtain⟨x,G⟩:∃x:Int,x=(X.toNat:Int):=⟨_,rfl⟩
 rw[←G]at hc;have A:=Qh G;clear hP H G
 by_cases D:x=0
 ·have E:Hid (X=0):=Qh (UInt8.toNat_inj.1 (by have:=A.out;simp;omega))
  have I:(x==0)=true:=by simpa using D
  go_enter Tryz.func107,Tryz.ntmps107
  go_wp2;go_ret
  first|exact⟨rfl,rfl⟩|(rw[E.out];exact⟨rfl,rfl⟩)
 ·have E:Hid (X≠0):=Qh (fun e=>D (by rw[A.out,e];rfl))
  have I:(x==0)=false:=by simpa using D
  go_enter Tryz.func107,Tryz.ntmps107
  go_wp2;go_ret
  first|(rw[←A.out];exact⟨rfl,rfl⟩)|(rw[if_neg E.out,←A.out];exact⟨rfl,rfl⟩)
theorem K9 (lo B:Nat) (r:Nat→Nat) (own:Nat→List UInt8) (fh:Bool) (w:World) (hP:aZ w lo B r own):
 Calls Tryz.prog 105 #[.map (some B),.bool fh] w fun e w'=>e=.returned (.string (str (kh (aF (own 10)) (aF (own 0)) fh)))∧Kept ag w w':=by
 have H:=Qh hP;have hu:=fP (own 10);have R:=fP (own 0);have W:=H.out.fit 10;have V:=H.out.fit 0;obtain⟨p,T⟩:∃p,p=aF (own 10):=⟨_,rfl⟩
 obtain⟨s,hs⟩:∃s,s=aF (own 0):=⟨_,rfl⟩
 have Y:(str p).size≤155:=by rw[aq,T];have:=hu.1;simp only[aj]at W;omega
 have Z:(str s).size≤100:=by rw[aq,hs];have:=R.1;simp only[aj]at V;omega
 have N:=Qh T;have L:=Qh hs;clear hP hu R W V T hs;rw[←N.out,←L.out]
 by_cases h0:p=[]∨fh=true
 ·have E:Hid (kh p s fh=s):=Qh (if_pos (by rcases h0 with h|h;exact Or.inr h;exact Or.inl h))
  rcases h0 with h0|h0
  ·have O:str p=⟨#[]⟩:=congrArg str h0
   go_enter Tryz.func105,Tryz.ntmps105
   go_wp2_with fail
   refine(fO lo B r own 10 w (by omega) H.out).mono ?_;rintro e J ⟨rfl,A⟩;rw[←N.out,O];have G:=Qh A;clear A;go_wp2_with fail;refine(fO lo B r own 0 J (by omega) (H.out.cJ G.out)).mono ?_;rintro e U ⟨rfl,D⟩;rw[←L.out];have I:=Qh (G.out.trans D);clear D;go_wp2;go_ret;rw[E.out];exact⟨rfl,I.out⟩
  ·subst h0
   by_cases M:p=[]
   ·have O:str p=⟨#[]⟩:=congrArg str M
    go_enter Tryz.func105,Tryz.ntmps105
    go_wp2_with fail
    refine(fO lo B r own 10 w (by omega) H.out).mono ?_;rintro e J ⟨rfl,A⟩;rw[←N.out,O];have G:=Qh A;clear A;go_wp2_with fail;refine(fO lo B r own 0 J (by omega) (H.out.cJ G.out)).mono ?_;rintro e U ⟨rfl,D⟩;rw[←L.out];have I:=Qh (G.out.trans D);clear D;go_wp2;go_ret;rw[E.out];exact⟨rfl,I.out⟩
   ·have O:(str p).toList.isEmpty=false:=by rw[ay];simpa using M
    go_enter Tryz.func105,Tryz.ntmps105
    go_wp2_with fail
    refine(fO lo B r own 10 w (by omega) H.out).mono ?_;rintro e J ⟨rfl,A⟩;rw[←N.out];have G:=Qh A;clear A;go_wp2_with fail;refine(fO lo B r own 0 J (by omega) (H.out.cJ G.out)).mono ?_;rintro e U ⟨rfl,D⟩;rw[←L.out];have I:=Qh (G.out.trans D);clear D;go_wp2;go_ret;rw[E.out];exact⟨rfl,I.out⟩
 ·have M:p≠[]:=fun e=>h0 (Or.inl e)
  have X:fh=false:=by cases fh with
   |false=>rfl
   |true=>exact absurd (Or.inr rfl) h0
  subst X
  have E:Hid (str (kh p s false)=str p++⟨#[47]⟩++str s):=Qh (by
   rw[kh,if_neg (by simp[M]),show(⟨#[47]⟩:ByteArray)=str [47]from rfl,uc,uc]
   simp)
  have O:(str p).toList.isEmpty=false:=by rw[ay];simpa using M
  go_enter Tryz.func105,Tryz.ntmps105
  go_wp2_with fail
  refine(fO lo B r own 10 w (by omega) H.out).mono ?_;rintro e J ⟨rfl,A⟩;rw[←N.out];have G:=Qh A;clear A;go_wp2_with fail;refine(fO lo B r own 0 J (by omega) (H.out.cJ G.out)).mono ?_;rintro e U ⟨rfl,D⟩;rw[←L.out];have I:=Qh (G.out.trans D);clear D;go_wp2;go_ret;rw[E.out];exact⟨rfl,I.out⟩
theorem Rq (bs:List UInt8):(0:Int)=(br bs 0:Nat):=by rw[br];rfl
theorem p6 (p:Option Addr) (n c:Nat) (bs:List UInt8) (w:World) (hm:n≤140737488351232) (h:cB w p n bs):
 Calls Tryz.prog 99 #[.slice p n c] w fun e w'=>e=.returned (.int .i64 (br bs n:Nat))∧w=w':=by
 have H:=Qh h;clear h
 go_enter Tryz.func99,Tryz.ntmps99
 go_wp2
 go_loop [3,8] (fun s i=>∃(k:Nat) (m:Int),k≤n∧0≤m∧m≤255*k∧i=.int .i64 k∧s=.int .i64 m∧Hid (m=(br bs k:Nat))) (fun _ i=>n - (RowKit.intOf i).toNat)
 case atStart=>exact⟨0,0,Nat.zero_le _,by omega,by omega,rfl,rfl,Qh (Rq bs)⟩
 case round=>
  obtain⟨k,m,hk,M,h1,rfl,rfl,E⟩:=hrel
  by_cases D:k<n
  ·obtain⟨b,o,rfl,N,hcell⟩:=H.out.cell D
   have hc:=hcell k D;clear hcell;obtain⟨x,A⟩:∃x:Int,x=((bs.getD k 0).toNat:Int):=⟨_,rfl⟩
   rw[←A]at hc;have B:=L5 (bs.getD k 0);rw[←A]at B;have G:=Qh A;clear A;obtain⟨L,J⟩:=B;go_wp2
   go_round
   case rel=>exact⟨k+1,m+x,by omega,by omega,by omega,by go_num,rfl,Qh (by rw[E.out,G.out,br];omega)⟩
   case measure=>simp[RowKit.intOf];omega
  ·have I:Hid (k=n):=Qh (by omega)
   go_wp2;go_ret;rw[E.out,I.out];exact⟨rfl,rfl⟩
theorem yq (lo B:Nat) (r:Nat→Nat) (own:Nat→List UInt8) (p:Option Addr) (n c:Nat) (bs:List UInt8) (w:World) (hm:n≤140737488351232) (h:cB w p n bs) (hP:aZ w lo B r own):
 Calls Tryz.prog 103 #[.map (some B),.slice p n c] w fun e w'=>e=.returned (.int .i64 ((br bs n:Nat) - (br (own 6) 8:Nat)+256))∧w=w':=by
 have H:=Qh h;have I:=gn;have A:=Qh hP
 have L:(Instr.lookup 166 (.map (some B)) (.int .i64 6) false).run Tryz.prog w=.ok (.agg #[.int .i64 148,.slice (some ⟨r 6,0,none⟩) 8 8]) w:=
  hP.map.look (P:=Tryz.prog) Tryz.underlying166 Tryz.underlying170 (x:=6) (v:=cL r 6) rfl
 have h1:=jk bs n;have J:=jk (own 6) 8;generalize D:br bs n=X at*;generalize E:br (own 6) 8=Y at*;clear h hP
 go_enter Tryz.func103,Tryz.ntmps103
 go_wp2_with fail
 refine(p6 p n c bs w hm H.out).mono ?_;rintro e G ⟨rfl,rfl⟩;rw[D];go_wp2_with fail;refine(p6 _ 8 8 (own 6) w (by decide) (A.out.gZ (i:=6) (by omega))).mono ?_;rintro e G ⟨rfl,rfl⟩;rw[E];go_wp2;go_ret;exact⟨rfl,rfl⟩
end Head
end Go.Proofs.YtdhibldkldlfpaaGreatDoor
