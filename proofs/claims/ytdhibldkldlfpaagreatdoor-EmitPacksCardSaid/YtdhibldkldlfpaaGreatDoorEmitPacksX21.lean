/- Merged. -/
import Derived.Test.YtdhibldkldlfpaaGreatDoorEmitPacksX12
import Derived.Maps.RangeRun
import Derived.Maps.RangeWalk
import Derived.Test.YtdhibldkldlfpaaGreatDoorEmitPacksX13
import Derived.Test.YtdhibldkldlfpaaGreatDoorEmitPacksX7
namespace Go.Proofs.YtdhibldkldlfpaaGreatDoor
set_option linter.unusedVariables false
set_option maxRecDepth 100000
open Go.ChangeShapes Go.WideShapes Go.ChangeAt Go.RowKit Base cf
variable {S:Nat→Prop}
namespace Mp
open Go.MapKept
def lD (k:Nat):Value:=.int .i64 k
theorem qy {a b:Nat} (h:lD a=lD b):a=b:=by unfold lD at h;injection h with _ h;omega
def kr (w:World) (B:Nat) (f:Nat→Option Value):Prop:=
 ∃es clock,w.heap[B]? =some (.map es clock)∧Stamped es clock∧(∀e∈es.toList,∃k,e.key=lD k∧f k=some e.val)∧(∀k v,f k=some v→∃e∈es.toList,e.key=lD k)
def ic (w:World) (B R:Nat) (f:Nat→Option Value) (todo:Nat→Bool):Prop:=
 ∃es clock since seen c0,w.heap[B]? =some (.map es clock)∧Stamped es clock∧(∀e∈es.toList,∃k,e.key=lD k∧f k=some e.val)∧(∀k v,f k=some v→∃e∈es.toList,e.key=lD k)∧
  w.heap[R]? =some (.mapIter (some B) since seen c0)∧(∀x∈es.toList,x.born<since)∧since≤c0∧since≤clock∧(∀x∈es.toList,∀k,x.key=lD k→todo k=!seen.contains x.born)
section
variable {w w':World} {B R:Nat} {f:Nat→Option Value} {todo:Nat→Bool}
theorem kr.lt (h:kr w B f):B<w.heap.size:=by
 obtain⟨es,clock,A,_⟩:=h;exact(Array.getElem?_eq_some_iff.1 A).1
theorem kr.kept (h:kr w B f) (hk:Kept S w w') (hB:¬S B):kr w' B f:=by
 obtain⟨es,clock,A,h⟩:=h;exact⟨es,clock,hk.some_ A hB,h⟩
theorem ic.map (h:ic w B R f todo):kr w B f:=by
 obtain⟨es,clock,since,seen,c0,D,hs,h1,A,_⟩:=h;exact⟨es,clock,D,hs,h1,A⟩
theorem ic.kept (h:ic w B R f todo) (hk:Kept S w w') (hB:¬S B) (hR:¬S R):ic w' B R f todo∧w'.rangeLeft B R=w.rangeLeft B R:=by
 obtain⟨es,clock,since,seen,c0,E,hs,h1,H,G,I⟩:=h;have A:=hk.some_ E hB;have D:=hk.some_ G hR;exact⟨⟨es,clock,since,seen,c0,A,hs,h1,H,D,I⟩,by simp only[World.rangeLeft,E,G,A,D]⟩
theorem rQ (w:World):kr (w.alloc (.map #[] 0)) w.heap.size (fun _=>none):=
 ⟨#[],0,(MapKept.heap_alloc w _).1,stamped_empty 0,by simp,by simp⟩
theorem pf {o o':Obj} (hb:w.heap[B]? =some o):Kept (ay B) w (Go.ChangeMaps.setBlock w B o'):=
 ⟨rfl,rfl,rfl,by simp[Go.ChangeMaps.setBlock],fun k hk A=>(MapKept.heap_set hb).2 k A⟩
variable {P:Program} {t k e:TypeId}
theorem iz (x:Nat):IsKey (.int .i64) (lD x):=rfl
theorem kr.put (h:kr w B f) (ht:P.underlying t=some (.map k e)) (hk:P.underlying k=some (.int .i64)) (x:Nat) (v:Value) (hx:f x=none):
 ∃w',(Instr.mapUpdate t (.map (some B)) (lD x) v).run P w=.ok () w'∧kr w' B (fun y=>if y=x then some v else f y)∧Kept (ay B) w w'∧w'.heap.size=w.heap.size:=by
 obtain⟨es,clock,D,hs,h1,J⟩:=h
 have E:∀y∈es.toList,y.key≠lD x:=fun y hy G=>by
  obtain⟨j,A,hf⟩:=h1 y hy;have:=qy (A.symm.trans G);subst this;rw[hx]at hf
  cases hf
 have I:Instr.findNow (.int .i64) (lD x) es.toList 0=some none:=by
  rcases findNow_spec (iz x) es.toList 0 (fun y hy=>by obtain⟨j,A,_⟩:=h1 y hy;rw[A];exact iz j)with⟨h,_⟩|⟨j,e0,_,h3,h4⟩
  ·exact h
  ·exact absurd h4 (E e0 (List.mem_of_getElem? h3))
 refine⟨Go.ChangeMaps.setBlock w B (.map (es.push {key:=lD x,val:=v,born:=clock}) (clock+1)),?_,⟨_,_,(MapKept.heap_set D).1,stamped_push hs E,?_,?_⟩,pf D,by simp[Go.ChangeMaps.setBlock]⟩
 ·simp[Instr.mapUpdate,run_underlying ht,MapKept.run_getObj_map D,run_checkKey hk (iz x),run_findKey hk I,MapKept.run_setObj_map _ D,Result.andThen,Go.ChangeMaps.setBlock]
 ·intro y hy
  simp only[Array.toList_push,List.mem_append,List.mem_singleton]at hy;rcases hy with hy|rfl
  ·obtain⟨j,A,hf⟩:=h1 y hy
   refine⟨j,A,?_⟩;show(if j=x then some v else f j)=_;rw[if_neg (fun e=>E y hy (by rw[A,e]))];exact hf
  ·exact⟨x,rfl,by show(if x=x then some v else f x)=_;rw[if_pos rfl]⟩
 ·intro j u A
  simp only[Array.toList_push,List.mem_append,List.mem_singleton];have A:(if j=x then some v else f j)=some u:=A
  by_cases H:j=x
  ·exact⟨_,Or.inr rfl,by rw[H]⟩
  ·rw[if_neg H]at A
   obtain⟨y,hy,hk⟩:=J j u A;exact⟨y,Or.inl hy,hk⟩
theorem kr.look (h:kr w B f) (ht:P.underlying t=some (.map k e)) (hk:P.underlying k=some (.int .i64)) {x:Nat} {v:Value} (hx:f x=some v):
 (Instr.lookup t (.map (some B)) (lD x) false).run P w=.ok v w:=by
 obtain⟨es,clock,I,hs,h1,H⟩:=h;obtain⟨E,A,G⟩:=H x v hx;rcases findNow_spec (iz x) es.toList 0 (fun y hy=>by obtain⟨j,J,_⟩:=h1 y hy;rw[J];exact iz j)with⟨_,vH⟩|⟨j,e0,eO,h3,h4⟩
 ·exact absurd G (vH E A)
 ·have L:e0.val=v:=by
   obtain⟨j',D,hf⟩:=h1 e0 (List.mem_of_getElem? h3);have:=qy (D.symm.trans h4);subst this;rw[hx]at hf;exact(Option.some.inj hf).symm
  have M:Instr.findNow (.int .i64) (lD x) es.toList 0=some (some (0+j,e0.val)):=by simpa using eO
  simp[Instr.lookup,run_underlying ht,MapKept.run_getObj_map I,run_checkKey hk (iz x),run_findKey hk M,Result.andThen,L]
theorem kr.range (h:kr w B f) (ht:P.underlying t=some (.map k e)) (OH:∀j v,f j=some v→todo j=true):
 ∃w',(Instr.range t (.map (some B))).run P w=.ok (.pointer (some ⟨w.heap.size,0,none⟩)) w'∧ic w' B w.heap.size f todo∧Kept ai w w'∧w'.heap.size=w.heap.size+1:=by
 have E:=h.lt;obtain⟨es,clock,A,hs,h1,G⟩:=h;refine⟨_,run_range_map w t k e B es clock ht A,⟨es,clock,clock,#[],clock,((MapKept.heap_alloc w _).2 B E).trans A,hs,h1,G,(MapKept.heap_alloc w _).1,hs.1,Qk _,Qk _,?_⟩,(Kept.refl _ _).alloc _,by simp⟩;intro x I j H;obtain⟨j',D,hf⟩:=h1 x I;have:=qy (D.symm.trans H);subst this;simp[OH _ _ hf]
theorem ic.next (h:ic w B R f todo) (ty:TypeId):
 ((∀j v,f j=some v→todo j=false)∧(Instr.next (.pointer (some ⟨R,0,none⟩)) false ty).run P w=.ok (.tuple #[.bool false]) w)∨
 ∃j v w',f j=some v∧todo j=true∧(Instr.next (.pointer (some ⟨R,0,none⟩)) false ty).run P w=.ok (.tuple #[.bool true,lD j,v]) w'∧ic w' B R f (fun z=>todo z&&z != j)∧w'.rangeLeft B R<w.rangeLeft B R∧
  Kept (ay R) w w'∧w'.heap.size=w.heap.size∧(Instr.entry (.pointer (some ⟨R,0,none⟩))).run P w'=.ok (.tuple #[lD j,v]) w':=by
 obtain⟨es,clock,since,seen,c0,J,hs,h1,Y,H,hold,V,I,D⟩:=h;have T:B≠R:=fun e=>by subst e;rw[J]at H;cases H
 rcases run_next_at (P:=P) w ty R B since c0 seen es clock H J hold V with⟨h0,dX⟩|⟨e,he,w1,Io,dX⟩
 ·refine Or.inl ⟨fun j v A=>?_,dX⟩
  obtain⟨x,E,hk⟩:=Y j v A;rw[D x E j hk,all_seen es seen h0 x E];rfl
 ·obtain⟨G,U⟩:=mem_left he
  obtain⟨j,A,hf⟩:=h1 e G;have N:w1.heap[R]? =some (.mapIter (some B) since seen c0):=by rcases Io with rfl|rfl<;>exact H
  have Z:w1.heap[B]? =some (.map es clock):=by rcases Io with rfl|rfl<;>exact J
  have b:Kept (ay R) w w1:=by
   rcases Io with rfl|rfl
   ·exact Kept.refl _ _
   ·exact(Kept.refl _ _).drew
  have X:(Go.ChangeMaps.setBlock w1 R (.mapIter (some B) since (seen.push e.born) clock)).heap[R]? =some (.mapIter (some B) since (seen.push e.born) clock):=(MapKept.heap_set N).1;have M:(Go.ChangeMaps.setBlock w1 R (.mapIter (some B) since (seen.push e.born) clock)).heap[B]? =some (.map es clock):=((MapKept.heap_set N).2 B T).trans Z
  have W:(Go.ChangeMaps.setBlock w1 R (.mapIter (some B) since (seen.push e.born) clock)).heap.size=w.heap.size:=by
   have:w1.heap.size=w.heap.size:=by rcases Io with rfl|rfl<;>rfl
   simp[Go.ChangeMaps.setBlock,this]
  rw[A]at dX;refine Or.inr ⟨j,e.val,_,hf,?_,dX,⟨es,clock,since,seen.push e.born,clock,M,hs,h1,Y,X,hold,I,I,?_⟩,?_,b.trans (pf N),W,?_⟩
  ·rw[D e G j A,U];rfl
  ·intro x E i hi
   show(todo i&&i != j)=!(seen.push e.born).contains x.born;rw[D x E i hi,contains_push,Bool.not_or]
   congr 1
   by_cases L:i=j
   ·have O:x=e:=entry_eq_of_key ((stamped_iff es clock).1 hs).2.2 E G (by rw[hi,A,L])
    subst O;simp[L]
   ·have O:x.born≠e.born:=fun g=>L (by
     obtain rfl:=born_inj hs.2.1 E G g
     exact qy (hi.symm.trans A))
    have c:(x.born==e.born)=false:=by simpa using O
    have d:(i != j)=true:=by simpa using L
    rw[c,d];rfl
  ·simp only[World.rangeLeft,J,H,M,X]
   exact left_shrinks es seen e he
  ·rw[←A]
   exact run_entry_at _ R B since seen es clock e X M G hs.2.1
end
section
variable {P:Program} {w:World} {ops:Array Oper} {rest:List Oper} {o:Oper} {a:Act} {Q:Exit→Act→World→Prop} {f:Nat→Option Value} {t k e:TypeId}
theorem eM (hg:o.guard=none) (m x v:Operand) (aX:o.op=.mapUpdate t m x v∨o.op=.insert t m x v) (ht:P.underlying t=some (.map k e)) (hk:P.underlying k=some (.int .i64))
 (B:Nat) (h:kr w B f) (hm:a.eval m=.map (some B)) (key:Nat) (hx:a.eval x=lD key) (hf:f key=none) (val:Value) (hv:a.eval v=val)
 (hK:∀w',Hid (kr w' B (fun y=>if y=key then some val else f y))→Hid (Kept (ay B) w w')→w'.heap.size=w.heap.size→wpList P ops Q rest (a.put o.dst undef) w'):wpList P ops Q (o::rest) a w:=by
 refine wpList_plain hg fun G hK'=>?_
 subst hv;obtain⟨w',A,h1,D,E⟩:=h.put ht hk key (a.eval v) hf;unfold Oper.wp;rcases aX with aX|aX
 ·simp[execOp,aX,hm,hx,A,Result.andThen]
  exact hK' _ _ (hK w' (Qh h1) (Qh D) E)
 ·simp[execOp,aX,hm,hx,A,Result.andThen]
  exact hK' _ _ (hK w' (Qh h1) (Qh D) E)
theorem iT (hg:o.guard=none) (m:Operand) (aX:o.op=.range t m) (ht:P.underlying t=some (.map k e)) (B:Nat) (h:kr w B f) (todo:Nat→Bool) (OH:∀j v,f j=some v→todo j=true) (hm:a.eval m=.map (some B)) (R:Nat) (hR:R=w.heap.size)
 (hK:∀w',Hid (ic w' B R f todo)→Hid (Kept ai w w')→w'.heap.size=w.heap.size+1→wpList P ops Q rest (a.put o.dst (.pointer (some ⟨R,0,none⟩))) w'):wpList P ops Q (o::rest) a w:=by
 subst hR;refine wpList_plain hg fun G hK'=>?_
 obtain⟨w',A,h1,D,E⟩:=h.range (P:=P) ht OH;unfold Oper.wp;simp[execOp,aX,hm,A,Result.andThen];exact hK' _ _ (hK w' (Qh h1) (Qh D) E)
theorem jL (hg:o.guard=none) (it:Operand) (aX:o.op=.next it false) (B R:Nat) (todo:Nat→Bool) (mkV:Nat→Value) (hf:∀j v,f j=some v→v=mkV j) (hit:a.eval it=.pointer (some ⟨R,0,none⟩)) (h:ic w B R f todo)
 (Yx:(∀j v,f j=some v→todo j=false)→wpList P ops Q rest (a.put o.dst (.tuple #[.bool false])) w)
 (YF:∀(j:Nat) (w':World) (v:Value),f j=some v→todo j=true→Hid (ic w' B R f (fun z=>todo z&&z != j))→Hid (w'.rangeLeft B R<w.rangeLeft B R)→Hid (Kept (ay R) w w')→w'.heap.size=w.heap.size→
  (Instr.entry (.pointer (some ⟨R,0,none⟩))).run P w'=.ok (.tuple #[.int .i64 j,mkV j]) w'→wpList P ops Q rest (a.put o.dst (.tuple #[.bool true,.int .i64 j,mkV j])) w'):wpList P ops Q (o::rest) a w:=by
 refine wpList_plain hg fun A hK'=>?_
 unfold Oper.wp;rcases h.next (P:=P) o.type with⟨h0,dX⟩|⟨j,v,w',hj,Sg,dX,hi,ao,vD,hsz,RY⟩
 ·simp[execOp,aX,hit,dX,Result.andThen]
  exact hK' _ _ (Yx h0)
 ·obtain rfl:=hf j v hj
  simp[execOp,aX,hit,dX,Result.andThen];exact hK' _ _ (YF j w' _ hj Sg (Qh hi) (Qh ao) (Qh vD) hsz RY)
end
end Mp
namespace Mp
open Go.MapKept Hp Go.Lib
variable {cs:Array Value} {i:Nat} {e:TypeId}
theorem bJ {w:World} {g:Nat} (h:w.heap[g]? =some (.cells cs e (0,0))) (i:Nat):w.cell? ⟨g,i,none⟩=cs[i]? :=by
 simp[World.cell?,h]
theorem gj {w:World} {g:Nat} (h:w.heap[g]? =some (.cells cs e (0,0))) (i:Nat):w.frozen? ⟨g,i,none⟩=false:=by
 simp[World.frozen?,h]
def bv (x:UInt8):Value:=.int .u8 (x.toNat:Int)
def dE (w:World) (g:Nat) (bs:List UInt8):Prop:=w.heap[g]? =some (.cells (bs.map bv).toArray 5 (0,0))
section
variable {w w':World} {g:Nat} {bs:List UInt8}
theorem dE.lt (h:dE w g bs):g<w.heap.size:=(Array.getElem?_eq_some_iff.1 h).1
theorem dE.kept (h:dE w g bs) (hk:Kept S w w') (hg:¬S g):dE w' g bs:=hk.some_ h hg
theorem dE.gC (h:dE w g bs):cK w (some ⟨g,0,none⟩) bs.length bs:=fun _=>⟨g,0,rfl,fun i hi=>by
 simp only[World.cell?,dE]at h⊢;rw[h]
 simp[List.getD,hi,bv]⟩
theorem dE.cell (h:dE w g bs) (i:Nat) (hi:i<bs.length):w.cell? ⟨g,i,none⟩=some (.int .u8 ((bs.getD i 0).toNat:Int)):=by
 obtain⟨b,o,he,hc⟩:=h.gC (by omega)
 cases he
 have:=hc i hi
 rwa [Nat.zero_add]at this
theorem dE.frozen (h:dE w g bs) (i:Nat):w.frozen? ⟨g,i,none⟩=false:=by
 simp only[World.frozen?,dE]at h⊢;rw[h];rfl
theorem dE.set (h:dE w g bs) (i:Nat) (x:UInt8):dE (w.setCell ⟨g,i,none⟩ (.int .u8 (x.toNat:Int))) g (bs.set i x):=by
 unfold dE at h⊢;rw[setCell_eq_setRow w g i _ _ _ _ h];rw[setRow_heap w g _ _ _ _ h]
 congr 2
 apply Array.toList_inj.1;simp[List.map_set,bv]
theorem CT (n:Nat):madeCells #[Value.int .u8 0] n=((List.replicate n (0:UInt8)).map bv).toArray:=by
 apply Array.toList_inj.1;rw[toList_madeCells_one,List.map_replicate];rfl
theorem Ma (w:World) (n:Nat):dE (w.alloc (.cells (madeCells #[Value.int .u8 0] n) 5)) w.heap.size (List.replicate n 0):=by
 unfold dE;rw[CT];exact heap_alloc_new w _
theorem DC {B n:Nat} (h:w.ownsRow B 5 1 (.slice (some ⟨g,0,none⟩) n n) n (madeCells (Value.int .u8 0).cells (n*1)).toList):dE w g (List.replicate n 0):=by
 rcases h.2 with⟨h1,_⟩|⟨g',cap,cur,he,_,hb,_,_,hs,ht⟩
 ·cases h1
 ·cases he
  unfold dE;rw[hb]
  congr 2
  rw[←CT];apply Array.toList_inj.1;rw[List.take_of_length_le (by simp[hs])]at ht;rw[ht,Nat.mul_one];rfl
end
theorem zl {P:Program} {w:World} (dT sT ty elem:TypeId) (hu:P.underlying dT=some (.slice elem)) (hsz:(P.info? elem).map (·.size)=some 1) (dp sp:Option Addr) (jj qi tT AX:Nat)
 (g off:Nat) (bs:List UInt8) (hg:dE w g bs) (cs:List UInt8) (hn:cs.length=Nat.min tT jj) (vI:0<cs.length→dp=some ⟨g,off,none⟩) (nt:cK w sp cs.length cs) (iY:off+cs.length≤bs.length):
 ∃w',(Builtin.copy_ #[dT,sT] ty #[.slice dp jj qi,.slice sp tT AX]).run P w=.ok (goInt cs.length) w'∧dE w' g (splice bs off cs)∧Kept (ay g) w w'∧w'.heap.size=w.heap.size:=by
 by_cases E:cs.length=0
 ·obtain rfl:cs=[]:=List.eq_nil_of_length_eq_zero E
  exact⟨w,run_copy_none (P:=P) w dT sT ty elem dp sp jj qi tT AX hu hsz (by simpa using hn.symm),by simpa [splice]using hg,Kept.refl _ _,rfl⟩
 ·obtain rfl:=vI (by omega)
  obtain⟨b,o,rfl,hc⟩:=nt (by omega)
  have D:=run_copy_row (P:=P) w dT sT ty elem g off jj qi ⟨b,o,none⟩ tT AX _ _ (cs.map bv) hu hsz hg (by simpa using hn) (fun j v B=>by
   have A:j<cs.length:=by simpa using (List.getElem?_eq_some_iff.1 B).1
   rw[WideShapes.add_plain,hc j A];rw[List.getElem?_map,Qd A]at B;rw[←B]
   simp[List.getD,A,bv]) (by simpa using iY) (fun v G=>by
   obtain⟨x,_,rfl⟩:=List.mem_map.1 G
   rfl)
  have e:((bs.map bv).toArray.toList.take off++cs.map bv++(bs.map bv).toArray.toList.drop (off+(cs.map bv).length)).toArray=((splice bs off cs).map bv).toArray:=by
   simp[splice,List.map_take,List.map_drop]
  rw[e,Qi]at D;exact⟨w.setRow g ((splice bs off cs).map bv).toArray,D,setRow_heap w g _ _ _ _ hg,⟨rfl,rfl,rfl,by simp[World.setRow],fun k hk hn=>setRow_other w g k _ hn⟩,by simp[World.setRow]⟩
theorem zm {P:Program} {w:World} (dT sT ty elem:TypeId) (hu:P.underlying dT=some (.slice elem)) (hsz:(P.info? elem).map (·.size)=some 1) (dp:Option Addr) (jj qi:Nat) (s:ByteArray)
 (g off:Nat) (bs:List UInt8) (hg:dE w g bs) (cs:List UInt8) (hn:cs=s.data.toList.take jj) (vI:0<cs.length→dp=some ⟨g,off,none⟩) (iY:off+cs.length≤bs.length):
 ∃w',(Builtin.copy_ #[dT,sT] ty #[.slice dp jj qi,.string s]).run P w=.ok (goInt cs.length) w'∧dE w' g (splice bs off cs)∧Kept (ay g) w w'∧w'.heap.size=w.heap.size:=by
 have G:s.data.toList.length=s.size:=by simp
 have B:cs.length=min s.size jj:=by
  rw[hn,Qg];omega
 have hl:cs.length=Nat.min s.size jj:=B
 have hcs:((s.data.toList.map fun x=>Value.int .u8 (x.toNat:Int)).take (Nat.min s.size jj))=cs.map bv:=by
  rw[←List.map_take,hn];show(s.data.toList.take (min s.size jj)).map _=_
  by_cases h:s.size≤jj
  ·rw[Nat.min_eq_left h,List.take_of_length_le (by omega),List.take_of_length_le (by omega)]
   rfl
  ·rw[Nat.min_eq_right (by omega)]
   rfl
 obtain⟨i,hi⟩:∃i,P.info? elem=some i:=by
  cases h:P.info? elem with
  |none=>rw[h]at hsz;cases hsz
  |some i=>exact⟨i,rfl⟩
 by_cases D:cs.length=0
 ·obtain rfl:cs=[]:=List.eq_nil_of_length_eq_zero D
  refine⟨w,?_,by simpa [splice]using hg,Kept.refl _ _,rfl⟩;have h1:Nat.min s.size jj=0:=by simpa using hl.symm
  cases dp with
  |none=>simp[Builtin.copy_,run_underlying hu,Builtin.lenOf,Builtin.firstCells,sizeOf,typeInfo,hi,h1]
  |some a=>simp[Builtin.copy_,run_underlying hu,Builtin.lenOf,Builtin.firstCells,sizeOf,typeInfo,hi,h1,storeCells]
 ·obtain rfl:=vI (by omega)
  have A:=run_storeCells_at P g off _ (cs.map bv) 0 _ w hg (by simpa using iY) (fun v E=>by
   obtain⟨x,_,rfl⟩:=List.mem_map.1 E
   rfl)
  have e:((bs.map bv).toArray.toList.take (off+0)++cs.map bv++(bs.map bv).toArray.toList.drop (off+0+(cs.map bv).length)).toArray=((splice bs off cs).map bv).toArray:=by
   simp[splice,List.map_take,List.map_drop]
  rw[e]at A;refine⟨w.setRow g ((splice bs off cs).map bv).toArray,?_,setRow_heap w g _ _ _ _ hg,⟨rfl,rfl,rfl,by simp[World.setRow],fun k hk hn=>setRow_other w g k _ hn⟩,by simp[World.setRow]⟩;simp[Builtin.copy_,run_underlying hu,Builtin.lenOf,Builtin.firstCells,sizeOf,typeInfo,hi,hcs,A,hl]
section
variable {P:Program} {w:World} {ops:Array Oper} {rest:List Oper} {o:Oper} {a:Act} {Q:Exit→Act→World→Prop}
theorem q5 (o9:o.guard=none) (d s:Operand) (dT sT:TypeId) (ho:o.op=.call {callee:=.builtin .copy,args:=#[d,s],argTypes:=#[dT,sT]}) (elem:TypeId) (hu:P.underlying dT=some (.slice elem)) (hsz:(P.info? elem).map (·.size)=some 1)
 (dp sp:Option Addr) (jj qi tT AX:Nat) (hd:a.eval d=.slice dp jj qi) (hs:a.eval s=.slice sp tT AX)
 (g off:Nat) (bs:List UInt8) (hg:dE w g bs) (cs:List UInt8) (hn:cs.length=Nat.min tT jj) (vI:0<cs.length→dp=some ⟨g,off,none⟩) (nt:cK w sp cs.length cs) (iY:off+cs.length≤bs.length)
 (h:∀w',Hid (dE w' g (splice bs off cs))→Kept (ay g) w w'→w'.heap.size=w.heap.size→wpList P ops Q rest (a.put o.dst (goInt cs.length)) w'):wpList P ops Q (o::rest) a w:=by
 refine wpList_plain o9 fun K E=>?_
 obtain⟨w',A,h1,B,D⟩:=zl (P:=P) dT sT o.type elem hu hsz dp sp jj qi tT AX g off bs hg cs hn vI nt iY;unfold Oper.wp;simp[execOp,ho,resolve,invoke,builtin,hd,hs,A,Result.andThen];exact E _ _ (h w' (Qh h1) B D)
theorem jK (o9:o.guard=none) (d s:Operand) (dT sT:TypeId) (ho:o.op=.call {callee:=.builtin .copy,args:=#[d,s],argTypes:=#[dT,sT]}) (elem:TypeId) (hu:P.underlying dT=some (.slice elem)) (hsz:(P.info? elem).map (·.size)=some 1)
 (dp:Option Addr) (jj qi:Nat) (str:ByteArray) (hd:a.eval d=.slice dp jj qi) (hs:a.eval s=.string str)
 (g off:Nat) (bs:List UInt8) (hg:dE w g bs) (cs:List UInt8) (hn:cs=str.data.toList.take jj) (vI:0<cs.length→dp=some ⟨g,off,none⟩) (iY:off+cs.length≤bs.length)
 (h:∀w',Hid (dE w' g (splice bs off cs))→Kept (ay g) w w'→w'.heap.size=w.heap.size→wpList P ops Q rest (a.put o.dst (goInt cs.length)) w'):wpList P ops Q (o::rest) a w:=by
 refine wpList_plain o9 fun K E=>?_
 obtain⟨w',A,h1,B,D⟩:=zm (P:=P) dT sT o.type elem hu hsz dp jj qi str g off bs hg cs hn vI iY;unfold Oper.wp;simp[execOp,ho,resolve,invoke,builtin,hd,hs,A,Result.andThen];exact E _ _ (h w' (Qh h1) B D)
theorem xc {K:Act→World→Prop} {E:Prop} (o9:o.guard=none) (d s:Operand) (dT sT:TypeId) (ho:o.op=.call {callee:=.builtin .copy,args:=#[d,s],argTypes:=#[dT,sT]}) (elem:TypeId) (hu:P.underlying dT=some (.slice elem)) (hsz:(P.info? elem).map (·.size)=some 1)
 (dp sp:Option Addr) (jj qi tT AX:Nat) (hd:a.eval d=.slice dp jj qi) (hs:a.eval s=.slice sp tT AX)
 (g off:Nat) (bs:List UInt8) (hg:dE w g bs) (cs:List UInt8) (hn:cs.length=Nat.min tT jj) (vI:0<cs.length→dp=some ⟨g,off,none⟩) (nt:cK w sp cs.length cs) (iY:off+cs.length≤bs.length)
 (h:∀w',Hid (dE w' g (splice bs off cs))→Kept (ay g) w w'→w'.heap.size=w.heap.size→K (a.put o.dst (goInt cs.length)) w'):
 if Region.wanted o (yielded ops a.tmps)=true then Oper.wp P o a w K Q else E:=by
 have hw:Region.wanted o (yielded ops a.tmps)=true:=by simp[Region.wanted,o9]
 rw[if_pos hw];obtain⟨w',A,h1,B,D⟩:=zl (P:=P) dT sT o.type elem hu hsz dp sp jj qi tT AX g off bs hg cs hn vI nt iY;unfold Oper.wp;simp[execOp,ho,resolve,invoke,builtin,hd,hs,A,Result.andThen];exact h w' (Qh h1) B D
end
def dw (r:Nat→Nat) (i:Nat):Value:=.agg #[.int .i64 (fF i),.slice (some ⟨r i,0,none⟩) (aj i) (aj i)]
def jy (r:Nat→Nat):Nat→Option Value:=fun i=>if i<11 then some (dw r i)else none
structure bD (w:World) (lo B:Nat) (r:Nat→Nat) (own:Nat→List UInt8):Prop where
 map:kr w B (jy r)
 row:∀i,i<11→dE w (r i) (own i)
 fit:Fits own
 inj:∀i j,i<11→j<11→r i=r j→i=j
 lo:lo≤B∧∀i,i<11→lo≤r i
section
variable {w w':World} {lo B:Nat} {r:Nat→Nat} {own:Nat→List UInt8}
theorem bD.kept (h:bD w lo B r own) (hk:Kept S w w') (hB:¬S B) (hr:∀i,i<11→¬S (r i)):bD w' lo B r own:=
 ⟨h.map.kept hk hB,fun i hi=>(h.row i hi).kept hk (hr i hi),h.fit,h.inj,h.lo⟩
theorem bD.du (h:bD w lo B r own) (hk:Kept ai w w'):bD w' lo B r own:=h.kept hk id fun _ _=>id
theorem bD.ai2 (h:bD w lo B r own) (hi:i<11):r i≠B:=fun e=>by
 obtain⟨es,clock,A,_⟩:=h.map;have:=h.row i hi;unfold dE at this;rw[e,A]at this
 cases this
theorem bD.gC (h:bD w lo B r own) (hi:i<11):cK w (some ⟨r i,0,none⟩) (aj i) (own i):=by
 have:=(h.row i hi).gC
 rwa [h.fit i]at this
theorem bD.wrote (h:bD w lo B r own) (hi:i<11) (hk:Kept (ay (r i)) w w') {l:List UInt8} (hl:l.length=aj i) (hr:dE w' (r i) l):bD w' lo B r (pR own i l):=
 ⟨h.map.kept hk (fun e=>h.ai2 hi (Eq.symm e)),fun j D=>by
  by_cases A:j=i
  ·subst A;rw[nY];exact hr
  ·rw[jW _ _ A]
   exact(h.row j D).kept hk (fun e=>A (h.inj j i D hi e)),h.fit.pR hl,h.inj,h.lo⟩
end
end Mp
namespace Head
open Go.MapKept cN Hp Go.Proofs.YtdhibldkldlfpaaGreatDoor.Mp Go.Lib
variable {k:Nat}
def Ws (f:Func):Array Oper:=
 match f.body with
 |some (.seq _ (.region _ ops _))=>ops
 |some (.seq _ (.seq (.region _ ops _) _))=>ops
 |_=>#[]
noncomputable def bQ:Array Oper:=Ws Tryz.f135
theorem Wq:∃o,bQ[0]? =some o∧o.op=.makeMap 166 none∧o.dst=some 1∧o.guard=none:=⟨_,rfl,rfl,rfl,rfl⟩
theorem SQ:∀i,i<11→∃o,bQ[1+3*i]? =some o∧o.op=.makeSlice 26 (.const (.int .i64 (aj i))) (.const (.int .i64 (aj i)))∧o.dst=some (2+2*i)∧o.guard=none:=by
 intro i hi;rcases kB hi with rfl|rfl|rfl|rfl|rfl|rfl|rfl|rfl|rfl|rfl|rfl<;>exact⟨_,rfl,rfl,rfl,rfl⟩
theorem Px:∀i,i<11→∃o,bQ[2+3*i]? =some o∧o.op=.build 169 #[(0,.const (.int .i64 (fF i))),(1,.tmp (2+2*i))]∧o.dst=some (3+2*i)∧o.guard=none∧o.after=#[⟨1+3*i,.data⟩]:=by
 intro i hi;rcases kB hi with rfl|rfl|rfl|rfl|rfl|rfl|rfl|rfl|rfl|rfl|rfl<;>exact⟨_,rfl,rfl,rfl,rfl,rfl⟩
theorem Wp:∀i,i<11→∃o,bQ[3+3*i]? =some o∧o.op=.insert 166 (.tmp 1) (.const (.int .i64 (i:Int))) (.tmp (3+2*i))∧o.dst=none∧o.guard=none∧o.after=#[⟨0,.data⟩,⟨2+3*i,.data⟩]:=by
 intro i hi;rcases kB hi with rfl|rfl|rfl|rfl|rfl|rfl|rfl|rfl|rfl|rfl|rfl<;>exact⟨_,rfl,rfl,rfl,rfl,rfl⟩
theorem SR:∃o,bQ[34]? =some o∧o.op=.move (.tmp 1)∧o.dst=some 24∧o.guard=none∧o.after[0]? =some ⟨0,.data⟩:=⟨_,rfl,rfl,rfl,rfl,rfl⟩
theorem Ls:∃o,bQ[35]? =some o∧o.op=.assign (.tmp 24)∧o.dst=some 0∧o.guard=none∧o.after[0]? =some ⟨34,.data⟩:=⟨_,rfl,rfl,rfl,rfl,rfl⟩
theorem ur:bQ.size=36:=rfl
theorem SN:∀i o,bQ[i]? =some o→∀e∈o.after,Region.binds .any e=true→e.on<i:=by
 have h:(bQ.toList.zipIdx.all fun x=>x.1.after.all fun e=>decide (e.on<x.2))=true:=by decide+kernel
 intro i o B e he _;rw[List.all_eq_true]at h;have h1:=h (o,i) (by rw[List.mem_iff_getElem?];exact⟨i,by simp[B]⟩);have A:=Array.all_eq_true_iff_forall_mem.1 h1 e he
 simpa using A
structure BI (w0:World) (listed:Array Bool) (a:Act) (w:World) (B:Nat) (r:Nat→Nat):Prop where
 ls:listed.size=36
 ts:a.tmps.size=25
 df:a.defers=[]
 kept:Kept ai w0 w
 m0:listed.getD 0 false=true→a.eval (.tmp 1)=.map (some B)∧w0.heap.size≤B∧kr w B (fun i=>if i<11∧listed.getD (3+3*i) false=true then some (dw r i)else none)
 QW:∀i,i<11→listed.getD (1+3*i) false=true→a.eval (.tmp (2+2*i))=.slice (some ⟨r i,0,none⟩) (aj i) (aj i)∧w0.heap.size≤r i∧dE w (r i) (List.replicate (aj i) 0)
 bd:∀i,i<11→listed.getD (2+3*i) false=true→a.eval (.tmp (3+2*i))=dw r i∧listed.getD (1+3*i) false=true
 ins:∀i,i<11→listed.getD (3+3*i) false=true→listed.getD (2+3*i) false=true∧listed.getD 0 false=true
 inj:∀i j,i<11→j<11→listed.getD (1+3*i) false=true→listed.getD (1+3*j) false=true→r i=r j→i=j
 mv:listed.getD 34 false=true→listed.getD 0 false=true∧a.eval (.tmp 24)=.map (some B)
 Xk:listed.getD 35 false=true→listed.getD 34 false=true∧a.eval (.tmp 0)=.map (some B)
theorem EW (w:World) (i:Nat) (x:Value) (hx:∃p l c,x=.slice p l c):(Instr.build 169 #[(0,.int .i64 (fF i)),(1,x)]).run Tryz.prog w=.ok (.agg #[.int .i64 (fF i),x]) w:=by
 obtain⟨p,l,c,rfl⟩:=hx
 kernel_rfl
section
variable {w0 w:World} {listed:Array Bool} {a:Act} {B:Nat} {r:Nat→Nat} {Q:Exit→Act→World→Prop}
def BX (w0:World) (listed:Array Bool) (a:Act) (w:World):Prop:=∃B r,BI w0 listed a w B r
theorem step_map (h:BI w0 listed a w B r) (hr:0∈Region.ready .any bQ listed):wpOp Tryz.prog bQ Q 0 (BX w0 (listed.setIfInBounds 0 true)) a w:=by
 have I:=(mem_ready.1 hr).1;have hf:=dS I;have A:=bp I;obtain⟨o,T,J,hd,O⟩:=Wq;refine wpOp_step T fun K N=>?_
 rw[if_pos (by simp[Region.wanted,O])];have L:=@run_makeMap Tryz.prog 166 w;unfold Oper.wp;simp[execOp,J,L,Result.andThen];rw[Oper.upon_value,hd];refine N _ _ ⟨w.heap.size,r,?_⟩;have E:=h.ts;have G:Kept ai w (w.alloc (.map #[] 0)):=(Kept.refl _ _).alloc _;have H:∀t:Nat,t≠1→(a.put (some 1) (.map (some w.heap.size))).eval (.tmp t)=a.eval (.tmp t):=fun t U=>by rw[eJ _ (by omega),if_neg U]
 have no:∀i,i<11→listed.getD (3+3*i) false=false:=fun i hi=>by
  cases hc:listed.getD (3+3*i) false with
  |false=>rfl
  |true=>have:=(h.ins i hi hc).2;rw[hf]at this;cases this
 refine⟨by simpa using h.ls,by rw[kj];exact E,by rw[put_defers];exact h.df,h.kept.trans G,fun _=>⟨by rw[eJ _ (by omega),if_pos rfl],h.kept.size,?_⟩,?_,?_,?_,?_,?_,?_⟩
 ·have e:(fun i=>if i<11∧(listed.setIfInBounds 0 true).getD (3+3*i) false=true then some (dw r i)else none)=fun _=>(none:Option Value):=by
   funext i
   rw[aa A,if_neg (show ¬3+3*i=0 by omega)]
   by_cases hi:i<11
   ·rw[no i hi];simp
   ·simp[hi]
  rw[e];exact rQ w
 ·intro i hi hl
  rw[aa A,if_neg (show ¬1+3*i=0 by omega)]at hl;obtain⟨h1,D,M⟩:=h.QW i hi hl;exact⟨by rw[H _ (by omega)];exact h1,D,M.kept G id⟩
 ·intro i hi hl
  rw[aa A,if_neg (show ¬2+3*i=0 by omega)]at hl;obtain⟨h1,D⟩:=h.bd i hi hl;exact⟨by rw[H _ (by omega)];exact h1,by rw[aa A,if_neg (by omega)];exact D⟩
 ·intro i hi hl
  rw[aa A,if_neg (show ¬3+3*i=0 by omega),no i hi]at hl
  cases hl
 ·intro i j hi R h1 D
  rw[aa A,if_neg (show ¬1+3*i=0 by omega)]at h1;rw[aa A,if_neg (show ¬1+3*j=0 by omega)]at D;exact h.inj i j hi R h1 D
 ·intro hl
  rw[aa A,if_neg (by omega)]at hl;have:=(h.mv hl).1;rw[hf]at this
  cases this
 ·intro hl
  rw[aa A,if_neg (by omega)]at hl;have:=(h.mv (h.Xk hl).1).1;rw[hf]at this
  cases this
theorem Mh (h:BI w0 listed a w B r) (hk:k<11) (hr:1+3*k∈Region.ready .any bQ listed):wpOp Tryz.prog bQ Q (1+3*k) (BX w0 (listed.setIfInBounds (1+3*k) true)) a w:=by
 have R:=(mem_ready.1 hr).1;have hf:=dS R;have W:=bp R;have hw:=lO hk;obtain⟨o,d,V,hd,c⟩:=SQ k hk;obtain⟨i0,U,Z,X,Y⟩:=info_parts iy;refine wpOp_step d fun K b=>?_
 rw[if_pos (by simp[Region.wanted,c])];have O:=run_make (P:=Tryz.prog) w 26 5 i0 (.int .u8 0) Tryz.underlying26 U Z .i64 .i64 (aj k) (aj k) (by omega) (by omega) (by rw[Y];omega) (by omega);rw[X,Nat.mul_one,Int.toNat_natCast,show(Value.int .u8 0).cells=#[Value.int .u8 0]from rfl]at O;unfold Oper.wp;simp[execOp,V,Act.eval,O,Result.andThen];rw[Oper.upon_value,hd];refine b _ _ ⟨B,fun i=>if i=k then w.heap.size else r i,?_⟩;have M:=h.ts;have J:Kept ai w (w.alloc (.cells (madeCells #[Value.int .u8 0] (aj k)) 5)):=(Kept.refl _ _).alloc _;have G:∀t:Nat,t≠2+2*k→(a.put (some (2+2*k)) (.slice (some ⟨w.heap.size,0,none⟩) (aj k) (aj k))).eval (.tmp t)=a.eval (.tmp t):=fun t f=>by rw[eJ _ (by omega),if_neg f]
 have ls:∀j,j≠1+3*k→(listed.setIfInBounds (1+3*k) true).getD j false=listed.getD j false:=fun j I=>by rw[aa W,if_neg I]
 have H:listed.getD (2+3*k) false=false:=by
  cases hc:listed.getD (2+3*k) false with
  |false=>rfl
  |true=>have:=(h.bd k hk hc).2;rw[hf]at this;cases this
 have N:listed.getD (3+3*k) false=false:=by
  cases hc:listed.getD (3+3*k) false with
  |false=>rfl
  |true=>have:=(h.ins k hk hc).1;rw[H]at this;cases this
 have T:∀i,i≠k→dw (fun i=>if i=k then w.heap.size else r i) i=dw r i:=fun i hi=>by simp only[dw,if_neg hi]
 refine⟨by simpa using h.ls,by rw[kj];exact M,by rw[put_defers];exact h.df,h.kept.trans J,?_,?_,?_,?_,?_,?_,?_⟩
 ·intro hl
  rw[ls 0 (by omega)]at hl;obtain⟨h1,D,L⟩:=h.m0 hl;refine⟨by rw[G _ (by omega)];exact h1,D,?_⟩
  have e:(fun i=>if i<11∧(listed.setIfInBounds (1+3*k) true).getD (3+3*i) false=true then some (dw (fun i=>if i=k then w.heap.size else r i) i)else none)=fun i=>if i<11∧listed.getD (3+3*i) false=true then some (dw r i)else none:=by
   funext i
   rw[ls _ (by omega)]
   by_cases A:i=k
   ·subst A;rw[N];simp
   ·rw[T i A]
  rw[e];exact L.kept J id
 ·intro i hi hl
  by_cases A:i=k
  ·subst A
   refine⟨by rw[eJ _ (by omega),if_pos rfl,if_pos rfl],by rw[if_pos rfl];exact h.kept.size,?_⟩;rw[if_pos rfl];exact Ma w (aj i)
  ·rw[ls _ (by omega)]at hl
   obtain⟨h1,D,L⟩:=h.QW i hi hl;rw[if_neg A];exact⟨by rw[G _ (by omega)];exact h1,D,L.kept J id⟩
 ·intro i hi hl
  rw[ls _ (by omega)]at hl
  by_cases A:i=k
  ·subst A;rw[H]at hl;cases hl
  ·obtain⟨h1,D⟩:=h.bd i hi hl
   exact⟨by rw[G _ (by omega),T i A];exact h1,by rw[ls _ (by omega)];exact D⟩
 ·intro i hi hl
  rw[ls _ (by omega)]at hl;rw[ls _ (by omega),ls _ (by omega)];exact h.ins i hi hl
 ·intro i j hi I h1 D
  by_cases A:i=k
  ·by_cases E:j=k
   ·intro _;rw[A,E]
   ·rw[if_pos A,if_neg E]
    rw[ls _ (by omega)]at D;have:=(h.QW j I D).2.2.lt;intro e;omega
  ·rw[ls _ (by omega)]at h1
   by_cases E:j=k
   ·rw[if_neg A,if_pos E]
    have:=(h.QW i hi h1).2.2.lt;intro e;omega
   ·rw[if_neg A,if_neg E]
    rw[ls _ (by omega)]at D;exact h.inj i j hi I h1 D
 ·intro hl
  rw[ls _ (by omega)]at hl;rw[ls _ (by omega),G _ (by omega)];exact h.mv hl
 ·intro hl
  rw[ls _ (by omega)]at hl;rw[ls _ (by omega),G _ (by omega)];exact h.Xk hl
theorem G1 (h:BI w0 listed a w B r) (hk:k<11) (hr:2+3*k∈Region.ready .any bQ listed):wpOp Tryz.prog bQ Q (2+3*k) (BX w0 (listed.setIfInBounds (2+3*k) true)) a w:=by
 obtain⟨M,o',U,R⟩:=mem_ready.1 hr;have J:=bp M;have hf:=dS M;obtain⟨o,L,T,hd,Y,N⟩:=Px k hk;obtain rfl:o=o':=Option.some.inj (L.symm.trans U);have I:listed.getD (1+3*k) false=true:=R ⟨1+3*k,.data⟩ (by rw[N];simp) rfl;obtain⟨O,_,_⟩:=h.QW k hk I;refine wpOp_step L fun K X=>?_
 rw[if_pos (by simp[Region.wanted,Y])];have V:=EW w k (.slice (some ⟨r k,0,none⟩) (aj k) (aj k)) ⟨_,_,_,rfl⟩;have E:a.tmps.getD (2+2*k) undef=.slice (some ⟨r k,0,none⟩) (aj k) (aj k):=O;unfold Oper.wp;simp only[execOp,T,List.map_toArray,List.map_cons,List.map_nil,Act.eval,E,Sem.run_bind,V,Result.andThen,Oper.upon];rw[hd];refine X _ _ ⟨B,r,?_⟩;have H:=h.ts;have D:∀t:Nat,t≠3+2*k→(a.put (some (3+2*k)) (dw r k)).eval (.tmp t)=a.eval (.tmp t):=fun t Z=>by rw[eJ _ (by omega),if_neg Z]
 have ls:∀j,j≠2+3*k→(listed.setIfInBounds (2+3*k) true).getD j false=listed.getD j false:=fun j G=>by rw[aa J,if_neg G]
 show BI w0 _ (a.put (some (3+2*k)) (dw r k)) w B r;refine⟨by simpa using h.ls,by rw[kj];exact H,by rw[put_defers];exact h.df,h.kept,?_,?_,?_,?_,?_,?_,?_⟩
 ·intro hl
  rw[ls 0 (by omega)]at hl;obtain⟨h1,A,W⟩:=h.m0 hl;refine⟨by rw[D _ (by omega)];exact h1,A,?_⟩
  have e:(fun i=>if i<11∧(listed.setIfInBounds (2+3*k) true).getD (3+3*i) false=true then some (dw r i)else none)=fun i=>if i<11∧listed.getD (3+3*i) false=true then some (dw r i)else none:=by
   funext i
   rw[ls _ (by omega)]
  rw[e];exact W
 ·intro i hi hl
  rw[ls _ (by omega)]at hl;rw[D _ (by omega)];exact h.QW i hi hl
 ·intro i hi hl
  by_cases b:i=k
  ·subst b
   exact⟨by rw[eJ _ (by omega),if_pos rfl],by rw[ls _ (by omega)];exact I⟩
  ·rw[ls _ (by omega)]at hl
   obtain⟨h1,A⟩:=h.bd i hi hl;exact⟨by rw[D _ (by omega)];exact h1,by rw[ls _ (by omega)];exact A⟩
 ·intro i hi hl
  rw[ls _ (by omega)]at hl;obtain⟨h1,A⟩:=h.ins i hi hl;refine⟨?_,by rw[ls _ (by omega)];exact A⟩;rw[aa J];split
  ·rfl
  ·exact h1
 ·intro i j hi G h1 A
  rw[ls _ (by omega)]at h1 A;exact h.inj i j hi G h1 A
 ·intro hl
  rw[ls _ (by omega)]at hl;rw[ls _ (by omega),D _ (by omega)];exact h.mv hl
 ·intro hl
  rw[ls _ (by omega)]at hl;rw[ls _ (by omega),D _ (by omega)];exact h.Xk hl
theorem P6 (h:BI w0 listed a w B r) (hk:k<11) (hr:3+3*k∈Region.ready .any bQ listed):wpOp Tryz.prog bQ Q (3+3*k) (BX w0 (listed.setIfInBounds (3+3*k) true)) a w:=by
 obtain⟨V,o',b,R⟩:=mem_ready.1 hr;have T:=bp V;have hf:=dS V;obtain⟨o,U,Z,hd,l,L⟩:=Wp k hk;obtain rfl:o=o':=Option.some.inj (U.symm.trans b);have O:listed.getD 0 false=true:=R ⟨0,.data⟩ (by rw[L];simp) rfl;have M:listed.getD (2+3*k) false=true:=R ⟨2+3*k,.data⟩ (by rw[L];simp) rfl;obtain⟨N,X,G⟩:=h.m0 O;obtain⟨c,_⟩:=h.bd k hk M;refine wpOp_step U fun K f=>?_
 rw[if_pos (by simp[Region.wanted,l])];obtain⟨w',d,m,W,hs⟩:=G.put (P:=Tryz.prog) Tryz.underlying166 Tryz.underlying170 k (dw r k) (by rw[hf];simp);have Y:(Instr.mapUpdate 166 (.map (some B)) (.int .i64 (k:Int)) (dw r k)).run Tryz.prog w=.ok () w':=d;unfold Oper.wp;simp[execOp,Z,N,c,NL,Y,Result.andThen]
 first|rw[Oper.upon_value,hd]|rw[Oper.upon_skip,hd]
 refine f _ _ ⟨B,r,?_⟩;have J:=h.ts;have ls:∀j,j≠3+3*k→(listed.setIfInBounds (3+3*k) true).getD j false=listed.getD j false:=fun j I=>by rw[aa T,if_neg I]
 have p:B<w.heap.size:=G.lt
 have H:Kept ai w0 w':=h.kept.then W (fun i hi=>by
  have:i=B:=hi
  omega)
 refine⟨by simpa using h.ls,J,h.df,H,?_,?_,?_,?_,?_,?_,?_⟩
 ·intro _
  refine⟨N,X,?_⟩
  have e:(fun i=>if i<11∧(listed.setIfInBounds (3+3*k) true).getD (3+3*i) false=true then some (dw r i)else none)=fun y=>if y=k then some (dw r k)else(if y<11∧listed.getD (3+3*y) false=true then some (dw r y)else none):=by
   funext i
   by_cases E:i=k
   ·subst E
    rw[aa T,if_pos rfl,if_pos ⟨hk,rfl⟩,if_pos rfl]
   ·rw[ls _ (by omega),if_neg E]
  rw[e];exact m
 ·intro i hi hl
  rw[ls _ (by omega)]at hl;obtain⟨h1,A,D⟩:=h.QW i hi hl;refine⟨h1,A,D.kept W (fun e=>?_)⟩;have e:r i=B:=e;obtain⟨es,clock,g,_⟩:=G;unfold dE at D;rw[e,g]at D
  cases D
 ·intro i hi hl
  rw[ls _ (by omega)]at hl;rw[ls _ (by omega)];exact h.bd i hi hl
 ·intro i hi hl
  rw[ls _ (by omega),ls _ (by omega)]
  by_cases E:i=k
  ·subst E;exact⟨M,O⟩
  ·rw[ls _ (by omega)]at hl
   exact h.ins i hi hl
 ·intro i j hi I h1 A
  rw[ls _ (by omega)]at h1 A;exact h.inj i j hi I h1 A
 ·intro hl
  rw[ls _ (by omega)]at hl;rw[ls _ (by omega)];exact h.mv hl
 ·intro hl
  rw[ls _ (by omega)]at hl;rw[ls _ (by omega)];exact h.Xk hl
theorem zr (h:BI w0 listed a w B r) {d:Nat} {s:Nat} {o:Oper} (hr:k∈Region.ready .any bQ listed) (ho:bQ[k]? =some o) (aX:o.op=.move (.tmp s)∨o.op=.assign (.tmp s)) (hd:o.dst=some d) (hg:o.guard=none)
 (hc:(k=34∧d=24∧s=1∧listed.getD 0 false=true)∨(k=35∧d=0∧s=24∧listed.getD 34 false=true)):wpOp Tryz.prog bQ Q k (BX w0 (listed.setIfInBounds k true)) a w:=by
 obtain⟨I,_⟩:=mem_ready.1 hr;have J:=bp I;have hf:=dS I
 have hs:a.eval (.tmp s)=.map (some B):=by
  rcases hc with⟨_,_,rfl,h0⟩|⟨_,_,rfl,h0⟩
  ·exact(h.m0 h0).1
  ·exact(h.mv h0).2
 refine wpOp_step ho fun K M=>?_
 rw[if_pos (by simp[Region.wanted,hg])];unfold Oper.wp;rcases aX with aX|aX
 all_goals
  simp[execOp,aX,hs];rw[Oper.upon_value,hd];refine M _ _ ⟨B,r,?_⟩;have G:=h.ts;have A:∀t:Nat,t≠d→(a.put (some d) (.map (some B))).eval (.tmp t)=a.eval (.tmp t):=fun t N=>by rw[eJ _ (by omega),if_neg N]
  have H:(a.put (some d) (.map (some B))).eval (.tmp d)=.map (some B):=by rw[eJ _ (by omega),if_pos rfl]
  have ls:∀j,j≠k→(listed.setIfInBounds k true).getD j false=listed.getD j false:=fun j E=>by rw[aa J,if_neg E]
  refine⟨by simpa using h.ls,by rw[kj];exact G,by rw[put_defers];exact h.df,h.kept,?_,?_,?_,?_,?_,?_,?_⟩
  ·intro hl
   rw[ls 0 (by omega)]at hl;obtain⟨h1,D,L⟩:=h.m0 hl;refine⟨by rw[A _ (by omega)];exact h1,D,?_⟩
   have e:(fun i=>if i<11∧(listed.setIfInBounds k true).getD (3+3*i) false=true then some (dw r i)else none)=fun i=>if i<11∧listed.getD (3+3*i) false=true then some (dw r i)else none:=by
    funext i
    by_cases hi:i<11
    ·rw[ls _ (by omega)]
    ·simp[hi]
   rw[e];exact L
  ·intro i hi hl
   rw[ls _ (by omega)]at hl;rw[A _ (by omega)];exact h.QW i hi hl
  ·intro i hi hl
   rw[ls _ (by omega)]at hl;rw[A _ (by omega),ls _ (by omega)];exact h.bd i hi hl
  ·intro i hi hl
   rw[ls _ (by omega)]at hl;rw[ls _ (by omega),ls _ (by omega)];exact h.ins i hi hl
  ·intro i j hi E h1 D
   rw[ls _ (by omega)]at h1 D;exact h.inj i j hi E h1 D
  ·intro hl
   rcases hc with⟨rfl,rfl,rfl,h0⟩|⟨rfl,rfl,rfl,h0⟩
   ·exact⟨by rw[ls _ (by omega)];exact h0,H⟩
   ·rw[ls _ (by omega)]at hl
    rw[ls _ (by omega),A _ (by omega)];exact h.mv hl
  ·intro hl
   rcases hc with⟨rfl,rfl,rfl,h0⟩|⟨rfl,rfl,rfl,h0⟩
   ·rw[ls _ (by omega)]at hl
    have:=(h.Xk hl).1;rw[hf]at this
    cases this
   ·exact⟨by rw[ls _ (by omega)];exact h0,H⟩
theorem P5 (i:Nat) (h:BX w0 listed a w) (hr:i∈Region.ready .any bQ listed):wpOp Tryz.prog bQ Q i (BX w0 (listed.setIfInBounds i true)) a w:=by
 obtain⟨B,r,h⟩:=h
 have hi:i<36:=by
  obtain⟨_,o,A,_⟩:=mem_ready.1 hr;have:=(Array.getElem?_eq_some_iff.1 A).1
  rwa [ur]at this
 have J:i=0∨(∃k,k<11∧i=1+3*k)∨(∃k,k<11∧i=2+3*k)∨(∃k,k<11∧i=3+3*k)∨i=34∨i=35:=by
  by_cases L:i=0
  ·exact Or.inl L
  ·by_cases M:i<34
   ·have:i=1+3*((i - 1) / 3)∨i=2+3*((i - 1) / 3)∨i=3+3*((i - 1) / 3):=by omega
    rcases this with h|h|h
    ·exact Or.inr (Or.inl ⟨_,by omega,h⟩)
    ·exact Or.inr (Or.inr (Or.inl ⟨_,by omega,h⟩))
    ·exact Or.inr (Or.inr (Or.inr (Or.inl ⟨_,by omega,h⟩)))
   ·exact Or.inr (Or.inr (Or.inr (Or.inr (by omega))))
 rcases J with rfl|⟨k,hk,rfl⟩|⟨k,hk,rfl⟩|⟨k,hk,rfl⟩|rfl|rfl
 ·exact step_map h hr
 ·exact Mh h hk hr
 ·exact G1 h hk hr
 ·exact P6 h hk hr
 ·obtain⟨o,A,G,hd,I,D⟩:=SR
  obtain⟨_,o',H,E⟩:=mem_ready.1 hr;obtain rfl:o=o':=Option.some.inj (A.symm.trans H);exact zr h hr A (Or.inl G) hd I (Or.inl ⟨rfl,rfl,rfl,E ⟨0,.data⟩ (Array.mem_of_getElem? D) rfl⟩)
 ·obtain⟨o,A,G,hd,I,D⟩:=Ls
  obtain⟨_,o',H,E⟩:=mem_ready.1 hr;obtain rfl:o=o':=Option.some.inj (A.symm.trans H);exact zr h hr A (Or.inr G) hd I (Or.inr ⟨rfl,rfl,rfl,E ⟨34,.data⟩ (Array.mem_of_getElem? D) rfl⟩)
theorem zM (ha:a.tmps.size=25) (hd:a.defers=[]) (hQ:∀a' w' B r,a'.defers=[]→a'.eval (.tmp 0)=.map (some B)→bD w' w.heap.size B r ey→Kept ai w w'→Q .normal a' w'):
 wpAny Tryz.prog .any bQ Q bQ.size (Array.replicate bQ.size false) a {w with drawn:=w.drawn+1}:=by
 have no:∀j,(Array.replicate bQ.size false).getD j false=false:=fun j=>by
  rw[Array.getD_eq_getD_getElem?,Array.getElem?_replicate];split<;>rfl
 refine sv (BX w) (fun listed a w' i h D=>P5 i h D) (fun listed a' w' h D=>?_) _ _ _ _ ?_ ?_
 ·obtain⟨B,r,h⟩:=h
  have A:=pw (by rw[h.ls,ur]) SN D 36;have all:∀i,i<36→listed.getD i false=true:=fun i hi=>A i hi (by rw[ur];exact hi)
  obtain⟨h1,G,H⟩:=h.m0 (all 0 (by omega));refine hQ a' w' B r h.df (h.Xk (all 35 (by omega))).2 ⟨?_,?_,ko,fun i j hi E=>h.inj i j hi E (all _ (by omega)) (all _ (by omega)),G,fun i hi=>(h.QW i hi (all _ (by omega))).2.1⟩ h.kept
  ·have e:jy r=fun i=>if i<11∧listed.getD (3+3*i) false=true then some (dw r i)else none:=by
    funext i
    unfold jy
    by_cases hi:i<11
    ·rw[if_pos hi,if_pos ⟨hi,all _ (by omega)⟩]
    ·rw[if_neg hi,if_neg (fun e=>hi e.1)]
   rw[e];exact H
  ·intro i hi
   exact(h.QW i hi (all _ (by omega))).2.2
 ·unfold nU
  exact Nat.le_trans (List.length_filter_le _ _) (by rw[List.length_range];exact Qk _)
 ·refine⟨0,fun _=>0,by rw[Array.size_replicate];exact ur,ha,hd,(Kept.refl ai w).drew,?_,?_,?_,?_,?_,?_,?_⟩
  all_goals first
   |(intro hl;rw[no]at hl;cases hl)
   |(intro i hi hl;rw[no]at hl;cases hl)
   |(intro i j hi E hl;rw[no]at hl;cases hl)
end
theorem iv (w:World) (x:Int) (p:Option Addr) (l c:Nat):(Instr.field 169 (.agg #[.int .i64 x,.slice p l c]) 1).run Tryz.prog w=.ok (.slice p l c) w:=by kernel_rfl
theorem yn (w:World):Calls Tryz.prog 135 #[] w fun e w'=>∃B r,e=.returned (.map (some B))∧bD w' w.heap.size B r ey∧Kept ai w w':=by
 go_enter Tryz.func135,Tryz.ntmps135
 go_wp2;refine wp_region_any (by kernel_rfl) (zM (by rfl) (by rfl) fun a' w' B r hd A D hk=>?_);simp only[Exit.then]
 apply_assumption
 go_wp2;refine bodyPost_ret (results_tmp rfl _ _ _) hd ?_;exact⟨B,r,congrArg Ending.returned A,D,hk⟩
end Head
namespace Head
open cN Hp Go.Proofs.YtdhibldkldlfpaaGreatDoor.Mp Go.Lib
theorem xf (a b:List UInt8):str a++str b=str (a++b):=by
 apply ByteArray.ext;simp[str,ByteArray.data_append]
theorem G8 (l:List UInt8):(0≤Lib.indexByte l 0→l.take (Lib.indexByte l 0).toNat=aK l∧(Lib.indexByte l 0).toNat≤l.length)∧(¬0≤Lib.indexByte l 0→aK l=l):=by
 induction l with
 |nil=>exact⟨fun h=>by simp[Lib.indexByte]at h,fun _=>rfl⟩
 |cons b l ih=>
  have E:=Lib.indexByte_ge l 0
  by_cases A:b=0
  ·subst A
   have e:Lib.indexByte ((0:UInt8)::l) 0=0:=by simp[Lib.indexByte]
   rw[e];exact⟨fun _=>⟨by simp[aK],by simp⟩,fun h=>absurd (by omega) h⟩
  ·have B:(b==0)=false:=by simpa using A
   have hu:aK (b::l)=b::aK l:=by
    unfold aK;rw[List.takeWhile_cons,if_pos (by simpa using A)]
   by_cases hi:Lib.indexByte l 0=-1
   ·have e:Lib.indexByte (b::l) 0=-1:=by simp[Lib.indexByte,B,hi]
    rw[e,hu];refine⟨fun h=>absurd h (by omega),fun _=>?_⟩;rw[ih.2 (by omega)]
   ·have D:(Lib.indexByte l 0==-1)=false:=by simpa using hi
    have e:Lib.indexByte (b::l) 0=Lib.indexByte l 0+1:=by simp[Lib.indexByte,B,D]
    obtain⟨h1,G⟩:=ih.1 (by omega);rw[e,hu,show(Lib.indexByte l 0+1).toNat=(Lib.indexByte l 0).toNat+1 by omega];exact⟨fun _=>⟨by rw[List.take_succ_cons,h1],by rw[List.length_cons];omega⟩,fun h=>absurd (by omega) h⟩
theorem H9 (b o n c b2:Nat) (bs:List UInt8) (w:World) (hn:bs.length=n) (hc:n≤c) (hm:n≤140737488351232) (h:cK w (some ⟨b,o,none⟩) n bs) (h2:w.cell? ⟨b2,0,none⟩=some (.int .u8 0)):
 Calls Tryz.prog 109 #[.slice (some ⟨b,o,none⟩) n c,.slice (some ⟨b2,0,none⟩) 1 1] w fun e w'=>∃v2 v3,e=.returned (.tuple #[.slice (some ⟨b,o,none⟩) (aK bs).length c,v2,v3])∧Kept ai w w':=by
 have hu:=G8 bs;have D:bytesOf (nums bs)=bs:=jA bs
 have B:=Any.bytes_Index_one Tryz.kE.index b o n c b2 0 1 (nums bs) 0 w (by rw[eQ,hn]) (fun i hi=>by
  obtain⟨I,L,he,hcell⟩:=h (by omega)
  cases he
  rw[hcell i hi]
  simp[nums,List.getD,Qd (show i<bs.length by omega)]) h2
 rw[D,show(0:Int).toNat.toUInt8=0 from rfl]at B
 have G:0≤Lib.indexByte bs 0→Lib.indexByte bs 0+(1:Nat)≤n:=fun A=>by
  obtain⟨k,hk⟩:∃k:Nat,Lib.indexByte bs 0=k:=⟨(Lib.indexByte bs 0).toNat,by omega⟩
  have:=(Lib.indexByte_some hk).1;have H:=(List.getElem?_eq_some_iff.1 this).1;omega
 refine(Any.bytes_Cut_of Tryz.kE (some ⟨b,o,none⟩) (some ⟨b2,0,none⟩) n c 1 1 (Lib.indexByte bs 0) w hc (Lib.indexByte_ge _ _) G (by omega) (B.mono fun e w' he=>⟨he.1,0,he.2⟩)).mono ?_;rintro e w' ⟨rfl,q,rfl⟩;unfold Lib.cutV
 by_cases A:0≤Lib.indexByte bs 0
 ·rw[if_pos A]
  obtain⟨E,J⟩:=hu.1 A;refine⟨_,_,congrArg (fun k=>Ending.returned (.tuple #[.slice (some ⟨b,o,none⟩) k c,_,_])) ?_,(Kept.refl _ _).drewN _⟩;rw[←E,Qg];omega
 ·rw[if_neg A]
  refine⟨_,_,congrArg (fun k=>Ending.returned (.tuple #[.slice (some ⟨b,o,none⟩) k c,_,_])) ?_,(Kept.refl _ _).drewN _⟩;rw[hu.2 A,hn]
theorem gS (bs:List UInt8):(aK bs).length≤bs.length∧bs.take (aK bs).length=aK bs:=by
 have h:aK bs<+:bs:=List.takeWhile_prefix _;exact⟨h.length_le,(List.prefix_iff_eq_take.1 h).symm⟩
theorem gR (lo B:Nat) (r:Nat→Nat) (own:Nat→List UInt8) (i:Nat) (w:World) (hi:i<11) (hP:bD w lo B r own):
 Calls Tryz.prog 106 #[.map (some B),.int .i64 (i:Int)] w fun e w'=>e=.returned (.string (str (aK (own i))))∧Kept ai w w':=by
 have J:=iv;have A:=Qh hP
 have L:(Instr.lookup 166 (.map (some B)) (.int .i64 (i:Int)) false).run Tryz.prog w=.ok (.agg #[.int .i64 (fF i),.slice (some ⟨r i,0,none⟩) (aj i) (aj i)]) w:=
  hP.map.look (P:=Tryz.prog) Tryz.underlying166 Tryz.underlying170 (x:=i) (v:=dw r i) (by unfold jy;rw[if_pos hi])
 have hw:=lO hi;have D:=Qh ((Kept.refl ai w).alloc (.cells #[.int .u8 0] 5));have H:=Qh hw;clear hP hw
 go_enter Tryz.func106,Tryz.ntmps106
 go_wp2_with fail
 refine(H9 (r i) 0 (aj i) (aj i) w.heap.size (own i) _ (A.out.fit i) (Qk _) (by have:=H.out;omega) ((A.out.du D.out).gC hi) (by
  rw[World.cell?_alloc_at _ _ _ _ rfl];rfl)).mono ?_
 rintro e w1 ⟨v2,v3,rfl,hk⟩;have E:=gS (own i)
 have cs:(convert 26 9 (.slice (some ⟨r i,0,none⟩) (aK (own i)).length (aj i))).run Tryz.prog w1=.ok (.string (str (aK (own i)))) w1:=by
  refine cw ?_ rfl _ _ _ Tryz.underlying26 Tryz.underlying5 Tryz.underlying9 _;have I:=((A.out.du D.out).du hk).gC hi;have:=I.take (k:=(aK (own i)).length) (by rw[←A.out.fit i];exact E.1)
  rwa [E.2]at this
 have G:=Qh (D.out.trans hk);clear hk E;go_wp2;go_ret;exact⟨rfl,G.out⟩
def yM (l:List UInt8):UInt8:=if l.getD 0 0=0 then 48 else l.getD 0 0
theorem OS (lo B:Nat) (r:Nat→Nat) (own:Nat→List UInt8) (w:World) (hP:bD w lo B r own):
 Calls Tryz.prog 107 #[.map (some B)] w fun e w'=>e=.returned (.int .u8 ((yM (own 7)).toNat:Int))∧w=w':=by
 unfold yM;have J:=iv
 have L:(Instr.lookup 166 (.map (some B)) (.int .i64 7) false).run Tryz.prog w=.ok (.agg #[.int .i64 156,.slice (some ⟨r 7,0,none⟩) 1 1]) w:=
  hP.map.look (P:=Tryz.prog) Tryz.underlying166 Tryz.underlying170 (x:=7) (v:=dw r 7) rfl
 have hc:=(hP.row 7 (by omega)).cell 0 (by rw[hP.fit 7];decide);generalize H:(own 7).getD 0 0=X at*;obtain⟨x,G⟩:∃x:Int,x=(X.toNat:Int):=⟨_,rfl⟩
 rw[←G]at hc;have A:=Qh G;clear hP H G
 by_cases D:x=0
 ·have E:Hid (X=0):=Qh (UInt8.toNat_inj.1 (by have:=A.out;simp;omega))
  have I:(x==0)=true:=by simpa using D
  go_enter Tryz.func107,Tryz.ntmps107
  go_wp2;go_ret
  first|exact⟨rfl,rfl⟩|(rw[E.out];exact⟨rfl,rfl⟩)
 ·have E:Hid (X≠0):=Qh (fun e=>D (by rw[A.out,e];rfl))
  have I:(x==0)=false:=by simpa using D
  go_enter Tryz.func107,Tryz.ntmps107
  go_wp2;go_ret
  first|(rw[←A.out];exact⟨rfl,rfl⟩)|(rw[if_neg E.out,←A.out];exact⟨rfl,rfl⟩)
theorem Pm (lo B:Nat) (r:Nat→Nat) (own:Nat→List UInt8) (fL:Bool) (w:World) (hP:bD w lo B r own):
 Calls Tryz.prog 105 #[.map (some B),.bool fL] w fun e w'=>e=.returned (.string (str (lG (aK (own 10)) (aK (own 0)) fL)))∧Kept ai w w':=by
 have H:=Qh hP;have hu:=gS (own 10);have R:=gS (own 0);have W:=H.out.fit 10;have V:=H.out.fit 0;obtain⟨p,T⟩:∃p,p=aK (own 10):=⟨_,rfl⟩
 obtain⟨s,hs⟩:∃s,s=aK (own 0):=⟨_,rfl⟩
 have Z:(str p).size≤155:=by rw[ak,T];have:=hu.1;simp only[aj]at W;omega
 have Y:(str s).size≤100:=by rw[ak,hs];have:=R.1;simp only[aj]at V;omega
 have N:=Qh T;have L:=Qh hs;clear hP hu R W V T hs;rw[←N.out,←L.out]
 by_cases h0:p=[]∨fL=true
 ·have E:Hid (lG p s fL=s):=Qh (if_pos (by rcases h0 with h|h;exact Or.inr h;exact Or.inl h))
  rcases h0 with h0|h0
  ·have O:str p=⟨#[]⟩:=congrArg str h0
   go_enter Tryz.func105,Tryz.ntmps105
   go_wp2_with fail
   refine(gR lo B r own 10 w (by omega) H.out).mono ?_;rintro e J ⟨rfl,D⟩;rw[←N.out,O];have G:=Qh D;clear D;go_wp2_with fail;refine(gR lo B r own 0 J (by omega) (H.out.du G.out)).mono ?_;rintro e U ⟨rfl,A⟩;rw[←L.out];have I:=Qh (G.out.trans A);clear A;go_wp2;go_ret;rw[E.out];exact⟨rfl,I.out⟩
  ·subst h0
   by_cases M:p=[]
   ·have O:str p=⟨#[]⟩:=congrArg str M
    go_enter Tryz.func105,Tryz.ntmps105
    go_wp2_with fail
    refine(gR lo B r own 10 w (by omega) H.out).mono ?_;rintro e J ⟨rfl,D⟩;rw[←N.out,O];have G:=Qh D;clear D;go_wp2_with fail;refine(gR lo B r own 0 J (by omega) (H.out.du G.out)).mono ?_;rintro e U ⟨rfl,A⟩;rw[←L.out];have I:=Qh (G.out.trans A);clear A;go_wp2;go_ret;rw[E.out];exact⟨rfl,I.out⟩
   ·have O:(str p).toList.isEmpty=false:=by rw[av];simpa using M
    go_enter Tryz.func105,Tryz.ntmps105
    go_wp2_with fail
    refine(gR lo B r own 10 w (by omega) H.out).mono ?_;rintro e J ⟨rfl,D⟩;rw[←N.out];have G:=Qh D;clear D;go_wp2_with fail;refine(gR lo B r own 0 J (by omega) (H.out.du G.out)).mono ?_;rintro e U ⟨rfl,A⟩;rw[←L.out];have I:=Qh (G.out.trans A);clear A;go_wp2;go_ret;rw[E.out];exact⟨rfl,I.out⟩
 ·have M:p≠[]:=fun e=>h0 (Or.inl e)
  have X:fL=false:=by cases fL with
   |false=>rfl
   |true=>exact absurd (Or.inr rfl) h0
  subst X
  have E:Hid (str (lG p s false)=str p++⟨#[47]⟩++str s):=Qh (by
   rw[lG,if_neg (by simp[M]),show(⟨#[47]⟩:ByteArray)=str [47]from rfl,xf,xf]
   simp)
  have O:(str p).toList.isEmpty=false:=by rw[av];simpa using M
  go_enter Tryz.func105,Tryz.ntmps105
  go_wp2_with fail
  refine(gR lo B r own 10 w (by omega) H.out).mono ?_;rintro e J ⟨rfl,D⟩;rw[←N.out];have G:=Qh D;clear D;go_wp2_with fail;refine(gR lo B r own 0 J (by omega) (H.out.du G.out)).mono ?_;rintro e U ⟨rfl,A⟩;rw[←L.out];have I:=Qh (G.out.trans A);clear A;go_wp2;go_ret;rw[E.out];exact⟨rfl,I.out⟩
theorem Wt (bs:List UInt8):(0:Int)=(bN bs 0:Nat):=by rw[bN];rfl
theorem aj3 (bs:List UInt8):(0:Int)=(dc bs 0:Nat):=by rw[dc];rfl
theorem sj (p:Option Addr) (n c:Nat) (bs:List UInt8) (w:World) (hm:n≤140737488351232) (h:cK w p n bs):
 Calls Tryz.prog 99 #[.slice p n c] w fun e w'=>e=.returned (.int .i64 (bN bs n:Nat))∧w=w':=by
 have H:=Qh h;clear h
 go_enter Tryz.func99,Tryz.ntmps99
 go_wp2
 go_loop [3,8] (fun s i=>∃(k:Nat) (m:Int),k≤n∧0≤m∧m≤255*k∧i=.int .i64 k∧s=.int .i64 m∧Hid (m=(bN bs k:Nat))) (fun _ i=>n - (RowKit.intOf i).toNat)
 case atStart=>exact⟨0,0,Nat.zero_le _,by omega,by omega,rfl,rfl,Qh (Wt bs)⟩
 case round=>
  obtain⟨k,m,hk,L,h1,rfl,rfl,E⟩:=hrel
  by_cases D:k<n
  ·obtain⟨b,o,rfl,M,hcell⟩:=H.out.cell D
   have hc:=hcell k D;clear hcell;obtain⟨x,A⟩:∃x:Int,x=((bs.getD k 0).toNat:Int):=⟨_,rfl⟩
   rw[←A]at hc;have B:=zy (bs.getD k 0);rw[←A]at B;have G:=Qh A;clear A;obtain⟨J,N⟩:=B;go_wp2
   go_round
   case rel=>exact⟨k+1,m+x,by omega,by omega,by omega,by go_num,rfl,Qh (by rw[E.out,G.out,bN];omega)⟩
   case measure=>simp[RowKit.intOf];omega
  ·have I:Hid (k=n):=Qh (by omega)
   go_wp2;go_ret;rw[E.out,I.out];exact⟨rfl,rfl⟩
theorem AZ (lo B:Nat) (r:Nat→Nat) (own:Nat→List UInt8) (p:Option Addr) (n c:Nat) (bs:List UInt8) (w:World) (hm:n≤140737488351232) (h:cK w p n bs) (hP:bD w lo B r own):
 Calls Tryz.prog 103 #[.map (some B),.slice p n c] w fun e w'=>e=.returned (.int .i64 ((bN bs n:Nat) - (bN (own 6) 8:Nat)+256))∧w=w':=by
 have H:=Qh h;have I:=iv;have A:=Qh hP
 have L:(Instr.lookup 166 (.map (some B)) (.int .i64 6) false).run Tryz.prog w=.ok (.agg #[.int .i64 148,.slice (some ⟨r 6,0,none⟩) 8 8]) w:=
  hP.map.look (P:=Tryz.prog) Tryz.underlying166 Tryz.underlying170 (x:=6) (v:=dw r 6) rfl
 have h1:=kh bs n;have J:=kh (own 6) 8;generalize D:bN bs n=X at*;generalize E:bN (own 6) 8=Y at*;clear h hP
 go_enter Tryz.func103,Tryz.ntmps103
 go_wp2_with fail
 refine(sj p n c bs w hm H.out).mono ?_;rintro e G ⟨rfl,rfl⟩;rw[D];go_wp2_with fail;refine(sj _ 8 8 (own 6) w (by decide) (A.out.gC (i:=6) (by omega))).mono ?_;rintro e G ⟨rfl,rfl⟩;rw[E];go_wp2;go_ret;exact⟨rfl,rfl⟩
theorem PZ (p:Option Addr) (n c:Nat) (bs:List UInt8) (w:World) (hm:n≤140737488351232) (h:cK w p n bs):
 Calls Tryz.prog 64 #[.slice p n c] w fun e w'=>e=.returned (.int .i64 (dc bs n:Nat))∧w=w':=by
 have H:=Qh h;clear h
 go_enter Tryz.func64,Tryz.ntmps64
 go_wp2
 go_loop [3,4] (fun s i=>∃(k:Nat) (m:Int),k≤n∧0≤m∧m≤255*k∧i=.int .i64 k∧s=.int .i64 m∧Hid (m=(dc bs k:Nat))) (fun _ i=>n - (RowKit.intOf i).toNat)
 case atStart=>exact⟨0,0,Nat.zero_le _,by omega,by omega,rfl,rfl,Qh (aj3 bs)⟩
 case round=>
  obtain⟨k,m,hk,N,h1,rfl,rfl,A⟩:=hrel
  by_cases J:k<n
  ·obtain⟨b,o,rfl,O,hcell⟩:=H.out.cell J
   have hc:=hcell k J;clear hcell;obtain⟨x,B⟩:∃x:Int,x=((bs.getD k 0).toNat:Int):=⟨_,rfl⟩
   rw[←B]at hc;have G:=zy (bs.getD k 0);rw[←B]at G;have I:=Qh B;clear B;obtain⟨M,R⟩:=G
   by_cases D:148≤k∧k<156
   ·have E:=D
    obtain⟨g1,g2⟩:=E;go_wp2
    go_round
    case rel=>exact⟨k+1,m+32,by omega,by omega,by omega,by go_num,rfl,Qh (by rw[A.out,dc,if_pos D];omega)⟩
    case measure=>simp[RowKit.intOf];omega
   ·rcases Nat.lt_or_ge k 148 with g1|g1
    ·go_wp2
     go_round
     case rel=>exact⟨k+1,m+x,by omega,by omega,by omega,by go_num,rfl,Qh (by rw[A.out,I.out,dc,if_neg D];omega)⟩
     case measure=>simp[RowKit.intOf];omega
    ·have g2:156≤k:=by omega
     go_wp2
     go_round
     case rel=>exact⟨k+1,m+x,by omega,by omega,by omega,by go_num,rfl,Qh (by rw[A.out,I.out,dc,if_neg D];omega)⟩
     case measure=>simp[RowKit.intOf];omega
  ·have L:Hid (k=n):=Qh (by omega)
   go_wp2;go_ret;rw[A.out,L.out];exact⟨rfl,rfl⟩
end Head
end Go.Proofs.YtdhibldkldlfpaaGreatDoor
