/- Merged. -/
import Derived.Test.YtdhibldkldlfpaaGreatDoorEmitUnpacksX12
import Derived.Maps.RangeRun
import Derived.Maps.RangeWalk
import Derived.Test.YtdhibldkldlfpaaGreatDoorEmitUnpacksX13
import Derived.Test.YtdhibldkldlfpaaGreatDoorEmitUnpacksX7
namespace Go.Proofs.YtdhibldkldlfpaaGreatDoor
set_option linter.unusedVariables false
set_option maxRecDepth 100000
open Go.ChangeShapes Go.WideShapes Go.ChangeAt Go.RowKit Base cb
variable {S:Nat→Prop}
namespace Mp
open Go.MapKept
def sD (k:Nat):Value:=.int .i64 k
theorem yg {a b:Nat} (h:sD a=sD b):a=b:=by unfold sD at h;injection h with _ h;omega
def rE (w:World) (B:Nat) (f:Nat→Option Value):Prop:=
 ∃es clock,w.heap[B]? =some (.map es clock)∧Stamped es clock∧(∀e∈es.toList,∃k,e.key=sD k∧f k=some e.val)∧(∀k v,f k=some v→∃e∈es.toList,e.key=sD k)
def oY (w:World) (B R:Nat) (f:Nat→Option Value) (todo:Nat→Bool):Prop:=
 ∃es clock since seen c0,w.heap[B]? =some (.map es clock)∧Stamped es clock∧(∀e∈es.toList,∃k,e.key=sD k∧f k=some e.val)∧(∀k v,f k=some v→∃e∈es.toList,e.key=sD k)∧
  w.heap[R]? =some (.mapIter (some B) since seen c0)∧(∀x∈es.toList,x.born<since)∧since≤c0∧since≤clock∧(∀x∈es.toList,∀k,x.key=sD k→todo k=!seen.contains x.born)
section
variable {w w':World} {B R:Nat} {f:Nat→Option Value} {todo:Nat→Bool}
theorem rE.lt (h:rE w B f):B<w.heap.size:=by
 obtain⟨es,clock,A,_⟩:=h;exact(Array.getElem?_eq_some_iff.1 A).1
theorem rE.kept (h:rE w B f) (hk:Kept S w w') (hB:¬S B):rE w' B f:=by
 obtain⟨es,clock,A,h⟩:=h;exact⟨es,clock,hk.some_ A hB,h⟩
theorem oY.map (h:oY w B R f todo):rE w B f:=by
 obtain⟨es,clock,since,seen,c0,D,hs,h1,A,_⟩:=h;exact⟨es,clock,D,hs,h1,A⟩
theorem oY.kept (h:oY w B R f todo) (hk:Kept S w w') (hB:¬S B) (hR:¬S R):oY w' B R f todo∧w'.rangeLeft B R=w.rangeLeft B R:=by
 obtain⟨es,clock,since,seen,c0,E,hs,h1,H,G,I⟩:=h;have D:=hk.some_ E hB;have A:=hk.some_ G hR;exact⟨⟨es,clock,since,seen,c0,D,hs,h1,H,A,I⟩,by simp only[World.rangeLeft,E,G,D,A]⟩
theorem zr (w:World):rE (w.alloc (.map #[] 0)) w.heap.size (fun _=>none):=
 ⟨#[],0,(MapKept.heap_alloc w _).1,stamped_empty 0,by simp,by simp⟩
theorem wE {o o':Obj} (hb:w.heap[B]? =some o):Kept (aA B) w (Go.ChangeMaps.setBlock w B o'):=
 ⟨rfl,rfl,rfl,by simp[Go.ChangeMaps.setBlock],fun k hk A=>(MapKept.heap_set hb).2 k A⟩
variable {P:Program} {t k e:TypeId}
theorem ph (x:Nat):IsKey (.int .i64) (sD x):=rfl
theorem rE.put (h:rE w B f) (ht:P.underlying t=some (.map k e)) (hk:P.underlying k=some (.int .i64)) (x:Nat) (v:Value) (hx:f x=none):
 ∃w',(Instr.mapUpdate t (.map (some B)) (sD x) v).run P w=.ok () w'∧rE w' B (fun y=>if y=x then some v else f y)∧Kept (aA B) w w'∧w'.heap.size=w.heap.size:=by
 obtain⟨es,clock,E,hs,h1,I⟩:=h
 have G:∀y∈es.toList,y.key≠sD x:=fun y hy H=>by
  obtain⟨j,A,hf⟩:=h1 y hy;have:=yg (A.symm.trans H);subst this;rw[hx]at hf
  cases hf
 have J:Instr.findNow (.int .i64) (sD x) es.toList 0=some none:=by
  rcases findNow_spec (ph x) es.toList 0 (fun y hy=>by obtain⟨j,A,_⟩:=h1 y hy;rw[A];exact ph j)with⟨h,_⟩|⟨j,e0,_,h3,h4⟩
  ·exact h
  ·exact absurd h4 (G e0 (List.mem_of_getElem? h3))
 refine⟨Go.ChangeMaps.setBlock w B (.map (es.push {key:=sD x,val:=v,born:=clock}) (clock+1)),?_,⟨_,_,(MapKept.heap_set E).1,stamped_push hs G,?_,?_⟩,wE E,by simp[Go.ChangeMaps.setBlock]⟩
 ·simp[Instr.mapUpdate,run_underlying ht,MapKept.run_getObj_map E,run_checkKey hk (ph x),run_findKey hk J,MapKept.run_setObj_map _ E,Result.andThen,Go.ChangeMaps.setBlock]
 ·intro y hy
  simp only[Array.toList_push,List.mem_append,List.mem_singleton]at hy;rcases hy with hy|rfl
  ·obtain⟨j,A,hf⟩:=h1 y hy
   refine⟨j,A,?_⟩;show(if j=x then some v else f j)=_;rw[if_neg (fun e=>G y hy (by rw[A,e]))];exact hf
  ·exact⟨x,rfl,by show(if x=x then some v else f x)=_;rw[if_pos rfl]⟩
 ·intro j u A
  simp only[Array.toList_push,List.mem_append,List.mem_singleton];have A:(if j=x then some v else f j)=some u:=A
  by_cases D:j=x
  ·exact⟨_,Or.inr rfl,by rw[D]⟩
  ·rw[if_neg D]at A
   obtain⟨y,hy,hk⟩:=I j u A;exact⟨y,Or.inl hy,hk⟩
theorem rE.look (h:rE w B f) (ht:P.underlying t=some (.map k e)) (hk:P.underlying k=some (.int .i64)) {x:Nat} {v:Value} (hx:f x=some v):
 (Instr.lookup t (.map (some B)) (sD x) false).run P w=.ok v w:=by
 obtain⟨es,clock,I,hs,h1,H⟩:=h;obtain⟨G,A,M⟩:=H x v hx;rcases findNow_spec (ph x) es.toList 0 (fun y hy=>by obtain⟨j,J,_⟩:=h1 y hy;rw[J];exact ph j)with⟨_,oH⟩|⟨j,e0,kj,h3,h4⟩
 ·exact absurd M (oH G A)
 ·have L:e0.val=v:=by
   obtain⟨j',E,hf⟩:=h1 e0 (List.mem_of_getElem? h3);have:=yg (E.symm.trans h4);subst this;rw[hx]at hf;exact(Option.some.inj hf).symm
  have D:Instr.findNow (.int .i64) (sD x) es.toList 0=some (some (0+j,e0.val)):=by simpa using kj
  simp[Instr.lookup,run_underlying ht,MapKept.run_getObj_map I,run_checkKey hk (ph x),run_findKey hk D,Result.andThen,L]
theorem rE.range (h:rE w B f) (ht:P.underlying t=some (.map k e)) (UQ:∀j v,f j=some v→todo j=true):
 ∃w',(Instr.range t (.map (some B))).run P w=.ok (.pointer (some ⟨w.heap.size,0,none⟩)) w'∧oY w' B w.heap.size f todo∧Kept ag w w'∧w'.heap.size=w.heap.size+1:=by
 have E:=h.lt;obtain⟨es,clock,A,hs,h1,G⟩:=h;refine⟨_,run_range_map w t k e B es clock ht A,⟨es,clock,clock,#[],clock,((MapKept.heap_alloc w _).2 B E).trans A,hs,h1,G,(MapKept.heap_alloc w _).1,hs.1,Qk _,Qk _,?_⟩,(Kept.refl _ _).alloc _,by simp⟩;intro x I j H;obtain⟨j',D,hf⟩:=h1 x I;have:=yg (D.symm.trans H);subst this;simp[UQ _ _ hf]
theorem oY.next (h:oY w B R f todo) (ty:TypeId):
 ((∀j v,f j=some v→todo j=false)∧(Instr.next (.pointer (some ⟨R,0,none⟩)) false ty).run P w=.ok (.tuple #[.bool false]) w)∨
 ∃j v w',f j=some v∧todo j=true∧(Instr.next (.pointer (some ⟨R,0,none⟩)) false ty).run P w=.ok (.tuple #[.bool true,sD j,v]) w'∧oY w' B R f (fun z=>todo z&&z != j)∧w'.rangeLeft B R<w.rangeLeft B R∧
  Kept (aA R) w w'∧w'.heap.size=w.heap.size∧(Instr.entry (.pointer (some ⟨R,0,none⟩))).run P w'=.ok (.tuple #[sD j,v]) w':=by
 obtain⟨es,clock,since,seen,c0,M,hs,h1,Y,I,hold,V,J,D⟩:=h;have T:B≠R:=fun e=>by subst e;rw[M]at I;cases I
 rcases run_next_at (P:=P) w ty R B since c0 seen es clock I M hold V with⟨h0,jO⟩|⟨e,he,w1,SQ,jO⟩
 ·refine Or.inl ⟨fun j v A=>?_,jO⟩
  obtain⟨x,G,hk⟩:=Y j v A;rw[D x G j hk,all_seen es seen h0 x G];rfl
 ·obtain⟨H,U⟩:=mem_left he
  obtain⟨j,A,hf⟩:=h1 e H;have N:w1.heap[R]? =some (.mapIter (some B) since seen c0):=by rcases SQ with rfl|rfl<;>exact I
  have Z:w1.heap[B]? =some (.map es clock):=by rcases SQ with rfl|rfl<;>exact M
  have g:Kept (aA R) w w1:=by
   rcases SQ with rfl|rfl
   ·exact Kept.refl _ _
   ·exact(Kept.refl _ _).drew
  have X:(Go.ChangeMaps.setBlock w1 R (.mapIter (some B) since (seen.push e.born) clock)).heap[R]? =some (.mapIter (some B) since (seen.push e.born) clock):=(MapKept.heap_set N).1;have O:(Go.ChangeMaps.setBlock w1 R (.mapIter (some B) since (seen.push e.born) clock)).heap[B]? =some (.map es clock):=((MapKept.heap_set N).2 B T).trans Z
  have W:(Go.ChangeMaps.setBlock w1 R (.mapIter (some B) since (seen.push e.born) clock)).heap.size=w.heap.size:=by
   have:w1.heap.size=w.heap.size:=by rcases SQ with rfl|rfl<;>rfl
   simp[Go.ChangeMaps.setBlock,this]
  rw[A]at jO;refine Or.inr ⟨j,e.val,_,hf,?_,jO,⟨es,clock,since,seen.push e.born,clock,O,hs,h1,Y,X,hold,J,J,?_⟩,?_,g.trans (wE N),W,?_⟩
  ·rw[D e H j A,U];rfl
  ·intro x G i hi
   show(todo i&&i != j)=!(seen.push e.born).contains x.born;rw[D x G i hi,contains_push,Bool.not_or]
   congr 1
   by_cases L:i=j
   ·have E:x=e:=entry_eq_of_key ((stamped_iff es clock).1 hs).2.2 G H (by rw[hi,A,L])
    subst E;simp[L]
   ·have E:x.born≠e.born:=fun d=>L (by
     obtain rfl:=born_inj hs.2.1 G H d
     exact yg (hi.symm.trans A))
    have b:(x.born==e.born)=false:=by simpa using E
    have c:(i != j)=true:=by simpa using L
    rw[b,c];rfl
  ·simp only[World.rangeLeft,M,I,O,X]
   exact left_shrinks es seen e he
  ·rw[←A]
   exact run_entry_at _ R B since seen es clock e X O H hs.2.1
end
section
variable {P:Program} {w:World} {ops:Array Oper} {rest:List Oper} {o:Oper} {a:Act} {Q:Exit→Act→World→Prop} {f:Nat→Option Value} {t k e:TypeId}
theorem kg (hg:o.guard=none) (m x v:Operand) (bk:o.op=.mapUpdate t m x v∨o.op=.insert t m x v) (ht:P.underlying t=some (.map k e)) (hk:P.underlying k=some (.int .i64))
 (B:Nat) (h:rE w B f) (hm:a.eval m=.map (some B)) (key:Nat) (hx:a.eval x=sD key) (hf:f key=none) (val:Value) (hv:a.eval v=val)
 (hK:∀w',Hid (rE w' B (fun y=>if y=key then some val else f y))→Hid (Kept (aA B) w w')→w'.heap.size=w.heap.size→wpList P ops Q rest (a.put o.dst undef) w'):wpList P ops Q (o::rest) a w:=by
 refine wpList_plain hg fun G hK'=>?_
 subst hv;obtain⟨w',E,h1,A,D⟩:=h.put ht hk key (a.eval v) hf;unfold Oper.wp;rcases bk with bk|bk
 ·simp[execOp,bk,hm,hx,E,Result.andThen]
  exact hK' _ _ (hK w' (Qh h1) (Qh A) D)
 ·simp[execOp,bk,hm,hx,E,Result.andThen]
  exact hK' _ _ (hK w' (Qh h1) (Qh A) D)
theorem pG (hg:o.guard=none) (m:Operand) (bk:o.op=.range t m) (ht:P.underlying t=some (.map k e)) (B:Nat) (h:rE w B f) (todo:Nat→Bool) (UQ:∀j v,f j=some v→todo j=true) (hm:a.eval m=.map (some B)) (R:Nat) (hR:R=w.heap.size)
 (hK:∀w',Hid (oY w' B R f todo)→Hid (Kept ag w w')→w'.heap.size=w.heap.size+1→wpList P ops Q rest (a.put o.dst (.pointer (some ⟨R,0,none⟩))) w'):wpList P ops Q (o::rest) a w:=by
 subst hR;refine wpList_plain hg fun G hK'=>?_
 obtain⟨w',E,h1,A,D⟩:=h.range (P:=P) ht UQ;unfold Oper.wp;simp[execOp,bk,hm,E,Result.andThen];exact hK' _ _ (hK w' (Qh h1) (Qh A) D)
theorem qB (hg:o.guard=none) (it:Operand) (bk:o.op=.next it false) (B R:Nat) (todo:Nat→Bool) (mkV:Nat→Value) (hf:∀j v,f j=some v→v=mkV j) (hit:a.eval it=.pointer (some ⟨R,0,none⟩)) (h:oY w B R f todo)
 (al8:(∀j v,f j=some v→todo j=false)→wpList P ops Q rest (a.put o.dst (.tuple #[.bool false])) w)
 (al9:∀(j:Nat) (w':World) (v:Value),f j=some v→todo j=true→Hid (oY w' B R f (fun z=>todo z&&z != j))→Hid (w'.rangeLeft B R<w.rangeLeft B R)→Hid (Kept (aA R) w w')→w'.heap.size=w.heap.size→
  (Instr.entry (.pointer (some ⟨R,0,none⟩))).run P w'=.ok (.tuple #[.int .i64 j,mkV j]) w'→wpList P ops Q rest (a.put o.dst (.tuple #[.bool true,.int .i64 j,mkV j])) w'):wpList P ops Q (o::rest) a w:=by
 refine wpList_plain hg fun A hK'=>?_
 unfold Oper.wp;rcases h.next (P:=P) o.type with⟨h0,jO⟩|⟨j,v,w',hj,Yj,jO,hi,ay,E7,hsz,X6⟩
 ·simp[execOp,bk,hit,jO,Result.andThen]
  exact hK' _ _ (al8 h0)
 ·obtain rfl:=hf j v hj
  simp[execOp,bk,hit,jO,Result.andThen];exact hK' _ _ (al9 j w' _ hj Yj (Qh hi) (Qh ay) (Qh E7) hsz X6)
end
end Mp
namespace Mp
open Go.MapKept Hp Go.Lib
variable {cs:Array Value} {i:Nat} {e:TypeId}
theorem bC {w:World} {g:Nat} (h:w.heap[g]? =some (.cells cs e (0,0))) (i:Nat):w.cell? ⟨g,i,none⟩=cs[i]? :=by
 simp[World.cell?,h]
theorem ct {w:World} {g:Nat} (h:w.heap[g]? =some (.cells cs e (0,0))) (i:Nat):w.frozen? ⟨g,i,none⟩=false:=by
 simp[World.frozen?,h]
def bv (x:UInt8):Value:=.int .u8 (x.toNat:Int)
def kU (w:World) (g:Nat) (bs:List UInt8):Prop:=w.heap[g]? =some (.cells (bs.map bv).toArray 5 (0,0))
section
variable {w w':World} {g:Nat} {bs:List UInt8}
theorem kU.lt (h:kU w g bs):g<w.heap.size:=(Array.getElem?_eq_some_iff.1 h).1
theorem kU.kept (h:kU w g bs) (hk:Kept S w w') (hg:¬S g):kU w' g bs:=hk.some_ h hg
theorem kU.nB (h:kU w g bs):iC w (some ⟨g,0,none⟩) bs.length bs:=fun _=>⟨g,0,rfl,fun i hi=>by
 simp only[World.cell?,kU]at h⊢;rw[h]
 simp[List.getD,hi,bv]⟩
theorem kU.cell (h:kU w g bs) (i:Nat) (hi:i<bs.length):w.cell? ⟨g,i,none⟩=some (.int .u8 ((bs.getD i 0).toNat:Int)):=by
 obtain⟨b,o,he,hc⟩:=h.nB (by omega)
 cases he
 have:=hc i hi
 rwa [Nat.zero_add]at this
theorem kU.frozen (h:kU w g bs) (i:Nat):w.frozen? ⟨g,i,none⟩=false:=by
 simp only[World.frozen?,kU]at h⊢;rw[h];rfl
theorem JI (n:Nat):madeCells #[Value.int .u8 0] n=((List.replicate n (0:UInt8)).map bv).toArray:=by
 apply Array.toList_inj.1;rw[toList_madeCells_one,List.map_replicate];rfl
theorem R7 (w:World) (n:Nat):kU (w.alloc (.cells (madeCells #[Value.int .u8 0] n) 5)) w.heap.size (List.replicate n 0):=by
 unfold kU;rw[JI];exact heap_alloc_new w _
theorem VZ {B n:Nat} (h:w.ownsRow B 5 1 (.slice (some ⟨g,0,none⟩) n n) n (madeCells (Value.int .u8 0).cells (n*1)).toList):kU w g (List.replicate n 0):=by
 rcases h.2 with⟨h1,_⟩|⟨g',cap,cur,he,_,hb,_,_,hs,ht⟩
 ·cases h1
 ·cases he
  unfold kU;rw[hb]
  congr 2
  rw[←JI];apply Array.toList_inj.1;rw[List.take_of_length_le (by simp[hs])]at ht;rw[ht,Nat.mul_one];rfl
end
theorem Sa {P:Program} {w:World} (dT sT ty elem:TypeId) (hu:P.underlying dT=some (.slice elem)) (hsz:(P.info? elem).map (·.size)=some 1) (dp sp:Option Addr) (rY B9 Kp Sc:Nat)
 (g off:Nat) (bs:List UInt8) (hg:kU w g bs) (cs:List UInt8) (hn:cs.length=Nat.min Kp rY) (D9:0<cs.length→dp=some ⟨g,off,none⟩) (GO:iC w sp cs.length cs) (qw:off+cs.length≤bs.length):
 ∃w',(Builtin.copy_ #[dT,sT] ty #[.slice dp rY B9,.slice sp Kp Sc]).run P w=.ok (goInt cs.length) w'∧kU w' g (splice bs off cs)∧Kept (aA g) w w'∧w'.heap.size=w.heap.size:=by
 by_cases E:cs.length=0
 ·obtain rfl:cs=[]:=List.eq_nil_of_length_eq_zero E
  exact⟨w,run_copy_none (P:=P) w dT sT ty elem dp sp rY B9 Kp Sc hu hsz (by simpa using hn.symm),by simpa [splice]using hg,Kept.refl _ _,rfl⟩
 ·obtain rfl:=D9 (by omega)
  obtain⟨b,o,rfl,hc⟩:=GO (by omega)
  have D:=run_copy_row (P:=P) w dT sT ty elem g off rY B9 ⟨b,o,none⟩ Kp Sc _ _ (cs.map bv) hu hsz hg (by simpa using hn) (fun j v B=>by
   have A:j<cs.length:=by simpa using (List.getElem?_eq_some_iff.1 B).1
   rw[WideShapes.add_plain,hc j A];rw[List.getElem?_map,Qd A]at B;rw[←B]
   simp[List.getD,A,bv]) (by simpa using qw) (fun v G=>by
   obtain⟨x,_,rfl⟩:=List.mem_map.1 G
   rfl)
  have e:((bs.map bv).toArray.toList.take off++cs.map bv++(bs.map bv).toArray.toList.drop (off+(cs.map bv).length)).toArray=((splice bs off cs).map bv).toArray:=by
   simp[splice,List.map_take,List.map_drop]
  rw[e,Qi]at D;exact⟨w.setRow g ((splice bs off cs).map bv).toArray,D,setRow_heap w g _ _ _ _ hg,⟨rfl,rfl,rfl,by simp[World.setRow],fun k hk hn=>setRow_other w g k _ hn⟩,by simp[World.setRow]⟩
theorem Sb {P:Program} {w:World} (dT sT ty elem:TypeId) (hu:P.underlying dT=some (.slice elem)) (hsz:(P.info? elem).map (·.size)=some 1) (dp:Option Addr) (rY B9:Nat) (s:ByteArray)
 (g off:Nat) (bs:List UInt8) (hg:kU w g bs) (cs:List UInt8) (hn:cs=s.data.toList.take rY) (D9:0<cs.length→dp=some ⟨g,off,none⟩) (qw:off+cs.length≤bs.length):
 ∃w',(Builtin.copy_ #[dT,sT] ty #[.slice dp rY B9,.string s]).run P w=.ok (goInt cs.length) w'∧kU w' g (splice bs off cs)∧Kept (aA g) w w'∧w'.heap.size=w.heap.size:=by
 have G:s.data.toList.length=s.size:=by simp
 have B:cs.length=min s.size rY:=by
  rw[hn,Qg];omega
 have hl:cs.length=Nat.min s.size rY:=B
 have hcs:((s.data.toList.map fun x=>Value.int .u8 (x.toNat:Int)).take (Nat.min s.size rY))=cs.map bv:=by
  rw[←List.map_take,hn];show(s.data.toList.take (min s.size rY)).map _=_
  by_cases h:s.size≤rY
  ·rw[Nat.min_eq_left h,List.take_of_length_le (by omega),List.take_of_length_le (by omega)]
   rfl
  ·rw[Nat.min_eq_right (by omega)]
   rfl
 obtain⟨i,hi⟩:∃i,P.info? elem=some i:=by
  cases h:P.info? elem with
  |none=>rw[h]at hsz;cases hsz
  |some i=>exact⟨i,rfl⟩
 by_cases D:cs.length=0
 ·obtain rfl:cs=[]:=List.eq_nil_of_length_eq_zero D
  refine⟨w,?_,by simpa [splice]using hg,Kept.refl _ _,rfl⟩;have h1:Nat.min s.size rY=0:=by simpa using hl.symm
  cases dp with
  |none=>simp[Builtin.copy_,run_underlying hu,Builtin.lenOf,Builtin.firstCells,sizeOf,typeInfo,hi,h1]
  |some a=>simp[Builtin.copy_,run_underlying hu,Builtin.lenOf,Builtin.firstCells,sizeOf,typeInfo,hi,h1,storeCells]
 ·obtain rfl:=D9 (by omega)
  have A:=run_storeCells_at P g off _ (cs.map bv) 0 _ w hg (by simpa using qw) (fun v E=>by
   obtain⟨x,_,rfl⟩:=List.mem_map.1 E
   rfl)
  have e:((bs.map bv).toArray.toList.take (off+0)++cs.map bv++(bs.map bv).toArray.toList.drop (off+0+(cs.map bv).length)).toArray=((splice bs off cs).map bv).toArray:=by
   simp[splice,List.map_take,List.map_drop]
  rw[e]at A;refine⟨w.setRow g ((splice bs off cs).map bv).toArray,?_,setRow_heap w g _ _ _ _ hg,⟨rfl,rfl,rfl,by simp[World.setRow],fun k hk hn=>setRow_other w g k _ hn⟩,by simp[World.setRow]⟩;simp[Builtin.copy_,run_underlying hu,Builtin.lenOf,Builtin.firstCells,sizeOf,typeInfo,hi,hcs,A,hl]
section
variable {P:Program} {w:World} {ops:Array Oper} {rest:List Oper} {o:Oper} {a:Act} {Q:Exit→Act→World→Prop}
theorem Ig (vI:o.guard=none) (d s:Operand) (dT sT:TypeId) (ho:o.op=.call {callee:=.builtin .copy,args:=#[d,s],argTypes:=#[dT,sT]}) (elem:TypeId) (hu:P.underlying dT=some (.slice elem)) (hsz:(P.info? elem).map (·.size)=some 1)
 (dp:Option Addr) (rY B9:Nat) (str:ByteArray) (hd:a.eval d=.slice dp rY B9) (hs:a.eval s=.string str)
 (g off:Nat) (bs:List UInt8) (hg:kU w g bs) (cs:List UInt8) (hn:cs=str.data.toList.take rY) (D9:0<cs.length→dp=some ⟨g,off,none⟩) (qw:off+cs.length≤bs.length)
 (h:∀w',Hid (kU w' g (splice bs off cs))→Kept (aA g) w w'→w'.heap.size=w.heap.size→wpList P ops Q rest (a.put o.dst (goInt cs.length)) w'):wpList P ops Q (o::rest) a w:=by
 refine wpList_plain vI fun K D=>?_
 obtain⟨w',E,h1,A,B⟩:=Sb (P:=P) dT sT o.type elem hu hsz dp rY B9 str g off bs hg cs hn D9 qw;unfold Oper.wp;simp[execOp,ho,resolve,invoke,builtin,hd,hs,E,Result.andThen];exact D _ _ (h w' (Qh h1) A B)
theorem DD {K:Act→World→Prop} {E:Prop} (vI:o.guard=none) (d s:Operand) (dT sT:TypeId) (ho:o.op=.call {callee:=.builtin .copy,args:=#[d,s],argTypes:=#[dT,sT]}) (elem:TypeId) (hu:P.underlying dT=some (.slice elem)) (hsz:(P.info? elem).map (·.size)=some 1)
 (dp sp:Option Addr) (rY B9 Kp Sc:Nat) (hd:a.eval d=.slice dp rY B9) (hs:a.eval s=.slice sp Kp Sc)
 (g off:Nat) (bs:List UInt8) (hg:kU w g bs) (cs:List UInt8) (hn:cs.length=Nat.min Kp rY) (D9:0<cs.length→dp=some ⟨g,off,none⟩) (GO:iC w sp cs.length cs) (qw:off+cs.length≤bs.length)
 (h:∀w',Hid (kU w' g (splice bs off cs))→Kept (aA g) w w'→w'.heap.size=w.heap.size→K (a.put o.dst (goInt cs.length)) w'):
 if Region.wanted o (yielded ops a.tmps)=true then Oper.wp P o a w K Q else E:=by
 have hw:Region.wanted o (yielded ops a.tmps)=true:=by simp[Region.wanted,vI]
 rw[if_pos hw];obtain⟨w',D,h1,A,B⟩:=Sa (P:=P) dT sT o.type elem hu hsz dp sp rY B9 Kp Sc g off bs hg cs hn D9 GO qw;unfold Oper.wp;simp[execOp,ho,resolve,invoke,builtin,hd,hs,D,Result.andThen];exact h w' (Qh h1) A B
end
def jr (r:Nat→Nat) (i:Nat):Value:=.agg #[.int .i64 (nH i),.slice (some ⟨r i,0,none⟩) (aq i) (aq i)]
def qe (r:Nat→Nat):Nat→Option Value:=fun i=>if i<11 then some (jr r i)else none
structure bB (w:World) (lo B:Nat) (r:Nat→Nat) (own:Nat→List UInt8):Prop where
 map:rE w B (qe r)
 row:∀i,i<11→kU w (r i) (own i)
 fit:Fits own
 inj:∀i j,i<11→j<11→r i=r j→i=j
 lo:lo≤B∧∀i,i<11→lo≤r i
section
variable {w w':World} {lo B:Nat} {r:Nat→Nat} {own:Nat→List UInt8}
theorem bB.kept (h:bB w lo B r own) (hk:Kept S w w') (hB:¬S B) (hr:∀i,i<11→¬S (r i)):bB w' lo B r own:=
 ⟨h.map.kept hk hB,fun i hi=>(h.row i hi).kept hk (hr i hi),h.fit,h.inj,h.lo⟩
theorem bB.jq (h:bB w lo B r own) (hk:Kept ag w w'):bB w' lo B r own:=h.kept hk id fun _ _=>id
theorem bB.aE6 (h:bB w lo B r own) (hi:i<11):r i≠B:=fun e=>by
 obtain⟨es,clock,A,_⟩:=h.map;have:=h.row i hi;unfold kU at this;rw[e,A]at this
 cases this
theorem bB.nB (h:bB w lo B r own) (hi:i<11):iC w (some ⟨r i,0,none⟩) (aq i) (own i):=by
 have:=(h.row i hi).nB
 rwa [h.fit i]at this
theorem bB.wrote (h:bB w lo B r own) (hi:i<11) (hk:Kept (aA (r i)) w w') {l:List UInt8} (hl:l.length=aq i) (hr:kU w' (r i) l):bB w' lo B r (KO own i l):=
 ⟨h.map.kept hk (fun e=>h.aE6 hi (Eq.symm e)),fun j D=>by
  by_cases A:j=i
  ·subst A;rw[vu];exact hr
  ·rw[qL _ _ A]
   exact(h.row j D).kept hk (fun e=>A (h.inj j i D hi e)),h.fit.KO hl,h.inj,h.lo⟩
end
end Mp
namespace Head
open Go.MapKept iK Hp Go.Proofs.YtdhibldkldlfpaaGreatDoor.Mp Go.Lib
variable {k:Nat}
def ah8 (f:Func):Array Oper:=
 match f.body with
 |some (.seq _ (.region _ ops _))=>ops
 |some (.seq _ (.seq (.region _ ops _) _))=>ops
 |_=>#[]
noncomputable def bT:Array Oper:=ah8 Tryz.f135
theorem ah7:∃o,bT[0]? =some o∧o.op=.makeMap 166 none∧o.dst=some 1∧o.guard=none:=⟨_,rfl,rfl,rfl,rfl⟩
theorem YO:∀i,i<11→∃o,bT[1+3*i]? =some o∧o.op=.makeSlice 26 (.const (.int .i64 (aq i))) (.const (.int .i64 (aq i)))∧o.dst=some (2+2*i)∧o.guard=none:=by
 intro i hi;rcases th hi with rfl|rfl|rfl|rfl|rfl|rfl|rfl|rfl|rfl|rfl|rfl<;>exact⟨_,rfl,rfl,rfl,rfl⟩
theorem VC:∀i,i<11→∃o,bT[2+3*i]? =some o∧o.op=.build 169 #[(0,.const (.int .i64 (nH i))),(1,.tmp (2+2*i))]∧o.dst=some (3+2*i)∧o.guard=none∧o.after=#[⟨1+3*i,.data⟩]:=by
 intro i hi;rcases th hi with rfl|rfl|rfl|rfl|rfl|rfl|rfl|rfl|rfl|rfl|rfl<;>exact⟨_,rfl,rfl,rfl,rfl,rfl⟩
theorem ah6:∀i,i<11→∃o,bT[3+3*i]? =some o∧o.op=.insert 166 (.tmp 1) (.const (.int .i64 (i:Int))) (.tmp (3+2*i))∧o.dst=none∧o.guard=none∧o.after=#[⟨0,.data⟩,⟨2+3*i,.data⟩]:=by
 intro i hi;rcases th hi with rfl|rfl|rfl|rfl|rfl|rfl|rfl|rfl|rfl|rfl|rfl<;>exact⟨_,rfl,rfl,rfl,rfl,rfl⟩
theorem YP:∃o,bT[34]? =some o∧o.op=.move (.tmp 1)∧o.dst=some 24∧o.guard=none∧o.after[0]? =some ⟨0,.data⟩:=⟨_,rfl,rfl,rfl,rfl,rfl⟩
theorem RC:∃o,bT[35]? =some o∧o.op=.assign (.tmp 24)∧o.dst=some 0∧o.guard=none∧o.after[0]? =some ⟨34,.data⟩:=⟨_,rfl,rfl,rfl,rfl,rfl⟩
theorem BG:bT.size=36:=rfl
theorem YN:∀i o,bT[i]? =some o→∀e∈o.after,Region.binds .any e=true→e.on<i:=by
 have h:(bT.toList.zipIdx.all fun x=>x.1.after.all fun e=>decide (e.on<x.2))=true:=by decide+kernel
 intro i o B e he _;rw[List.all_eq_true]at h;have h1:=h (o,i) (by rw[List.mem_iff_getElem?];exact⟨i,by simp[B]⟩);have A:=Array.all_eq_true_iff_forall_mem.1 h1 e he
 simpa using A
structure BI (w0:World) (listed:Array Bool) (a:Act) (w:World) (B:Nat) (r:Nat→Nat):Prop where
 ls:listed.size=36
 ts:a.tmps.size=25
 df:a.defers=[]
 kept:Kept ag w0 w
 m0:listed.getD 0 false=true→a.eval (.tmp 1)=.map (some B)∧w0.heap.size≤B∧rE w B (fun i=>if i<11∧listed.getD (3+3*i) false=true then some (jr r i)else none)
 WY:∀i,i<11→listed.getD (1+3*i) false=true→a.eval (.tmp (2+2*i))=.slice (some ⟨r i,0,none⟩) (aq i) (aq i)∧w0.heap.size≤r i∧kU w (r i) (List.replicate (aq i) 0)
 bd:∀i,i<11→listed.getD (2+3*i) false=true→a.eval (.tmp (3+2*i))=jr r i∧listed.getD (1+3*i) false=true
 ins:∀i,i<11→listed.getD (3+3*i) false=true→listed.getD (2+3*i) false=true∧listed.getD 0 false=true
 inj:∀i j,i<11→j<11→listed.getD (1+3*i) false=true→listed.getD (1+3*j) false=true→r i=r j→i=j
 mv:listed.getD 34 false=true→listed.getD 0 false=true∧a.eval (.tmp 24)=.map (some B)
 asg:listed.getD 35 false=true→listed.getD 34 false=true∧a.eval (.tmp 0)=.map (some B)
theorem Lx (w:World) (i:Nat) (x:Value) (hx:∃p l c,x=.slice p l c):(Instr.build 169 #[(0,.int .i64 (nH i)),(1,x)]).run Tryz.prog w=.ok (.agg #[.int .i64 (nH i),x]) w:=by
 obtain⟨p,l,c,rfl⟩:=hx
 kernel_rfl
section
variable {w0 w:World} {listed:Array Bool} {a:Act} {B:Nat} {r:Nat→Nat} {Q:Exit→Act→World→Prop}
def BX (w0:World) (listed:Array Bool) (a:Act) (w:World):Prop:=∃B r,BI w0 listed a w B r
theorem step_map (h:BI w0 listed a w B r) (hr:0∈Region.ready .any bT listed):wpOp Tryz.prog bT Q 0 (BX w0 (listed.setIfInBounds 0 true)) a w:=by
 have I:=(mem_ready.1 hr).1;have hf:=jk I;have A:=bz I;obtain⟨o,R,J,hd,N⟩:=ah7;refine wpOp_step R fun K M=>?_
 rw[if_pos (by simp[Region.wanted,N])];have U:=@run_makeMap Tryz.prog 166 w;unfold Oper.wp;simp[execOp,J,U,Result.andThen];rw[Oper.upon_value,hd];refine M _ _ ⟨w.heap.size,r,?_⟩;have G:=h.ts;have E:Kept ag w (w.alloc (.map #[] 0)):=(Kept.refl _ _).alloc _;have H:∀t:Nat,t≠1→(a.put (some 1) (.map (some w.heap.size))).eval (.tmp t)=a.eval (.tmp t):=fun t T=>by rw[j9 _ (by omega),if_neg T]
 have no:∀i,i<11→listed.getD (3+3*i) false=false:=fun i hi=>by
  cases hc:listed.getD (3+3*i) false with
  |false=>rfl
  |true=>have:=(h.ins i hi hc).2;rw[hf]at this;cases this
 refine⟨by simpa using h.ls,by rw[rr];exact G,by rw[put_defers];exact h.df,h.kept.trans E,fun _=>⟨by rw[j9 _ (by omega),if_pos rfl],h.kept.size,?_⟩,?_,?_,?_,?_,?_,?_⟩
 ·have e:(fun i=>if i<11∧(listed.setIfInBounds 0 true).getD (3+3*i) false=true then some (jr r i)else none)=fun _=>(none:Option Value):=by
   funext i
   rw[ai A,if_neg (show ¬3+3*i=0 by omega)]
   by_cases hi:i<11
   ·rw[no i hi];simp
   ·simp[hi]
  rw[e];exact zr w
 ·intro i hi hl
  rw[ai A,if_neg (show ¬1+3*i=0 by omega)]at hl;obtain⟨h1,D,L⟩:=h.WY i hi hl;exact⟨by rw[H _ (by omega)];exact h1,D,L.kept E id⟩
 ·intro i hi hl
  rw[ai A,if_neg (show ¬2+3*i=0 by omega)]at hl;obtain⟨h1,D⟩:=h.bd i hi hl;exact⟨by rw[H _ (by omega)];exact h1,by rw[ai A,if_neg (by omega)];exact D⟩
 ·intro i hi hl
  rw[ai A,if_neg (show ¬3+3*i=0 by omega),no i hi]at hl
  cases hl
 ·intro i j hi O h1 D
  rw[ai A,if_neg (show ¬1+3*i=0 by omega)]at h1;rw[ai A,if_neg (show ¬1+3*j=0 by omega)]at D;exact h.inj i j hi O h1 D
 ·intro hl
  rw[ai A,if_neg (by omega)]at hl;have:=(h.mv hl).1;rw[hf]at this
  cases this
 ·intro hl
  rw[ai A,if_neg (by omega)]at hl;have:=(h.mv (h.asg hl).1).1;rw[hf]at this
  cases this
theorem Si (h:BI w0 listed a w B r) (hk:k<11) (hr:1+3*k∈Region.ready .any bT listed):wpOp Tryz.prog bT Q (1+3*k) (BX w0 (listed.setIfInBounds (1+3*k) true)) a w:=by
 have T:=(mem_ready.1 hr).1;have hf:=jk T;have V:=bz T;have hw:=sS hk;obtain⟨o,Z,W,hd,Y⟩:=YO k hk;obtain⟨i0,U,f,c,d⟩:=info_parts qZ;refine wpOp_step Z fun K X=>?_
 rw[if_pos (by simp[Region.wanted,Y])];have O:=run_make (P:=Tryz.prog) w 26 5 i0 (.int .u8 0) Tryz.underlying26 U f .i64 .i64 (aq k) (aq k) (by omega) (by omega) (by rw[d];omega) (by omega);rw[c,Nat.mul_one,Int.toNat_natCast,show(Value.int .u8 0).cells=#[Value.int .u8 0]from rfl]at O;unfold Oper.wp;simp[execOp,W,Act.eval,O,Result.andThen];rw[Oper.upon_value,hd];refine X _ _ ⟨B,fun i=>if i=k then w.heap.size else r i,?_⟩;have M:=h.ts;have E:Kept ag w (w.alloc (.cells (madeCells #[Value.int .u8 0] (aq k)) 5)):=(Kept.refl _ _).alloc _;have H:∀t:Nat,t≠2+2*k→(a.put (some (2+2*k)) (.slice (some ⟨w.heap.size,0,none⟩) (aq k) (aq k))).eval (.tmp t)=a.eval (.tmp t):=fun t b=>by rw[j9 _ (by omega),if_neg b]
 have ls:∀j,j≠1+3*k→(listed.setIfInBounds (1+3*k) true).getD j false=listed.getD j false:=fun j J=>by rw[ai V,if_neg J]
 have I:listed.getD (2+3*k) false=false:=by
  cases hc:listed.getD (2+3*k) false with
  |false=>rfl
  |true=>have:=(h.bd k hk hc).2;rw[hf]at this;cases this
 have N:listed.getD (3+3*k) false=false:=by
  cases hc:listed.getD (3+3*k) false with
  |false=>rfl
  |true=>have:=(h.ins k hk hc).1;rw[I]at this;cases this
 have R:∀i,i≠k→jr (fun i=>if i=k then w.heap.size else r i) i=jr r i:=fun i hi=>by simp only[jr,if_neg hi]
 refine⟨by simpa using h.ls,by rw[rr];exact M,by rw[put_defers];exact h.df,h.kept.trans E,?_,?_,?_,?_,?_,?_,?_⟩
 ·intro hl
  rw[ls 0 (by omega)]at hl;obtain⟨h1,D,L⟩:=h.m0 hl;refine⟨by rw[H _ (by omega)];exact h1,D,?_⟩
  have e:(fun i=>if i<11∧(listed.setIfInBounds (1+3*k) true).getD (3+3*i) false=true then some (jr (fun i=>if i=k then w.heap.size else r i) i)else none)=fun i=>if i<11∧listed.getD (3+3*i) false=true then some (jr r i)else none:=by
   funext i
   rw[ls _ (by omega)]
   by_cases A:i=k
   ·subst A;rw[N];simp
   ·rw[R i A]
  rw[e];exact L.kept E id
 ·intro i hi hl
  by_cases A:i=k
  ·subst A
   refine⟨by rw[j9 _ (by omega),if_pos rfl,if_pos rfl],by rw[if_pos rfl];exact h.kept.size,?_⟩;rw[if_pos rfl];exact R7 w (aq i)
  ·rw[ls _ (by omega)]at hl
   obtain⟨h1,D,L⟩:=h.WY i hi hl;rw[if_neg A];exact⟨by rw[H _ (by omega)];exact h1,D,L.kept E id⟩
 ·intro i hi hl
  rw[ls _ (by omega)]at hl
  by_cases A:i=k
  ·subst A;rw[I]at hl;cases hl
  ·obtain⟨h1,D⟩:=h.bd i hi hl
   exact⟨by rw[H _ (by omega),R i A];exact h1,by rw[ls _ (by omega)];exact D⟩
 ·intro i hi hl
  rw[ls _ (by omega)]at hl;rw[ls _ (by omega),ls _ (by omega)];exact h.ins i hi hl
 ·intro i j hi J h1 D
  by_cases A:i=k
  ·by_cases G:j=k
   ·intro _;rw[A,G]
   ·rw[if_pos A,if_neg G]
    rw[ls _ (by omega)]at D;have:=(h.WY j J D).2.2.lt;intro e;omega
  ·rw[ls _ (by omega)]at h1
   by_cases G:j=k
   ·rw[if_neg A,if_pos G]
    have:=(h.WY i hi h1).2.2.lt;intro e;omega
   ·rw[if_neg A,if_neg G]
    rw[ls _ (by omega)]at D;exact h.inj i j hi J h1 D
 ·intro hl
  rw[ls _ (by omega)]at hl;rw[ls _ (by omega),H _ (by omega)];exact h.mv hl
 ·intro hl
  rw[ls _ (by omega)]at hl;rw[ls _ (by omega),H _ (by omega)];exact h.asg hl
theorem Nx (h:BI w0 listed a w B r) (hk:k<11) (hr:2+3*k∈Region.ready .any bT listed):wpOp Tryz.prog bT Q (2+3*k) (BX w0 (listed.setIfInBounds (2+3*k) true)) a w:=by
 obtain⟨M,o',R,T⟩:=mem_ready.1 hr;have J:=bz M;have hf:=jk M;obtain⟨o,L,U,hd,X,O⟩:=VC k hk;obtain rfl:o=o':=Option.some.inj (L.symm.trans R);have E:listed.getD (1+3*k) false=true:=T ⟨1+3*k,.data⟩ (by rw[O];simp) rfl;obtain⟨N,_,_⟩:=h.WY k hk E;refine wpOp_step L fun K W=>?_
 rw[if_pos (by simp[Region.wanted,X])];have Z:=Lx w k (.slice (some ⟨r k,0,none⟩) (aq k) (aq k)) ⟨_,_,_,rfl⟩;have G:a.tmps.getD (2+2*k) undef=.slice (some ⟨r k,0,none⟩) (aq k) (aq k):=N;unfold Oper.wp;simp only[execOp,U,List.map_toArray,List.map_cons,List.map_nil,Act.eval,G,Sem.run_bind,Z,Result.andThen,Oper.upon];rw[hd];refine W _ _ ⟨B,r,?_⟩;have I:=h.ts;have D:∀t:Nat,t≠3+2*k→(a.put (some (3+2*k)) (jr r k)).eval (.tmp t)=a.eval (.tmp t):=fun t Y=>by rw[j9 _ (by omega),if_neg Y]
 have ls:∀j,j≠2+3*k→(listed.setIfInBounds (2+3*k) true).getD j false=listed.getD j false:=fun j H=>by rw[ai J,if_neg H]
 show BI w0 _ (a.put (some (3+2*k)) (jr r k)) w B r;refine⟨by simpa using h.ls,by rw[rr];exact I,by rw[put_defers];exact h.df,h.kept,?_,?_,?_,?_,?_,?_,?_⟩
 ·intro hl
  rw[ls 0 (by omega)]at hl;obtain⟨h1,A,V⟩:=h.m0 hl;refine⟨by rw[D _ (by omega)];exact h1,A,?_⟩
  have e:(fun i=>if i<11∧(listed.setIfInBounds (2+3*k) true).getD (3+3*i) false=true then some (jr r i)else none)=fun i=>if i<11∧listed.getD (3+3*i) false=true then some (jr r i)else none:=by
   funext i
   rw[ls _ (by omega)]
  rw[e];exact V
 ·intro i hi hl
  rw[ls _ (by omega)]at hl;rw[D _ (by omega)];exact h.WY i hi hl
 ·intro i hi hl
  by_cases b:i=k
  ·subst b
   exact⟨by rw[j9 _ (by omega),if_pos rfl],by rw[ls _ (by omega)];exact E⟩
  ·rw[ls _ (by omega)]at hl
   obtain⟨h1,A⟩:=h.bd i hi hl;exact⟨by rw[D _ (by omega)];exact h1,by rw[ls _ (by omega)];exact A⟩
 ·intro i hi hl
  rw[ls _ (by omega)]at hl;obtain⟨h1,A⟩:=h.ins i hi hl;refine⟨?_,by rw[ls _ (by omega)];exact A⟩;rw[ai J];split
  ·rfl
  ·exact h1
 ·intro i j hi H h1 A
  rw[ls _ (by omega)]at h1 A;exact h.inj i j hi H h1 A
 ·intro hl
  rw[ls _ (by omega)]at hl;rw[ls _ (by omega),D _ (by omega)];exact h.mv hl
 ·intro hl
  rw[ls _ (by omega)]at hl;rw[ls _ (by omega),D _ (by omega)];exact h.asg hl
theorem Wd (h:BI w0 listed a w B r) (hk:k<11) (hr:3+3*k∈Region.ready .any bT listed):wpOp Tryz.prog bT Q (3+3*k) (BX w0 (listed.setIfInBounds (3+3*k) true)) a w:=by
 obtain⟨X,o',b,V⟩:=mem_ready.1 hr;have U:=bz X;have hf:=jk X;obtain⟨o,W,c,hd,l,T⟩:=ah6 k hk;obtain rfl:o=o':=Option.some.inj (W.symm.trans b);have R:listed.getD 0 false=true:=V ⟨0,.data⟩ (by rw[T];simp) rfl;have D:listed.getD (2+3*k) false=true:=V ⟨2+3*k,.data⟩ (by rw[T];simp) rfl;obtain⟨O,Z,A⟩:=h.m0 R;obtain⟨d,_⟩:=h.bd k hk D;refine wpOp_step W fun K f=>?_
 rw[if_pos (by simp[Region.wanted,l])];obtain⟨w',m,Y,N,hs⟩:=A.put (P:=Tryz.prog) Tryz.underlying166 Tryz.underlying170 k (jr r k) (by rw[hf];simp);have J:(Instr.mapUpdate 166 (.map (some B)) (.int .i64 (k:Int)) (jr r k)).run Tryz.prog w=.ok () w':=m;unfold Oper.wp;simp[execOp,c,O,d,uC,J,Result.andThen]
 first|rw[Oper.upon_value,hd]|rw[Oper.upon_skip,hd]
 refine f _ _ ⟨B,r,?_⟩;have M:=h.ts;have ls:∀j,j≠3+3*k→(listed.setIfInBounds (3+3*k) true).getD j false=listed.getD j false:=fun j L=>by rw[ai U,if_neg L]
 have p:B<w.heap.size:=A.lt
 have I:Kept ag w0 w':=h.kept.then N (fun i hi=>by
  have:i=B:=hi
  omega)
 refine⟨by simpa using h.ls,M,h.df,I,?_,?_,?_,?_,?_,?_,?_⟩
 ·intro _
  refine⟨O,Z,?_⟩
  have e:(fun i=>if i<11∧(listed.setIfInBounds (3+3*k) true).getD (3+3*i) false=true then some (jr r i)else none)=fun y=>if y=k then some (jr r k)else(if y<11∧listed.getD (3+3*y) false=true then some (jr r y)else none):=by
   funext i
   by_cases H:i=k
   ·subst H
    rw[ai U,if_pos rfl,if_pos ⟨hk,rfl⟩,if_pos rfl]
   ·rw[ls _ (by omega),if_neg H]
  rw[e];exact Y
 ·intro i hi hl
  rw[ls _ (by omega)]at hl;obtain⟨h1,E,G⟩:=h.WY i hi hl;refine⟨h1,E,G.kept N (fun e=>?_)⟩;have e:r i=B:=e;obtain⟨es,clock,g,_⟩:=A;unfold kU at G;rw[e,g]at G
  cases G
 ·intro i hi hl
  rw[ls _ (by omega)]at hl;rw[ls _ (by omega)];exact h.bd i hi hl
 ·intro i hi hl
  rw[ls _ (by omega),ls _ (by omega)]
  by_cases H:i=k
  ·subst H;exact⟨D,R⟩
  ·rw[ls _ (by omega)]at hl
   exact h.ins i hi hl
 ·intro i j hi L h1 E
  rw[ls _ (by omega)]at h1 E;exact h.inj i j hi L h1 E
 ·intro hl
  rw[ls _ (by omega)]at hl;rw[ls _ (by omega)];exact h.mv hl
 ·intro hl
  rw[ls _ (by omega)]at hl;rw[ls _ (by omega)];exact h.asg hl
theorem FU (h:BI w0 listed a w B r) {d:Nat} {s:Nat} {o:Oper} (hr:k∈Region.ready .any bT listed) (ho:bT[k]? =some o) (bk:o.op=.move (.tmp s)∨o.op=.assign (.tmp s)) (hd:o.dst=some d) (hg:o.guard=none)
 (hc:(k=34∧d=24∧s=1∧listed.getD 0 false=true)∨(k=35∧d=0∧s=24∧listed.getD 34 false=true)):wpOp Tryz.prog bT Q k (BX w0 (listed.setIfInBounds k true)) a w:=by
 obtain⟨I,_⟩:=mem_ready.1 hr;have J:=bz I;have hf:=jk I
 have hs:a.eval (.tmp s)=.map (some B):=by
  rcases hc with⟨_,_,rfl,h0⟩|⟨_,_,rfl,h0⟩
  ·exact(h.m0 h0).1
  ·exact(h.mv h0).2
 refine wpOp_step ho fun K M=>?_
 rw[if_pos (by simp[Region.wanted,hg])];unfold Oper.wp;rcases bk with bk|bk
 all_goals
  simp[execOp,bk,hs];rw[Oper.upon_value,hd];refine M _ _ ⟨B,r,?_⟩;have G:=h.ts;have A:∀t:Nat,t≠d→(a.put (some d) (.map (some B))).eval (.tmp t)=a.eval (.tmp t):=fun t N=>by rw[j9 _ (by omega),if_neg N]
  have H:(a.put (some d) (.map (some B))).eval (.tmp d)=.map (some B):=by rw[j9 _ (by omega),if_pos rfl]
  have ls:∀j,j≠k→(listed.setIfInBounds k true).getD j false=listed.getD j false:=fun j E=>by rw[ai J,if_neg E]
  refine⟨by simpa using h.ls,by rw[rr];exact G,by rw[put_defers];exact h.df,h.kept,?_,?_,?_,?_,?_,?_,?_⟩
  ·intro hl
   rw[ls 0 (by omega)]at hl;obtain⟨h1,D,L⟩:=h.m0 hl;refine⟨by rw[A _ (by omega)];exact h1,D,?_⟩
   have e:(fun i=>if i<11∧(listed.setIfInBounds k true).getD (3+3*i) false=true then some (jr r i)else none)=fun i=>if i<11∧listed.getD (3+3*i) false=true then some (jr r i)else none:=by
    funext i
    by_cases hi:i<11
    ·rw[ls _ (by omega)]
    ·simp[hi]
   rw[e];exact L
  ·intro i hi hl
   rw[ls _ (by omega)]at hl;rw[A _ (by omega)];exact h.WY i hi hl
  ·intro i hi hl
   rw[ls _ (by omega)]at hl;rw[A _ (by omega),ls _ (by omega)];exact h.bd i hi hl
  ·intro i hi hl
   rw[ls _ (by omega)]at hl;rw[ls _ (by omega),ls _ (by omega)];exact h.ins i hi hl
  ·intro i j hi E h1 D
   rw[ls _ (by omega)]at h1 D;exact h.inj i j hi E h1 D
  ·intro hl
   rcases hc with⟨rfl,rfl,rfl,h0⟩|⟨rfl,rfl,rfl,h0⟩
   ·exact⟨by rw[ls _ (by omega)];exact h0,H⟩
   ·rw[ls _ (by omega)]at hl
    rw[ls _ (by omega),A _ (by omega)];exact h.mv hl
  ·intro hl
   rcases hc with⟨rfl,rfl,rfl,h0⟩|⟨rfl,rfl,rfl,h0⟩
   ·rw[ls _ (by omega)]at hl
    have:=(h.asg hl).1;rw[hf]at this
    cases this
   ·exact⟨by rw[ls _ (by omega)];exact h0,H⟩
theorem Wc (i:Nat) (h:BX w0 listed a w) (hr:i∈Region.ready .any bT listed):wpOp Tryz.prog bT Q i (BX w0 (listed.setIfInBounds i true)) a w:=by
 obtain⟨B,r,h⟩:=h
 have hi:i<36:=by
  obtain⟨_,o,A,_⟩:=mem_ready.1 hr;have:=(Array.getElem?_eq_some_iff.1 A).1
  rwa [BG]at this
 have J:i=0∨(∃k,k<11∧i=1+3*k)∨(∃k,k<11∧i=2+3*k)∨(∃k,k<11∧i=3+3*k)∨i=34∨i=35:=by
  by_cases L:i=0
  ·exact Or.inl L
  ·by_cases M:i<34
   ·have:i=1+3*((i - 1) / 3)∨i=2+3*((i - 1) / 3)∨i=3+3*((i - 1) / 3):=by omega
    rcases this with h|h|h
    ·exact Or.inr (Or.inl ⟨_,by omega,h⟩)
    ·exact Or.inr (Or.inr (Or.inl ⟨_,by omega,h⟩))
    ·exact Or.inr (Or.inr (Or.inr (Or.inl ⟨_,by omega,h⟩)))
   ·exact Or.inr (Or.inr (Or.inr (Or.inr (by omega))))
 rcases J with rfl|⟨k,hk,rfl⟩|⟨k,hk,rfl⟩|⟨k,hk,rfl⟩|rfl|rfl
 ·exact step_map h hr
 ·exact Si h hk hr
 ·exact Nx h hk hr
 ·exact Wd h hk hr
 ·obtain⟨o,A,H,hd,I,D⟩:=YP
  obtain⟨_,o',E,G⟩:=mem_ready.1 hr;obtain rfl:o=o':=Option.some.inj (A.symm.trans E);exact FU h hr A (Or.inl H) hd I (Or.inl ⟨rfl,rfl,rfl,G ⟨0,.data⟩ (Array.mem_of_getElem? D) rfl⟩)
 ·obtain⟨o,A,H,hd,I,D⟩:=RC
  obtain⟨_,o',E,G⟩:=mem_ready.1 hr;obtain rfl:o=o':=Option.some.inj (A.symm.trans E);exact FU h hr A (Or.inr H) hd I (Or.inr ⟨rfl,rfl,rfl,G ⟨34,.data⟩ (Array.mem_of_getElem? D) rfl⟩)
theorem Gh (ha:a.tmps.size=25) (hd:a.defers=[]) (hQ:∀a' w' B r,a'.defers=[]→a'.eval (.tmp 0)=.map (some B)→bB w' w.heap.size B r oh→Kept ag w w'→Q .normal a' w'):
 wpAny Tryz.prog .any bT Q bT.size (Array.replicate bT.size false) a {w with drawn:=w.drawn+1}:=by
 have no:∀j,(Array.replicate bT.size false).getD j false=false:=fun j=>by
  rw[Array.getD_eq_getD_getElem?,Array.getElem?_replicate];split<;>rfl
 refine zN (BX w) (fun listed a w' i h D=>Wc i h D) (fun listed a' w' h D=>?_) _ _ _ _ ?_ ?_
 ·obtain⟨B,r,h⟩:=h
  have A:=wO (by rw[h.ls,BG]) YN D 36;have all:∀i,i<36→listed.getD i false=true:=fun i hi=>A i hi (by rw[BG];exact hi)
  obtain⟨h1,G,H⟩:=h.m0 (all 0 (by omega));refine hQ a' w' B r h.df (h.asg (all 35 (by omega))).2 ⟨?_,?_,tW,fun i j hi E=>h.inj i j hi E (all _ (by omega)) (all _ (by omega)),G,fun i hi=>(h.WY i hi (all _ (by omega))).2.1⟩ h.kept
  ·have e:qe r=fun i=>if i<11∧listed.getD (3+3*i) false=true then some (jr r i)else none:=by
    funext i
    unfold qe
    by_cases hi:i<11
    ·rw[if_pos hi,if_pos ⟨hi,all _ (by omega)⟩]
    ·rw[if_neg hi,if_neg (fun e=>hi e.1)]
   rw[e];exact H
  ·intro i hi
   exact(h.WY i hi (all _ (by omega))).2.2
 ·unfold vk
  exact Nat.le_trans (List.length_filter_le _ _) (by rw[List.length_range];exact Qk _)
 ·refine⟨0,fun _=>0,by rw[Array.size_replicate];exact BG,ha,hd,(Kept.refl ag w).drew,?_,?_,?_,?_,?_,?_,?_⟩
  all_goals first
   |(intro hl;rw[no]at hl;cases hl)
   |(intro i hi hl;rw[no]at hl;cases hl)
   |(intro i j hi E hl;rw[no]at hl;cases hl)
end
theorem pb (w:World) (x:Int) (p:Option Addr) (l c:Nat):(Instr.field 169 (.agg #[.int .i64 x,.slice p l c]) 1).run Tryz.prog w=.ok (.slice p l c) w:=by kernel_rfl
theorem EG (w:World):Calls Tryz.prog 135 #[] w fun e w'=>∃B r,e=.returned (.map (some B))∧bB w' w.heap.size B r oh∧Kept ag w w':=by
 go_enter Tryz.func135,Tryz.ntmps135
 go_wp2;refine wp_region_any (by kernel_rfl) (Gh (by rfl) (by rfl) fun a' w' B r hd A D hk=>?_);simp only[Exit.then]
 apply_assumption
 go_wp2;refine bodyPost_ret (results_tmp rfl _ _ _) hd ?_;exact⟨B,r,congrArg Ending.returned A,D,hk⟩
end Head
namespace Head
open iK Hp Go.Proofs.YtdhibldkldlfpaaGreatDoor.Mp Go.Lib
theorem vm (a b:List UInt8):str a++str b=str (a++b):=by
 apply ByteArray.ext;simp[str,ByteArray.data_append]
theorem NI (l:List UInt8):(0≤Lib.indexByte l 0→l.take (Lib.indexByte l 0).toNat=av l∧(Lib.indexByte l 0).toNat≤l.length)∧(¬0≤Lib.indexByte l 0→av l=l):=by
 induction l with
 |nil=>exact⟨fun h=>by simp[Lib.indexByte]at h,fun _=>rfl⟩
 |cons b l ih=>
  have E:=Lib.indexByte_ge l 0
  by_cases A:b=0
  ·subst A
   have e:Lib.indexByte ((0:UInt8)::l) 0=0:=by simp[Lib.indexByte]
   rw[e];exact⟨fun _=>⟨by simp[av],by simp⟩,fun h=>absurd (by omega) h⟩
  ·have D:(b==0)=false:=by simpa using A
   have hu:av (b::l)=b::av l:=by
    unfold av;rw[List.takeWhile_cons,if_pos (by simpa using A)]
   by_cases hi:Lib.indexByte l 0=-1
   ·have e:Lib.indexByte (b::l) 0=-1:=by simp[Lib.indexByte,D,hi]
    rw[e,hu];refine⟨fun h=>absurd h (by omega),fun _=>?_⟩;rw[ih.2 (by omega)]
   ·have B:(Lib.indexByte l 0==-1)=false:=by simpa using hi
    have e:Lib.indexByte (b::l) 0=Lib.indexByte l 0+1:=by simp[Lib.indexByte,D,B]
    obtain⟨h1,G⟩:=ih.1 (by omega);rw[e,hu,show(Lib.indexByte l 0+1).toNat=(Lib.indexByte l 0).toNat+1 by omega];exact⟨fun _=>⟨by rw[List.take_succ_cons,h1],by rw[List.length_cons];omega⟩,fun h=>absurd (by omega) h⟩
theorem Oe (b o n c b2:Nat) (bs:List UInt8) (w:World) (hn:bs.length=n) (hc:n≤c) (hm:n≤140737488351232) (h:iC w (some ⟨b,o,none⟩) n bs) (h2:w.cell? ⟨b2,0,none⟩=some (.int .u8 0)):
 Calls Tryz.prog 109 #[.slice (some ⟨b,o,none⟩) n c,.slice (some ⟨b2,0,none⟩) 1 1] w fun e w'=>∃v2 v3,e=.returned (.tuple #[.slice (some ⟨b,o,none⟩) (av bs).length c,v2,v3])∧Kept ag w w':=by
 have hu:=NI bs;have B:bytesOf (nums bs)=bs:=qk bs
 have D:=Any.bytes_Index_one Tryz.rM.index b o n c b2 0 1 (nums bs) 0 w (by rw[od,hn]) (fun i hi=>by
  obtain⟨I,L,he,hcell⟩:=h (by omega)
  cases he
  rw[hcell i hi]
  simp[nums,List.getD,Qd (show i<bs.length by omega)]) h2
 rw[B,show(0:Int).toNat.toUInt8=0 from rfl]at D
 have E:0≤Lib.indexByte bs 0→Lib.indexByte bs 0+(1:Nat)≤n:=fun A=>by
  obtain⟨k,hk⟩:∃k:Nat,Lib.indexByte bs 0=k:=⟨(Lib.indexByte bs 0).toNat,by omega⟩
  have:=(Lib.indexByte_some hk).1;have H:=(List.getElem?_eq_some_iff.1 this).1;omega
 refine(Any.bytes_Cut_of Tryz.rM (some ⟨b,o,none⟩) (some ⟨b2,0,none⟩) n c 1 1 (Lib.indexByte bs 0) w hc (Lib.indexByte_ge _ _) E (by omega) (D.mono fun e w' he=>⟨he.1,0,he.2⟩)).mono ?_;rintro e w' ⟨rfl,q,rfl⟩;unfold Lib.cutV
 by_cases A:0≤Lib.indexByte bs 0
 ·rw[if_pos A]
  obtain⟨G,J⟩:=hu.1 A;refine⟨_,_,congrArg (fun k=>Ending.returned (.tuple #[.slice (some ⟨b,o,none⟩) k c,_,_])) ?_,(Kept.refl _ _).drewN _⟩;rw[←G,Qg];omega
 ·rw[if_neg A]
  refine⟨_,_,congrArg (fun k=>Ending.returned (.tuple #[.slice (some ⟨b,o,none⟩) k c,_,_])) ?_,(Kept.refl _ _).drewN _⟩;rw[hu.2 A,hn]
theorem oT (bs:List UInt8):(av bs).length≤bs.length∧bs.take (av bs).length=av bs:=by
 have h:av bs<+:bs:=List.takeWhile_prefix _;exact⟨h.length_le,(List.prefix_iff_eq_take.1 h).symm⟩
theorem oR (lo B:Nat) (r:Nat→Nat) (own:Nat→List UInt8) (i:Nat) (w:World) (hi:i<11) (hP:bB w lo B r own):
 Calls Tryz.prog 106 #[.map (some B),.int .i64 (i:Int)] w fun e w'=>e=.returned (.string (str (av (own i))))∧Kept ag w w':=by
 have J:=pb;have D:=Qh hP
 have L:(Instr.lookup 166 (.map (some B)) (.int .i64 (i:Int)) false).run Tryz.prog w=.ok (.agg #[.int .i64 (nH i),.slice (some ⟨r i,0,none⟩) (aq i) (aq i)]) w:=
  hP.map.look (P:=Tryz.prog) Tryz.underlying166 Tryz.underlying170 (x:=i) (v:=jr r i) (by unfold qe;rw[if_pos hi])
 have hw:=sS hi;have E:=Qh ((Kept.refl ag w).alloc (.cells #[.int .u8 0] 5));have H:=Qh hw;clear hP hw
 go_enter Tryz.func106,Tryz.ntmps106
 go_wp2_with fail
 refine(Oe (r i) 0 (aq i) (aq i) w.heap.size (own i) _ (D.out.fit i) (Qk _) (by have:=H.out;omega) ((D.out.jq E.out).nB hi) (by
  rw[World.cell?_alloc_at _ _ _ _ rfl];rfl)).mono ?_
 rintro e w1 ⟨v2,v3,rfl,hk⟩;have A:=oT (own i)
 have cs:(convert 26 9 (.slice (some ⟨r i,0,none⟩) (av (own i)).length (aq i))).run Tryz.prog w1=.ok (.string (str (av (own i)))) w1:=by
  refine iR ?_ rfl _ _ _ Tryz.underlying26 Tryz.underlying5 Tryz.underlying9 _;have I:=((D.out.jq E.out).jq hk).nB hi;have:=I.take (k:=(av (own i)).length) (by rw[←D.out.fit i];exact A.1)
  rwa [A.2]at this
 have G:=Qh (E.out.trans hk);clear hk A;go_wp2;go_ret;exact⟨rfl,G.out⟩
theorem zK (p:Option Addr) (n c:Nat) (bs:List UInt8) (w:World) (hn:bs.length=n) (hc:n≤c) (hm:c≤140737488351232) (h:iC w p n bs):
 Calls Tryz.prog 65 #[.slice p n c] w fun e w'=>e=.returned (.string (str (av bs)))∧w=w':=by
 have H:=Qh h;have I:=Qh hn;clear h hn;have d:(convert 26 9 (.slice p n c)).run Tryz.prog w=.ok (.string (str bs)) w:=iR H.out I.out _ _ _ Tryz.underlying26 Tryz.underlying5 Tryz.underlying9 _
 go_enter Tryz.func65,Tryz.ntmps65
 go_wp2
 go_loop [3] (fun i=>∃(k:Nat),k≤n∧i=.int .i64 k∧Hid (∀x∈bs.take k,x≠0)) (fun i=>n - (RowKit.intOf i).toNat)
 case atStart=>exact⟨0,Nat.zero_le _,rfl,Qh (by simp)⟩
 case round=>
  obtain⟨k,hk,rfl,N⟩:=hrel
  by_cases J:k<n
  ·obtain⟨b,o,rfl,f,hcell⟩:=H.out.cell J
   have Y:=hcell k J;clear hcell;have G:k<bs.length:=by rw[I.out];exact J
   have T:bs.getD k 0=bs[k]:=by simp[List.getD,G]
   have B:bs.take (k+1)=bs.take k++[bs[k]]:=by rw[List.take_succ_eq_append_getElem G]
   have O:=Qh T;have V:=Qh B;obtain⟨x,D⟩:∃x:Int,x=((bs.getD k 0).toNat:Int):=⟨_,rfl⟩
   rw[←D]at Y;have R:=Qh D;have U:=Qh G;clear D T B
   by_cases M:x=0
   ·subst M
    have E:Hid (av bs=bs.take k):=Qh (by
     have X:bs[k]'U.out=0:=by rw[←O.out];exact UInt8.toNat_inj.1 (show(bs.getD k 0).toNat=0 by have:=R.out;omega)
     have L:bs=bs.take k++bs.drop k:=(List.take_append_drop k bs).symm;rw[List.drop_eq_getElem_cons U.out,X]at L;have A:=N.out;generalize bs.take k=l at L A;rw[L];unfold av
     rw[List.takeWhile_append_of_pos (fun x D=>by simpa using A x D),List.takeWhile_cons,if_neg (by decide),List.append_nil])
    have W:(convert 26 9 (.slice (some ⟨b,o,none⟩) k c)).run Tryz.prog w=.ok (.string (str (bs.take k))) w:=
     iR (H.out.take hk) (by rw[Qg];have:=I.out;omega) _ _ _ Tryz.underlying26 Tryz.underlying5 Tryz.underlying9 _
    go_wp2;go_ret;rw[E.out];exact⟨rfl,rfl⟩
   ·have Z:(x==0)=false:=by simpa using M
    go_wp2
    go_round
    case rel=>exact⟨k+1,by omega,by go_num,Qh (fun y hy=>by
     rw[V.out,List.mem_append]at hy;rcases hy with hy|hy
     ·exact N.out y hy
     ·simp only[List.mem_singleton]at hy
      subst hy;intro e;apply M;rw[R.out,O.out,e]
      rfl)⟩
    case measure=>simp[RowKit.intOf];omega
  ·have G:Hid (k=n):=Qh (by omega)
   have E:Hid (av bs=bs):=Qh (by
    have A:=N.out;rw[G.out,←I.out,List.take_length]at A;have:=rA A 0
    simpa using this)
   go_wp2;go_ret;rw[E.out];exact⟨rfl,rfl⟩
def Fc (l:List UInt8):UInt8:=if l.getD 0 0=0 then 48 else l.getD 0 0
theorem UZ (lo B:Nat) (r:Nat→Nat) (own:Nat→List UInt8) (w:World) (hP:bB w lo B r own):
 Calls Tryz.prog 107 #[.map (some B)] w fun e w'=>e=.returned (.int .u8 ((Fc (own 7)).toNat:Int))∧w=w':=by
 unfold Fc;have J:=pb
 have L:(Instr.lookup 166 (.map (some B)) (.int .i64 7) false).run Tryz.prog w=.ok (.agg #[.int .i64 156,.slice (some ⟨r 7,0,none⟩) 1 1]) w:=
  hP.map.look (P:=Tryz.prog) Tryz.underlying166 Tryz.underlying170 (x:=7) (v:=jr r 7) rfl
 have hc:=(hP.row 7 (by omega)).cell 0 (by rw[hP.fit 7];decide);generalize H:(own 7).getD 0 0=X at*;obtain⟨x,G⟩:∃x:Int,x=(X.toNat:Int):=⟨_,rfl⟩
 rw[←G]at hc;have A:=Qh G;clear hP H G
 by_cases D:x=0
 ·have E:Hid (X=0):=Qh (UInt8.toNat_inj.1 (by have:=A.out;simp;omega))
  have I:(x==0)=true:=by simpa using D
  go_enter Tryz.func107,Tryz.ntmps107
  go_wp2;go_ret
  first|exact⟨rfl,rfl⟩|(rw[E.out];exact⟨rfl,rfl⟩)
 ·have E:Hid (X≠0):=Qh (fun e=>D (by rw[A.out,e];rfl))
  have I:(x==0)=false:=by simpa using D
  go_enter Tryz.func107,Tryz.ntmps107
  go_wp2;go_ret
  first|(rw[←A.out];exact⟨rfl,rfl⟩)|(rw[if_neg E.out,←A.out];exact⟨rfl,rfl⟩)
theorem Vs (lo B:Nat) (r:Nat→Nat) (own:Nat→List UInt8) (j7:Bool) (w:World) (hP:bB w lo B r own):
 Calls Tryz.prog 105 #[.map (some B),.bool j7] w fun e w'=>e=.returned (.string (str (o4 (av (own 10)) (av (own 0)) j7)))∧Kept ag w w':=by
 have I:=Qh hP;have hu:=oT (own 10);have R:=oT (own 0);have V:=I.out.fit 10;have W:=I.out.fit 0;obtain⟨p,T⟩:∃p,p=av (own 10):=⟨_,rfl⟩
 obtain⟨s,hs⟩:∃s,s=av (own 0):=⟨_,rfl⟩
 have Y:(str p).size≤155:=by rw[ax,T];have:=hu.1;simp only[aq]at V;omega
 have Z:(str s).size≤100:=by rw[ax,hs];have:=R.1;simp only[aq]at W;omega
 have A:=Qh T;have M:=Qh hs;clear hP hu R V W T hs;rw[←A.out,←M.out]
 by_cases h0:p=[]∨j7=true
 ·have E:Hid (o4 p s j7=s):=Qh (if_pos (by rcases h0 with h|h;exact Or.inr h;exact Or.inl h))
  rcases h0 with h0|h0
  ·have O:str p=⟨#[]⟩:=congrArg str h0
   go_enter Tryz.func105,Tryz.ntmps105
   go_wp2_with fail
   refine(oR lo B r own 10 w (by omega) I.out).mono ?_;rintro e L ⟨rfl,D⟩;rw[←A.out,O];have H:=Qh D;clear D;go_wp2_with fail;refine(oR lo B r own 0 L (by omega) (I.out.jq H.out)).mono ?_;rintro e U ⟨rfl,G⟩;rw[←M.out];have J:=Qh (H.out.trans G);clear G;go_wp2;go_ret;rw[E.out];exact⟨rfl,J.out⟩
  ·subst h0
   by_cases N:p=[]
   ·have O:str p=⟨#[]⟩:=congrArg str N
    go_enter Tryz.func105,Tryz.ntmps105
    go_wp2_with fail
    refine(oR lo B r own 10 w (by omega) I.out).mono ?_;rintro e L ⟨rfl,D⟩;rw[←A.out,O];have H:=Qh D;clear D;go_wp2_with fail;refine(oR lo B r own 0 L (by omega) (I.out.jq H.out)).mono ?_;rintro e U ⟨rfl,G⟩;rw[←M.out];have J:=Qh (H.out.trans G);clear G;go_wp2;go_ret;rw[E.out];exact⟨rfl,J.out⟩
   ·have O:(str p).toList.isEmpty=false:=by rw[ak];simpa using N
    go_enter Tryz.func105,Tryz.ntmps105
    go_wp2_with fail
    refine(oR lo B r own 10 w (by omega) I.out).mono ?_;rintro e L ⟨rfl,D⟩;rw[←A.out];have H:=Qh D;clear D;go_wp2_with fail;refine(oR lo B r own 0 L (by omega) (I.out.jq H.out)).mono ?_;rintro e U ⟨rfl,G⟩;rw[←M.out];have J:=Qh (H.out.trans G);clear G;go_wp2;go_ret;rw[E.out];exact⟨rfl,J.out⟩
 ·have N:p≠[]:=fun e=>h0 (Or.inl e)
  have X:j7=false:=by cases j7 with
   |false=>rfl
   |true=>exact absurd (Or.inr rfl) h0
  subst X
  have E:Hid (str (o4 p s false)=str p++⟨#[47]⟩++str s):=Qh (by
   rw[o4,if_neg (by simp[N]),show(⟨#[47]⟩:ByteArray)=str [47]from rfl,vm,vm]
   simp)
  have O:(str p).toList.isEmpty=false:=by rw[ak];simpa using N
  go_enter Tryz.func105,Tryz.ntmps105
  go_wp2_with fail
  refine(oR lo B r own 10 w (by omega) I.out).mono ?_;rintro e L ⟨rfl,D⟩;rw[←A.out];have H:=Qh D;clear D;go_wp2_with fail;refine(oR lo B r own 0 L (by omega) (I.out.jq H.out)).mono ?_;rintro e U ⟨rfl,G⟩;rw[←M.out];have J:=Qh (H.out.trans G);clear G;go_wp2;go_ret;rw[E.out];exact⟨rfl,J.out⟩
theorem ai0 (bs:List UInt8):(0:Int)=(bP bs 0:Nat):=by rw[bP];rfl
theorem aH8 (bs:List UInt8):(0:Int)=(jg bs 0:Nat):=by rw[jg];rfl
theorem zI (p:Option Addr) (n c:Nat) (bs:List UInt8) (w:World) (hm:n≤140737488351232) (h:iC w p n bs):
 Calls Tryz.prog 99 #[.slice p n c] w fun e w'=>e=.returned (.int .i64 (bP bs n:Nat))∧w=w':=by
 have H:=Qh h;clear h
 go_enter Tryz.func99,Tryz.ntmps99
 go_wp2
 go_loop [3,8] (fun s i=>∃(k:Nat) (m:Int),k≤n∧0≤m∧m≤255*k∧i=.int .i64 k∧s=.int .i64 m∧Hid (m=(bP bs k:Nat))) (fun _ i=>n - (RowKit.intOf i).toNat)
 case atStart=>exact⟨0,0,Nat.zero_le _,by omega,by omega,rfl,rfl,Qh (ai0 bs)⟩
 case round=>
  obtain⟨k,m,hk,L,h1,rfl,rfl,E⟩:=hrel
  by_cases D:k<n
  ·obtain⟨b,o,rfl,M,hcell⟩:=H.out.cell D
   have hc:=hcell k D;clear hcell;obtain⟨x,A⟩:∃x:Int,x=((bs.getD k 0).toNat:Int):=⟨_,rfl⟩
   rw[←A]at hc;have B:=F1 (bs.getD k 0);rw[←A]at B;have G:=Qh A;clear A;obtain⟨J,N⟩:=B;go_wp2
   go_round
   case rel=>exact⟨k+1,m+x,by omega,by omega,by omega,by go_num,rfl,Qh (by rw[E.out,G.out,bP];omega)⟩
   case measure=>simp[RowKit.intOf];omega
  ·have I:Hid (k=n):=Qh (by omega)
   go_wp2;go_ret;rw[E.out,I.out];exact⟨rfl,rfl⟩
theorem Hx (lo B:Nat) (r:Nat→Nat) (own:Nat→List UInt8) (p:Option Addr) (n c:Nat) (bs:List UInt8) (w:World) (hm:n≤140737488351232) (h:iC w p n bs) (hP:bB w lo B r own):
 Calls Tryz.prog 103 #[.map (some B),.slice p n c] w fun e w'=>e=.returned (.int .i64 ((bP bs n:Nat) - (bP (own 6) 8:Nat)+256))∧w=w':=by
 have H:=Qh h;have I:=pb;have A:=Qh hP
 have L:(Instr.lookup 166 (.map (some B)) (.int .i64 6) false).run Tryz.prog w=.ok (.agg #[.int .i64 148,.slice (some ⟨r 6,0,none⟩) 8 8]) w:=
  hP.map.look (P:=Tryz.prog) Tryz.underlying166 Tryz.underlying170 (x:=6) (v:=jr r 6) rfl
 have h1:=rp bs n;have J:=rp (own 6) 8;generalize D:bP bs n=X at*;generalize E:bP (own 6) 8=Y at*;clear h hP
 go_enter Tryz.func103,Tryz.ntmps103
 go_wp2_with fail
 refine(zI p n c bs w hm H.out).mono ?_;rintro e G ⟨rfl,rfl⟩;rw[D];go_wp2_with fail;refine(zI _ 8 8 (own 6) w (by decide) (A.out.nB (i:=6) (by omega))).mono ?_;rintro e G ⟨rfl,rfl⟩;rw[E];go_wp2;go_ret;exact⟨rfl,rfl⟩
theorem Kn (p:Option Addr) (n c:Nat) (bs:List UInt8) (w:World) (hm:n≤140737488351232) (h:iC w p n bs):
 Calls Tryz.prog 64 #[.slice p n c] w fun e w'=>e=.returned (.int .i64 (jg bs n:Nat))∧w=w':=by
 have H:=Qh h;clear h
 go_enter Tryz.func64,Tryz.ntmps64
 go_wp2
 go_loop [3,4] (fun s i=>∃(k:Nat) (m:Int),k≤n∧0≤m∧m≤255*k∧i=.int .i64 k∧s=.int .i64 m∧Hid (m=(jg bs k:Nat))) (fun _ i=>n - (RowKit.intOf i).toNat)
 case atStart=>exact⟨0,0,Nat.zero_le _,by omega,by omega,rfl,rfl,Qh (aH8 bs)⟩
 case round=>
  obtain⟨k,m,hk,N,h1,rfl,rfl,A⟩:=hrel
  by_cases J:k<n
  ·obtain⟨b,o,rfl,O,hcell⟩:=H.out.cell J
   have hc:=hcell k J;clear hcell;obtain⟨x,B⟩:∃x:Int,x=((bs.getD k 0).toNat:Int):=⟨_,rfl⟩
   rw[←B]at hc;have I:=F1 (bs.getD k 0);rw[←B]at I;have G:=Qh B;clear B;obtain⟨M,R⟩:=I
   by_cases D:148≤k∧k<156
   ·have E:=D
    obtain⟨g1,g2⟩:=E;go_wp2
    go_round
    case rel=>exact⟨k+1,m+32,by omega,by omega,by omega,by go_num,rfl,Qh (by rw[A.out,jg,if_pos D];omega)⟩
    case measure=>simp[RowKit.intOf];omega
   ·rcases Nat.lt_or_ge k 148 with g1|g1
    ·go_wp2
     go_round
     case rel=>exact⟨k+1,m+x,by omega,by omega,by omega,by go_num,rfl,Qh (by rw[A.out,G.out,jg,if_neg D];omega)⟩
     case measure=>simp[RowKit.intOf];omega
    ·have g2:156≤k:=by omega
     go_wp2
     go_round
     case rel=>exact⟨k+1,m+x,by omega,by omega,by omega,by go_num,rfl,Qh (by rw[A.out,G.out,jg,if_neg D];omega)⟩
     case measure=>simp[RowKit.intOf];omega
  ·have L:Hid (k=n):=Qh (by omega)
   go_wp2;go_ret;rw[A.out,L.out];exact⟨rfl,rfl⟩
end Head
end Go.Proofs.YtdhibldkldlfpaaGreatDoor
