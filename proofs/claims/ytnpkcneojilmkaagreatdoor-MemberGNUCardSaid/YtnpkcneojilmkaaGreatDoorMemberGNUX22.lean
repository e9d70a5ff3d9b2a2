/- Texts of this seat, merged: what the proof reaches. -/
import Derived.Test.YtnpkcneojilmkaaGreatDoorMemberGNUX13
import Derived.Maps.RangeRun
import Derived.Maps.OwnOps
import Derived.Maps.RangeWalk
import Derived.Maps.Range
import Derived.Test.YtnpkcneojilmkaaGreatDoorMemberGNUX12
import Derived.Laws.MakeOwn
import Derived.Laws.CopyOwn
import Derived.RegionTactic
import Derived.Test.YtnpkcneojilmkaaGreatDoorMemberGNUX7
import Derived.Test.YtnpkcneojilmkaaGreatDoorMemberGNUX11
import Derived.Lib.IndexLaws
section
namespace Go.Proofs.YtnpkcneojilmkaaGreatDoor.Mp
open Go.ChangeShapes Go.WideShapes Go.ChangeAt Go.RowKit Go.MapKept Base Byt
set_option linter.unusedVariables false
def keyV (k:Nat):Value:=.int .i64 k
theorem keyV_inj {a b:Nat} (h:keyV a=keyV b):a=b:=by unfold keyV at h;injection h with _ h;omega
def MapF (w:World) (B:Nat) (f:Nat → Option Value):Prop:=
 ∃ es clock,w.heap[B]? = some (.map es clock)∧Stamped es clock∧(∀ e ∈ es.toList,∃ k,e.key=keyV k∧f k=some e.val)∧(∀ k v,f k=some v → ∃ e ∈ es.toList,e.key=keyV k)
def IterF (w:World) (B R:Nat) (f:Nat → Option Value) (todo:Nat → Bool):Prop:=
 ∃ es clock since seen c0,w.heap[B]? = some (.map es clock)∧Stamped es clock∧(∀ e ∈ es.toList,∃ k,e.key=keyV k∧f k=some e.val)∧(∀ k v,f k=some v → ∃ e ∈ es.toList,e.key=keyV k) ∧
   w.heap[R]? = some (.mapIter (some B) since seen c0)∧(∀ x ∈ es.toList,x.born < since)∧since≤c0∧since≤clock∧(∀ x ∈ es.toList,∀ k,x.key=keyV k → todo k=!seen.contains x.born)
section
variable {w w':World} {B R:Nat} {f:Nat → Option Value} {todo:Nat → Bool}
theorem MapF.lt (h:MapF w B f):B < w.heap.size:=by
 obtain ⟨es,clock,hb,_⟩:=h;exact (Array.getElem?_eq_some_iff.1 hb).1
theorem MapF.kept {S:Nat → Prop} (h:MapF w B f) (hk:Kept S w w') (hB:¬ S B):MapF w' B f:=by
 obtain ⟨es,clock,hb,h⟩:=h;exact ⟨es,clock,hk.some_ hb hB,h⟩
theorem IterF.map (h:IterF w B R f todo):MapF w B f:=by
 obtain ⟨es,clock,since,seen,c0,hb,hs,h1,h2,_⟩:=h;exact ⟨es,clock,hb,hs,h1,h2⟩
theorem IterF.kept {S:Nat → Prop} (h:IterF w B R f todo) (hk:Kept S w w') (hB:¬ S B) (hR:¬ S R):IterF w' B R f todo∧w'.rangeLeft B R=w.rangeLeft B R:=by
 obtain ⟨es,clock,since,seen,c0,hb,hs,h1,h2,hr,h3⟩:=h;have hb':=hk.some_ hb hB;have hr':=hk.some_ hr hR;exact ⟨⟨es,clock,since,seen,c0,hb',hs,h1,h2,hr',h3⟩,by simp only [World.rangeLeft,hb,hr,hb',hr']⟩
theorem mapF_made (w:World):MapF (w.alloc (.map #[] 0)) w.heap.size (fun _ => none):=
 ⟨#[],0,(MapKept.heap_alloc w _).1,stamped_empty 0,by simp,by simp⟩
theorem kept_setBlock {o o':Obj} (hb:w.heap[B]? = some o):Kept (oneB B) w (Go.ChangeMaps.setBlock w B o'):=
 ⟨rfl,rfl,rfl,by simp [Go.ChangeMaps.setBlock],fun k hk hn => (MapKept.heap_set hb).2 k hn⟩
variable {P:Program} {t k e:TypeId}
theorem isKey_keyV (x:Nat):IsKey (.int .i64) (keyV x):=rfl
theorem MapF.put (h:MapF w B f) (ht:P.underlying t=some (.map k e)) (hk:P.underlying k=some (.int .i64)) (x:Nat) (v:Value) (hx:f x=none) :
 ∃ w',(Instr.mapUpdate t (.map (some B)) (keyV x) v).run P w=.ok () w'∧MapF w' B (fun y => if y=x then some v else f y)∧Kept (oneB B) w w'∧w'.heap.size=w.heap.size:=by
 obtain ⟨es,clock,hb,hs,h1,h2⟩:=h
 have hne:∀ y ∈ es.toList,y.key≠keyV x:=fun y hy hyx => by
  obtain ⟨j,hj,hf⟩:=h1 y hy;have:=keyV_inj (hj.symm.trans hyx);subst this;rw [hx] at hf
  cases hf
 have hfind:Instr.findNow (.int .i64) (keyV x) es.toList 0=some none:=by
  rcases findNow_spec (isKey_keyV x) es.toList 0 (fun y hy => by obtain ⟨j,hj,_⟩:=h1 y hy;rw [hj];exact isKey_keyV j) with ⟨h,_⟩ | ⟨j,e0,_,h3,h4⟩
  ·exact h
  ·exact absurd h4 (hne e0 (List.mem_of_getElem? h3))
 refine ⟨Go.ChangeMaps.setBlock w B (.map (es.push { key:=keyV x,val:=v,born:=clock }) (clock+1)),?_,⟨_,_,(MapKept.heap_set hb).1,stamped_push hs hne,?_,?_⟩,kept_setBlock hb,by simp [Go.ChangeMaps.setBlock]⟩
 ·simp [Instr.mapUpdate,run_underlying ht,MapKept.run_getObj_map hb,run_checkKey hk (isKey_keyV x),run_findKey hk hfind,MapKept.run_setObj_map _ hb,Result.andThen,Go.ChangeMaps.setBlock]
 ·intro y hy
  simp only [Array.toList_push,List.mem_append,List.mem_singleton] at hy;rcases hy with hy | rfl
  ·obtain ⟨j,hj,hf⟩:=h1 y hy
   refine ⟨j,hj,?_⟩;show (if j=x then some v else f j)=_
   rw [if_neg (fun e => hne y hy (by rw [hj,e]))]
   exact hf
  ·exact ⟨x,rfl,by show (if x=x then some v else f x)=_;rw [if_pos rfl]⟩
 ·intro j u hj
  simp only [Array.toList_push,List.mem_append,List.mem_singleton];have hj:(if j=x then some v else f j)=some u:=hj
  by_cases hjx:j=x
  ·exact ⟨_,Or.inr rfl,by rw [hjx]⟩
  ·rw [if_neg hjx] at hj
   obtain ⟨y,hy,hk⟩:=h2 j u hj;exact ⟨y,Or.inl hy,hk⟩
theorem MapF.look (h:MapF w B f) (ht:P.underlying t=some (.map k e)) (hk:P.underlying k=some (.int .i64)) {x:Nat} {v:Value} (hx:f x=some v) :
 (Instr.lookup t (.map (some B)) (keyV x) false).run P w=.ok v w:=by
 obtain ⟨es,clock,hb,hs,h1,h2⟩:=h;obtain ⟨e1,he1,hk1⟩:=h2 x v hx;rcases findNow_spec (isKey_keyV x) es.toList 0 (fun y hy => by obtain ⟨j,hj,_⟩:=h1 y hy;rw [hj];exact isKey_keyV j) with ⟨_,hno⟩ | ⟨j,e0,hfind,h3,h4⟩
 ·exact absurd hk1 (hno e1 he1)
 ·have hv:e0.val=v:=by
   obtain ⟨j',hj',hf⟩:=h1 e0 (List.mem_of_getElem? h3);have:=keyV_inj (hj'.symm.trans h4);subst this;rw [hx] at hf;exact (Option.some.inj hf).symm
  have hfind':Instr.findNow (.int .i64) (keyV x) es.toList 0=some (some (0+j,e0.val)):=by simpa using hfind
  simp [Instr.lookup,run_underlying ht,MapKept.run_getObj_map hb,run_checkKey hk (isKey_keyV x),run_findKey hk hfind',Result.andThen,hv]
theorem MapF.range (h:MapF w B f) (ht:P.underlying t=some (.map k e)) (htodo:∀ j v,f j=some v → todo j=true) :
 ∃ w',(Instr.range t (.map (some B))).run P w=.ok (.pointer (some ⟨w.heap.size,0,none⟩)) w'∧IterF w' B w.heap.size f todo∧Kept noneB w w'∧w'.heap.size=w.heap.size+1:=by
 have hlt:=h.lt;obtain ⟨es,clock,hb,hs,h1,h2⟩:=h;refine ⟨_,run_range_map w t k e B es clock ht hb,⟨es,clock,clock,#[],clock,((MapKept.heap_alloc w _).2 B hlt).trans hb,hs,h1,h2,(MapKept.heap_alloc w _).1,hs.1,Nat.le_refl _,Nat.le_refl _,?_⟩,(Kept.refl _ _).alloc _,by simp⟩
 intro x hx j hj;obtain ⟨j',hj',hf⟩:=h1 x hx;have:=keyV_inj (hj'.symm.trans hj);subst this;simp [htodo _ _ hf]
theorem IterF.next (h:IterF w B R f todo) (ty:TypeId) :
 ((∀ j v,f j=some v → todo j=false)∧(Instr.next (.pointer (some ⟨R,0,none⟩)) false ty).run P w=.ok (.tuple #[.bool false]) w) ∨
 ∃ j v w',f j=some v∧todo j=true∧(Instr.next (.pointer (some ⟨R,0,none⟩)) false ty).run P w=.ok (.tuple #[.bool true,keyV j,v]) w'∧IterF w' B R f (fun z => todo z && z != j)∧w'.rangeLeft B R < w.rangeLeft B R ∧
   Kept (oneB R) w w'∧w'.heap.size=w.heap.size∧(Instr.entry (.pointer (some ⟨R,0,none⟩))).run P w'=.ok (.tuple #[keyV j,v]) w':=by
 obtain ⟨es,clock,since,seen,c0,hb,hs,h1,h2,hr,hold,hsc,hsk,htd⟩:=h;have hBR:B≠R:=fun e => by subst e;rw [hb] at hr;cases hr
 rcases run_next_at (P:=P) w ty R B since c0 seen es clock hr hb hold hsc with ⟨h0,hrun⟩ | ⟨e,he,w1,hal,hrun⟩
 ·refine Or.inl ⟨fun j v hj => ?_,hrun⟩
  obtain ⟨x,hx,hk⟩:=h2 j v hj;rw [htd x hx j hk,all_seen es seen h0 x hx];rfl
 ·obtain ⟨hem,hes⟩:=mem_left he
  obtain ⟨j,hj,hf⟩:=h1 e hem;have hr1:w1.heap[R]? = some (.mapIter (some B) since seen c0):=by rcases hal with rfl | rfl<;>exact hr
  have hb1:w1.heap[B]? = some (.map es clock):=by rcases hal with rfl | rfl<;>exact hb
  have hk1:Kept (oneB R) w w1:=by
   rcases hal with rfl | rfl
   ·exact Kept.refl _ _
   ·exact (Kept.refl _ _).drew
  have hrs:(Go.ChangeMaps.setBlock w1 R (.mapIter (some B) since (seen.push e.born) clock)).heap[R]? = some (.mapIter (some B) since (seen.push e.born) clock):=(MapKept.heap_set hr1).1;have hbs:(Go.ChangeMaps.setBlock w1 R (.mapIter (some B) since (seen.push e.born) clock)).heap[B]? = some (.map es clock):=((MapKept.heap_set hr1).2 B hBR).trans hb1
  have hsz:(Go.ChangeMaps.setBlock w1 R (.mapIter (some B) since (seen.push e.born) clock)).heap.size=w.heap.size:=by
   have:w1.heap.size=w.heap.size:=by rcases hal with rfl | rfl<;>rfl
   simp [Go.ChangeMaps.setBlock,this]
  rw [hj] at hrun;refine Or.inr ⟨j,e.val,_,hf,?_,hrun,⟨es,clock,since,seen.push e.born,clock,hbs,hs,h1,h2,hrs,hold,hsk,hsk,?_⟩,?_,hk1.trans (kept_setBlock hr1),hsz,?_⟩
  ·rw [htd e hem j hj,hes];rfl
  ·intro x hx i hi
   show (todo i && i != j)=!(seen.push e.born).contains x.born;rw [htd x hx i hi,contains_push,Bool.not_or]
   congr 1
   by_cases hij:i=j
   ·have hxe:x=e:=entry_eq_of_key ((stamped_iff es clock).1 hs).2.2 hx hem (by rw [hi,hj,hij])
    subst hxe;simp [hij]
   ·have hxe:x.born≠e.born:=fun hh => hij (by
     obtain rfl:=born_inj hs.2.1 hx hem hh
     exact keyV_inj (hi.symm.trans hj))
    have h5:(x.born == e.born)=false:=by simpa using hxe
    have h6:(i != j)=true:=by simpa using hij
    rw [h5,h6];rfl
  ·simp only [World.rangeLeft,hb,hr,hbs,hrs]
   exact left_shrinks es seen e he
  ·rw [← hj]
   exact run_entry_at _ R B since seen es clock e hrs hbs hem hs.2.1
end
section
variable {P:Program} {w:World} {ops:Array Oper} {rest:List Oper} {o:Oper} {a:Act} {Q:Exit → Act → World → Prop} {f:Nat → Option Value} {t k e:TypeId}
theorem wpList_insertF (hg:o.guard=none) (m x v:Operand) (hop:o.op=.mapUpdate t m x v ∨ o.op=.insert t m x v) (ht:P.underlying t=some (.map k e)) (hk:P.underlying k=some (.int .i64))
 (B:Nat) (h:MapF w B f) (hm:a.eval m=.map (some B)) (key:Nat) (hx:a.eval x=keyV key) (hf:f key=none) (val:Value) (hv:a.eval v=val)
 (hK:∀ w',Hid (MapF w' B (fun y => if y=key then some val else f y)) → Hid (Kept (oneB B) w w') → w'.heap.size=w.heap.size → wpList P ops Q rest (a.put o.dst undef) w'):wpList P ops Q (o :: rest) a w:=by
 refine wpList_plain hg fun K' hK' => ?_
 subst hv;obtain ⟨w',hrun,h1,h2,h3⟩:=h.put ht hk key (a.eval v) hf;unfold Oper.wp;rcases hop with hop | hop
 ·simp [execOp,hop,hm,hx,hrun,Result.andThen]
  exact hK' _ _ (hK w' (Lib.hid h1) (Lib.hid h2) h3)
 ·simp [execOp,hop,hm,hx,hrun,Result.andThen]
  exact hK' _ _ (hK w' (Lib.hid h1) (Lib.hid h2) h3)
theorem wpList_rangeF (hg:o.guard=none) (m:Operand) (hop:o.op=.range t m) (ht:P.underlying t=some (.map k e)) (B:Nat) (h:MapF w B f) (todo:Nat → Bool) (htodo:∀ j v,f j=some v → todo j=true) (hm:a.eval m=.map (some B)) (R:Nat) (hR:R=w.heap.size)
 (hK:∀ w',Hid (IterF w' B R f todo) → Hid (Kept noneB w w') → w'.heap.size=w.heap.size+1 → wpList P ops Q rest (a.put o.dst (.pointer (some ⟨R,0,none⟩))) w'):wpList P ops Q (o :: rest) a w:=by
 subst hR;refine wpList_plain hg fun K' hK' => ?_
 obtain ⟨w',hrun,h1,h2,h3⟩:=h.range (P:=P) ht htodo;unfold Oper.wp;simp [execOp,hop,hm,hrun,Result.andThen];exact hK' _ _ (hK w' (Lib.hid h1) (Lib.hid h2) h3)
theorem wpList_nextF (hg:o.guard=none) (it:Operand) (hop:o.op=.next it false) (B R:Nat) (todo:Nat → Bool) (mkV:Nat → Value) (hf:∀ j v,f j=some v → v=mkV j) (hit:a.eval it=.pointer (some ⟨R,0,none⟩)) (h:IterF w B R f todo)
 (hDone:(∀ j v,f j=some v → todo j=false) → wpList P ops Q rest (a.put o.dst (.tuple #[.bool false])) w)
 (hMore:∀ (j:Nat) (w':World) (v:Value),f j=some v → todo j=true → Hid (IterF w' B R f (fun z => todo z && z != j)) → Hid (w'.rangeLeft B R < w.rangeLeft B R) → Hid (Kept (oneB R) w w') → w'.heap.size=w.heap.size →
  (Instr.entry (.pointer (some ⟨R,0,none⟩))).run P w'=.ok (.tuple #[.int .i64 j,mkV j]) w' → wpList P ops Q rest (a.put o.dst (.tuple #[.bool true,.int .i64 j,mkV j])) w'):wpList P ops Q (o :: rest) a w:=by
 refine wpList_plain hg fun K' hK' => ?_
 unfold Oper.wp;rcases h.next (P:=P) o.type with ⟨h0,hrun⟩ | ⟨j,v,w',hj,htj,hrun,hi,hlt,hkp,hsz,hen⟩
 ·simp [execOp,hop,hit,hrun,Result.andThen]
  exact hK' _ _ (hDone h0)
 ·obtain rfl:=hf j v hj
  simp [execOp,hop,hit,hrun,Result.andThen];exact hK' _ _ (hMore j w' _ hj htj (Lib.hid hi) (Lib.hid hlt) (Lib.hid hkp) hsz hen)
end
end Go.Proofs.YtnpkcneojilmkaaGreatDoor.Mp
end
section
namespace Go.Proofs.YtnpkcneojilmkaaGreatDoor.Mp
open Go.ChangeShapes Go.WideShapes Go.ChangeAt Go.RowKit Go.MapKept Base Byt Hp Go.Lib
set_option linter.unusedVariables false
theorem cellsAt {w:World} {g:Nat} {cs:Array Value} {e:TypeId} (h:w.heap[g]? = some (.cells cs e (0,0))) (i:Nat):w.cell? ⟨g,i,none⟩=cs[i]?:=by
 simp [World.cell?,h]
theorem cellsFrozen {w:World} {g:Nat} {cs:Array Value} {e:TypeId} (h:w.heap[g]? = some (.cells cs e (0,0))) (i:Nat):w.frozen? ⟨g,i,none⟩=false:=by
 simp [World.frozen?,h]
def bv (x:UInt8):Value:=.int .u8 (x.toNat:Int)
def RowB (w:World) (g:Nat) (bs:List UInt8):Prop:=w.heap[g]? = some (.cells (bs.map bv).toArray 5 (0,0))
section
variable {w w':World} {g:Nat} {bs:List UInt8}
theorem RowB.lt (h:RowB w g bs):g < w.heap.size:=(Array.getElem?_eq_some_iff.1 h).1
theorem RowB.kept {S:Nat → Prop} (h:RowB w g bs) (hk:Kept S w w') (hg:¬ S g):RowB w' g bs:=hk.some_ h hg
theorem RowB.bat (h:RowB w g bs):BAt w (some ⟨g,0,none⟩) bs.length bs:=fun _ => ⟨g,0,rfl,fun i hi => by
 simp only [World.cell?,RowB] at h ⊢;rw [h]
 simp [List.getD,hi,bv]⟩
theorem RowB.cell (h:RowB w g bs) (i:Nat) (hi:i < bs.length):w.cell? ⟨g,i,none⟩=some (.int .u8 ((bs.getD i 0).toNat:Int)):=by
 obtain ⟨b,o,he,hc⟩:=h.bat (by omega)
 cases he
 have:=hc i hi
 rwa [Nat.zero_add] at this
theorem RowB.frozen (h:RowB w g bs) (i:Nat):w.frozen? ⟨g,i,none⟩=false:=by
 simp only [World.frozen?,RowB] at h ⊢;rw [h];rfl
theorem RowB.set (h:RowB w g bs) (i:Nat) (x:UInt8):RowB (w.setCell ⟨g,i,none⟩ (.int .u8 (x.toNat:Int))) g (bs.set i x):=by
 unfold RowB at h ⊢;rw [setCell_eq_setRow w g i _ _ _ _ h];rw [setRow_heap w g _ _ _ _ h]
 congr 2
 apply Array.toList_inj.1;simp [List.map_set,bv]
theorem made_row (n:Nat):madeCells #[Value.int .u8 0] n=((List.replicate n (0:UInt8)).map bv).toArray:=by
 apply Array.toList_inj.1;rw [toList_madeCells_one,List.map_replicate];rfl
theorem rowB_made (w:World) (n:Nat):RowB (w.alloc (.cells (madeCells #[Value.int .u8 0] n) 5)) w.heap.size (List.replicate n 0):=by
 unfold RowB;rw [made_row];exact heap_alloc_new w _
theorem rowB_own {B n:Nat} (h:w.ownsRow B 5 1 (.slice (some ⟨g,0,none⟩) n n) n (madeCells (Value.int .u8 0).cells (n * 1)).toList):RowB w g (List.replicate n 0):=by
 rcases h.2 with ⟨h1,_⟩ | ⟨g',cap,cur,he,_,hb,_,_,hs,ht⟩
 ·cases h1
 ·cases he
  unfold RowB;rw [hb]
  congr 2
  rw [← made_row];apply Array.toList_inj.1;rw [List.take_of_length_le (by simp [hs])] at ht
  rw [ht,Nat.mul_one];rfl
end
theorem run_copyB {P:Program} {w:World} (dT sT ty elem:TypeId) (hu:P.underlying dT=some (.slice elem)) (hsz:(P.info? elem).map (·.size)=some 1) (dp sp:Option Addr) (dLen dCap sLen sCap:Nat)
 (g off:Nat) (bs:List UInt8) (hg:RowB w g bs) (cs:List UInt8) (hn:cs.length=Nat.min sLen dLen) (hpos:0 < cs.length → dp=some ⟨g,off,none⟩) (hsrc:BAt w sp cs.length cs) (hfit:off+cs.length≤bs.length) :
 ∃ w',(Builtin.copy_ #[dT,sT] ty #[.slice dp dLen dCap,.slice sp sLen sCap]).run P w=.ok (goInt cs.length) w'∧RowB w' g (splice bs off cs)∧Kept (oneB g) w w'∧w'.heap.size=w.heap.size:=by
 by_cases h0:cs.length=0
 ·obtain rfl:cs=[]:=List.eq_nil_of_length_eq_zero h0
  exact ⟨w,run_copy_none (P:=P) w dT sT ty elem dp sp dLen dCap sLen sCap hu hsz (by simpa using hn.symm),by simpa [splice] using hg,Kept.refl _ _,rfl⟩
 ·obtain rfl:=hpos (by omega)
  obtain ⟨b,o,rfl,hc⟩:=hsrc (by omega)
  have hr:=run_copy_row (P:=P) w dT sT ty elem g off dLen dCap ⟨b,o,none⟩ sLen sCap _ _ (cs.map bv) hu hsz hg (by simpa using hn) (fun j v hj => by
   have hj1:j < cs.length:=by simpa using (List.getElem?_eq_some_iff.1 hj).1
   rw [WideShapes.add_plain,hc j hj1];rw [List.getElem?_map,List.getElem?_eq_getElem hj1] at hj;rw [← hj];simp [List.getD,hj1,bv]) (by simpa using hfit) (fun v hv => by
   obtain ⟨x,_,rfl⟩:=List.mem_map.1 hv
   rfl)
  have e:((bs.map bv).toArray.toList.take off++cs.map bv++(bs.map bv).toArray.toList.drop (off+(cs.map bv).length)).toArray=((splice bs off cs).map bv).toArray:=by
   simp [splice,List.map_take,List.map_drop]
  rw [e,List.length_map] at hr;exact ⟨w.setRow g ((splice bs off cs).map bv).toArray,hr,setRow_heap w g _ _ _ _ hg,⟨rfl,rfl,rfl,by simp [World.setRow],fun k hk hn => setRow_other w g k _ hn⟩,by simp [World.setRow]⟩
theorem run_copyS {P:Program} {w:World} (dT sT ty elem:TypeId) (hu:P.underlying dT=some (.slice elem)) (hsz:(P.info? elem).map (·.size)=some 1) (dp:Option Addr) (dLen dCap:Nat) (s:ByteArray)
 (g off:Nat) (bs:List UInt8) (hg:RowB w g bs) (cs:List UInt8) (hn:cs=s.data.toList.take dLen) (hpos:0 < cs.length → dp=some ⟨g,off,none⟩) (hfit:off+cs.length≤bs.length) :
 ∃ w',(Builtin.copy_ #[dT,sT] ty #[.slice dp dLen dCap,.string s]).run P w=.ok (goInt cs.length) w'∧RowB w' g (splice bs off cs)∧Kept (oneB g) w w'∧w'.heap.size=w.heap.size:=by
 have hsz':s.data.toList.length=s.size:=by simp
 have hl':cs.length=min s.size dLen:=by
  rw [hn,List.length_take];omega
 have hl:cs.length=Nat.min s.size dLen:=hl'
 have hcs:((s.data.toList.map fun x => Value.int .u8 (x.toNat:Int)).take (Nat.min s.size dLen))=cs.map bv:=by
  rw [← List.map_take,hn];show (s.data.toList.take (min s.size dLen)).map _=_
  by_cases h:s.size≤dLen
  ·rw [Nat.min_eq_left h,List.take_of_length_le (by omega),List.take_of_length_le (by omega)]
   rfl
  ·rw [Nat.min_eq_right (by omega)]
   rfl
 obtain ⟨i,hi⟩:∃ i,P.info? elem=some i:=by
  cases h:P.info? elem with
  | none => rw [h] at hsz;cases hsz
  | some i => exact ⟨i,rfl⟩
 by_cases h0:cs.length=0
 ·obtain rfl:cs=[]:=List.eq_nil_of_length_eq_zero h0
  refine ⟨w,?_,by simpa [splice] using hg,Kept.refl _ _,rfl⟩
  have h1:Nat.min s.size dLen=0:=by simpa using hl.symm
  cases dp with
  | none => simp [Builtin.copy_,run_underlying hu,Builtin.lenOf,Builtin.firstCells,sizeOf,typeInfo,hi,h1]
  | some a => simp [Builtin.copy_,run_underlying hu,Builtin.lenOf,Builtin.firstCells,sizeOf,typeInfo,hi,h1,storeCells]
 ·obtain rfl:=hpos (by omega)
  have hst:=run_storeCells_at P g off _ (cs.map bv) 0 _ w hg (by simpa using hfit) (fun v hv => by
   obtain ⟨x,_,rfl⟩:=List.mem_map.1 hv
   rfl)
  have e:((bs.map bv).toArray.toList.take (off+0)++cs.map bv++(bs.map bv).toArray.toList.drop (off+0+(cs.map bv).length)).toArray=((splice bs off cs).map bv).toArray:=by
   simp [splice,List.map_take,List.map_drop]
  rw [e] at hst;refine ⟨w.setRow g ((splice bs off cs).map bv).toArray,?_,setRow_heap w g _ _ _ _ hg,⟨rfl,rfl,rfl,by simp [World.setRow],fun k hk hn => setRow_other w g k _ hn⟩,by simp [World.setRow]⟩
  simp [Builtin.copy_,run_underlying hu,Builtin.lenOf,Builtin.firstCells,sizeOf,typeInfo,hi,hcs,hst,hl]
section
variable {P:Program} {w:World} {ops:Array Oper} {rest:List Oper} {o:Oper} {a:Act} {Q:Exit → Act → World → Prop}
theorem wpList_copyB (hgd:o.guard=none) (d s:Operand) (dT sT:TypeId) (ho:o.op=.call { callee:=.builtin .copy,args:=#[d,s],argTypes:=#[dT,sT] }) (elem:TypeId) (hu:P.underlying dT=some (.slice elem)) (hsz:(P.info? elem).map (·.size)=some 1)
 (dp sp:Option Addr) (dLen dCap sLen sCap:Nat) (hd:a.eval d=.slice dp dLen dCap) (hs:a.eval s=.slice sp sLen sCap)
 (g off:Nat) (bs:List UInt8) (hg:RowB w g bs) (cs:List UInt8) (hn:cs.length=Nat.min sLen dLen) (hpos:0 < cs.length → dp=some ⟨g,off,none⟩) (hsrc:BAt w sp cs.length cs) (hfit:off+cs.length≤bs.length)
 (h:∀ w',Hid (RowB w' g (splice bs off cs)) → Kept (oneB g) w w' → w'.heap.size=w.heap.size → wpList P ops Q rest (a.put o.dst (goInt cs.length)) w'):wpList P ops Q (o :: rest) a w:=by
 refine wpList_plain hgd fun K hK => ?_
 obtain ⟨w',hrun,h1,h2,h3⟩:=run_copyB (P:=P) dT sT o.type elem hu hsz dp sp dLen dCap sLen sCap g off bs hg cs hn hpos hsrc hfit;unfold Oper.wp;simp [execOp,ho,resolve,invoke,builtin,hd,hs,hrun,Result.andThen];exact hK _ _ (h w' (Lib.hid h1) h2 h3)
theorem wpList_copyS (hgd:o.guard=none) (d s:Operand) (dT sT:TypeId) (ho:o.op=.call { callee:=.builtin .copy,args:=#[d,s],argTypes:=#[dT,sT] }) (elem:TypeId) (hu:P.underlying dT=some (.slice elem)) (hsz:(P.info? elem).map (·.size)=some 1)
 (dp:Option Addr) (dLen dCap:Nat) (str:ByteArray) (hd:a.eval d=.slice dp dLen dCap) (hs:a.eval s=.string str)
 (g off:Nat) (bs:List UInt8) (hg:RowB w g bs) (cs:List UInt8) (hn:cs=str.data.toList.take dLen) (hpos:0 < cs.length → dp=some ⟨g,off,none⟩) (hfit:off+cs.length≤bs.length)
 (h:∀ w',Hid (RowB w' g (splice bs off cs)) → Kept (oneB g) w w' → w'.heap.size=w.heap.size → wpList P ops Q rest (a.put o.dst (goInt cs.length)) w'):wpList P ops Q (o :: rest) a w:=by
 refine wpList_plain hgd fun K hK => ?_
 obtain ⟨w',hrun,h1,h2,h3⟩:=run_copyS (P:=P) dT sT o.type elem hu hsz dp dLen dCap str g off bs hg cs hn hpos hfit;unfold Oper.wp;simp [execOp,ho,resolve,invoke,builtin,hd,hs,hrun,Result.andThen];exact hK _ _ (h w' (Lib.hid h1) h2 h3)
theorem step_copyB {K:Act → World → Prop} {E:Prop} (hgd:o.guard=none) (d s:Operand) (dT sT:TypeId) (ho:o.op=.call { callee:=.builtin .copy,args:=#[d,s],argTypes:=#[dT,sT] }) (elem:TypeId) (hu:P.underlying dT=some (.slice elem)) (hsz:(P.info? elem).map (·.size)=some 1)
 (dp sp:Option Addr) (dLen dCap sLen sCap:Nat) (hd:a.eval d=.slice dp dLen dCap) (hs:a.eval s=.slice sp sLen sCap)
 (g off:Nat) (bs:List UInt8) (hg:RowB w g bs) (cs:List UInt8) (hn:cs.length=Nat.min sLen dLen) (hpos:0 < cs.length → dp=some ⟨g,off,none⟩) (hsrc:BAt w sp cs.length cs) (hfit:off+cs.length≤bs.length)
 (h:∀ w',Hid (RowB w' g (splice bs off cs)) → Kept (oneB g) w w' → w'.heap.size=w.heap.size → K (a.put o.dst (goInt cs.length)) w') :
 if Region.wanted o (yielded ops a.tmps)=true then Oper.wp P o a w K Q else E:=by
 have hw:Region.wanted o (yielded ops a.tmps)=true:=by simp [Region.wanted,hgd]
 rw [if_pos hw];obtain ⟨w',hrun,h1,h2,h3⟩:=run_copyB (P:=P) dT sT o.type elem hu hsz dp sp dLen dCap sLen sCap g off bs hg cs hn hpos hsrc hfit;unfold Oper.wp;simp [execOp,ho,resolve,invoke,builtin,hd,hs,hrun,Result.andThen];exact h w' (Lib.hid h1) h2 h3
end
def partV (r:Nat → Nat) (i:Nat):Value:=.agg #[.int .i64 (atF i),.slice (some ⟨r i,0,none⟩) (wideF i) (wideF i)]
def partF (r:Nat → Nat):Nat → Option Value:=fun i => if i < 11 then some (partV r i) else none
structure PartsAt (w:World) (lo B:Nat) (r:Nat → Nat) (own:Nat → List UInt8):Prop where
 map:MapF w B (partF r)
 row:∀ i,i < 11 → RowB w (r i) (own i)
 fit:Fits own
 inj:∀ i j,i < 11 → j < 11 → r i=r j → i=j
 lo:lo≤B ∧ ∀ i,i < 11 → lo≤r i
section
variable {w w':World} {lo B:Nat} {r:Nat → Nat} {own:Nat → List UInt8}
theorem PartsAt.kept {S:Nat → Prop} (h:PartsAt w lo B r own) (hk:Kept S w w') (hB:¬ S B) (hr:∀ i,i < 11 → ¬ S (r i)):PartsAt w' lo B r own:=
 ⟨h.map.kept hk hB,fun i hi => (h.row i hi).kept hk (hr i hi),h.fit,h.inj,h.lo⟩
theorem PartsAt.kept0 (h:PartsAt w lo B r own) (hk:Kept noneB w w'):PartsAt w' lo B r own:=h.kept hk id fun _ _ => id
theorem PartsAt.offB (h:PartsAt w lo B r own) {i:Nat} (hi:i < 11):r i≠B:=fun e => by
 obtain ⟨es,clock,hb,_⟩:=h.map;have:=h.row i hi;unfold RowB at this;rw [e,hb] at this
 cases this
theorem PartsAt.bat (h:PartsAt w lo B r own) {i:Nat} (hi:i < 11):BAt w (some ⟨r i,0,none⟩) (wideF i) (own i):=by
 have:=(h.row i hi).bat
 rwa [h.fit i] at this
theorem PartsAt.wrote (h:PartsAt w lo B r own) {i:Nat} (hi:i < 11) (hk:Kept (oneB (r i)) w w') {l:List UInt8} (hl:l.length=wideF i) (hr:RowB w' (r i) l):PartsAt w' lo B r (upd own i l):=
 ⟨h.map.kept hk (fun e => h.offB hi (Eq.symm e)),fun j hj => by
  by_cases hji:j=i
  ·subst hji;rw [upd_same];exact hr
  ·rw [upd_other _ _ hji]
   exact (h.row j hj).kept hk (fun e => hji (h.inj j i hj hi e)),h.fit.upd hl,h.inj,h.lo⟩
end
end Go.Proofs.YtnpkcneojilmkaaGreatDoor.Mp
end
section
namespace Go.Proofs.YtnpkcneojilmkaaGreatDoor.Head
open Go.ChangeShapes Go.WideShapes Go.ChangeAt Go.RowKit Go.MapKept Base Byt Txt Hp Go.Proofs.YtnpkcneojilmkaaGreatDoor.Mp Go.Lib
set_option linter.unusedVariables false
def opsOf2 (f:Func):Array Oper:=
 match f.body with
 | some (.seq _ (.region _ ops _)) => ops
 | some (.seq _ (.seq (.region _ ops _) _)) => ops
 | _ => #[]
noncomputable def blankOps:Array Oper:=opsOf2 Tryz.f102
theorem op_map:∃ o,blankOps[0]? = some o∧o.op=.makeMap 117 none∧o.dst=some 1∧o.guard=none:=⟨_,rfl,rfl,rfl,rfl⟩
theorem op_make:∀ i,i < 11 → ∃ o,blankOps[1+3 * i]? = some o∧o.op=.makeSlice 24 (.const (.int .i64 (wideF i))) (.const (.int .i64 (wideF i)))∧o.dst=some (2+2 * i)∧o.guard=none:=by
 intro i hi;rcases cases11 hi with rfl | rfl | rfl | rfl | rfl | rfl | rfl | rfl | rfl | rfl | rfl<;>exact ⟨_,rfl,rfl,rfl,rfl⟩
theorem op_build:∀ i,i < 11 → ∃ o,blankOps[2+3 * i]? = some o∧o.op=.build 122 #[(0,.const (.int .i64 (atF i))),(1,.tmp (2+2 * i))]∧o.dst=some (3+2 * i)∧o.guard=none∧o.after=#[⟨1+3 * i,.data⟩]:=by
 intro i hi;rcases cases11 hi with rfl | rfl | rfl | rfl | rfl | rfl | rfl | rfl | rfl | rfl | rfl<;>exact ⟨_,rfl,rfl,rfl,rfl,rfl⟩
theorem op_ins:∀ i,i < 11 → ∃ o,blankOps[3+3 * i]? = some o∧o.op=.insert 117 (.tmp 1) (.const (.int .i64 (i:Int))) (.tmp (3+2 * i))∧o.dst=none∧o.guard=none∧o.after=#[⟨0,.data⟩,⟨2+3 * i,.data⟩]:=by
 intro i hi;rcases cases11 hi with rfl | rfl | rfl | rfl | rfl | rfl | rfl | rfl | rfl | rfl | rfl<;>exact ⟨_,rfl,rfl,rfl,rfl,rfl⟩
theorem op_move:∃ o,blankOps[34]? = some o∧o.op=.move (.tmp 1)∧o.dst=some 24∧o.guard=none∧o.after[0]? = some ⟨0,.data⟩:=⟨_,rfl,rfl,rfl,rfl,rfl⟩
theorem op_assign:∃ o,blankOps[35]? = some o∧o.op=.assign (.tmp 24)∧o.dst=some 0∧o.guard=none∧o.after[0]? = some ⟨34,.data⟩:=⟨_,rfl,rfl,rfl,rfl,rfl⟩
theorem op_size:blankOps.size=36:=rfl
theorem op_deps:∀ i o,blankOps[i]? = some o → ∀ e ∈ o.after,Region.binds .any e=true → e.on < i:=by
 have h:(blankOps.toList.zipIdx.all fun x => x.1.after.all fun e => decide (e.on < x.2))=true:=by decide +kernel
 intro i o ho e he _;rw [List.all_eq_true] at h;have h1:=h (o,i) (by rw [List.mem_iff_getElem?];exact ⟨i,by simp [ho]⟩)
 have h2:=Array.all_eq_true_iff_forall_mem.1 h1 e he
 simpa using h2
structure BI (w0:World) (listed:Array Bool) (a:Act) (w:World) (B:Nat) (r:Nat → Nat):Prop where
 ls:listed.size=36
 ts:a.tmps.size=25
 df:a.defers=[]
 kept:Kept noneB w0 w
 m0:listed.getD 0 false=true → a.eval (.tmp 1)=.map (some B)∧w0.heap.size≤B∧MapF w B (fun i => if i < 11∧listed.getD (3+3 * i) false=true then some (partV r i) else none)
 mks:∀ i,i < 11 → listed.getD (1+3 * i) false=true → a.eval (.tmp (2+2 * i))=.slice (some ⟨r i,0,none⟩) (wideF i) (wideF i)∧w0.heap.size≤r i∧RowB w (r i) (List.replicate (wideF i) 0)
 bd:∀ i,i < 11 → listed.getD (2+3 * i) false=true → a.eval (.tmp (3+2 * i))=partV r i∧listed.getD (1+3 * i) false=true
 ins:∀ i,i < 11 → listed.getD (3+3 * i) false=true → listed.getD (2+3 * i) false=true∧listed.getD 0 false=true
 inj:∀ i j,i < 11 → j < 11 → listed.getD (1+3 * i) false=true → listed.getD (1+3 * j) false=true → r i=r j → i=j
 mv:listed.getD 34 false=true → listed.getD 0 false=true∧a.eval (.tmp 24)=.map (some B)
 asg:listed.getD 35 false=true → listed.getD 34 false=true∧a.eval (.tmp 0)=.map (some B)
theorem build_part (w:World) (i:Nat) (x:Value) (hx:∃ p l c,x=.slice p l c):(Instr.build 122 #[(0,.int .i64 (atF i)),(1,x)]).run Tryz.prog w=.ok (.agg #[.int .i64 (atF i),x]) w:=by
 obtain ⟨p,l,c,rfl⟩:=hx
 kernel_rfl
section
variable {w0 w:World} {listed:Array Bool} {a:Act} {B:Nat} {r:Nat → Nat} {Q:Exit → Act → World → Prop}
def BX (w0:World) (listed:Array Bool) (a:Act) (w:World):Prop:=∃ B r,BI w0 listed a w B r
theorem step_map (h:BI w0 listed a w B r) (hr:0 ∈ Region.ready .any blankOps listed):wpOp Tryz.prog blankOps Q 0 (BX w0 (listed.setIfInBounds 0 true)) a w:=by
 have hun:=(mem_ready.1 hr).1;have hf:=getD_flip hun;have hlt:=lt_of_unlisted hun;obtain ⟨o,ho,hop,hd,hg⟩:=op_map;refine wpOp_step ho fun K hK => ?_
 rw [if_pos (by simp [Region.wanted,hg])]
 have hrun:=@run_makeMap Tryz.prog 117 w;unfold Oper.wp;simp [execOp,hop,hrun,Result.andThen];rw [Oper.upon_value,hd];refine hK _ _ ⟨w.heap.size,r,?_⟩;have hsz:=h.ts;have hkA:Kept noneB w (w.alloc (.map #[] 0)):=(Kept.refl _ _).alloc _;have ev:∀ t:Nat,t≠1 → (a.put (some 1) (.map (some w.heap.size))).eval (.tmp t)=a.eval (.tmp t):=fun t ht => by rw [put_eval _ (by omega),if_neg ht]
 have no:∀ i,i < 11 → listed.getD (3+3 * i) false=false:=fun i hi => by
  cases hc:listed.getD (3+3 * i) false with
  | false => rfl
  | true => have:=(h.ins i hi hc).2;rw [hf] at this;cases this
 refine ⟨by simpa using h.ls,by rw [put_size];exact hsz,by rw [put_defers];exact h.df,h.kept.trans hkA,fun _ => ⟨by rw [put_eval _ (by omega),if_pos rfl],h.kept.size,?_⟩,?_,?_,?_,?_,?_,?_⟩
 ·have e:(fun i => if i < 11∧(listed.setIfInBounds 0 true).getD (3+3 * i) false=true then some (partV r i) else none)=fun _ => (none:Option Value):=by
   funext i
   rw [listed_get hlt,if_neg (show ¬ 3+3 * i=0 by omega)]
   by_cases hi:i < 11
   ·rw [no i hi];simp
   ·simp [hi]
  rw [e];exact mapF_made w
 ·intro i hi hl
  rw [listed_get hlt,if_neg (show ¬ 1+3 * i=0 by omega)] at hl
  obtain ⟨h1,h2,h3⟩:=h.mks i hi hl;exact ⟨by rw [ev _ (by omega)];exact h1,h2,h3.kept hkA id⟩
 ·intro i hi hl
  rw [listed_get hlt,if_neg (show ¬ 2+3 * i=0 by omega)] at hl
  obtain ⟨h1,h2⟩:=h.bd i hi hl;exact ⟨by rw [ev _ (by omega)];exact h1,by rw [listed_get hlt,if_neg (by omega)];exact h2⟩
 ·intro i hi hl
  rw [listed_get hlt,if_neg (show ¬ 3+3 * i=0 by omega),no i hi] at hl
  cases hl
 ·intro i j hi hj h1 h2
  rw [listed_get hlt,if_neg (show ¬ 1+3 * i=0 by omega)] at h1
  rw [listed_get hlt,if_neg (show ¬ 1+3 * j=0 by omega)] at h2
  exact h.inj i j hi hj h1 h2
 ·intro hl
  rw [listed_get hlt,if_neg (by omega)] at hl
  have:=(h.mv hl).1;rw [hf] at this
  cases this
 ·intro hl
  rw [listed_get hlt,if_neg (by omega)] at hl
  have:=(h.mv (h.asg hl).1).1;rw [hf] at this
  cases this
theorem step_make (h:BI w0 listed a w B r) {k:Nat} (hk:k < 11) (hr:1+3 * k ∈ Region.ready .any blankOps listed):wpOp Tryz.prog blankOps Q (1+3 * k) (BX w0 (listed.setIfInBounds (1+3 * k) true)) a w:=by
 have hun:=(mem_ready.1 hr).1;have hf:=getD_flip hun;have hlt:=lt_of_unlisted hun;have hw:=wide_pos hk;obtain ⟨o,ho,hop,hd,hg⟩:=op_make k hk;obtain ⟨i0,hi0,hz0,hz1,hz2⟩:=info_parts infoU8;refine wpOp_step ho fun K hK => ?_
 rw [if_pos (by simp [Region.wanted,hg])]
 have hrun:=run_make (P:=Tryz.prog) w 24 5 i0 (.int .u8 0) Tryz.underlying24 hi0 hz0 .i64 .i64 (wideF k) (wideF k) (by omega) (by omega) (by rw [hz2];omega) (by omega)
 rw [hz1,Nat.mul_one,Int.toNat_natCast,show (Value.int .u8 0).cells=#[Value.int .u8 0] from rfl] at hrun
 unfold Oper.wp;simp [execOp,hop,Act.eval,hrun,Result.andThen];rw [Oper.upon_value,hd];refine hK _ _ ⟨B,fun i => if i=k then w.heap.size else r i,?_⟩
 have hsz:=h.ts;have hkA:Kept noneB w (w.alloc (.cells (madeCells #[Value.int .u8 0] (wideF k)) 5)):=(Kept.refl _ _).alloc _;have ev:∀ t:Nat,t≠2+2 * k → (a.put (some (2+2 * k)) (.slice (some ⟨w.heap.size,0,none⟩) (wideF k) (wideF k))).eval (.tmp t)=a.eval (.tmp t):=fun t ht => by rw [put_eval _ (by omega),if_neg ht]
 have ls:∀ j,j≠1+3 * k → (listed.setIfInBounds (1+3 * k) true).getD j false=listed.getD j false:=fun j hj => by rw [listed_get hlt,if_neg hj]
 have nob:listed.getD (2+3 * k) false=false:=by
  cases hc:listed.getD (2+3 * k) false with
  | false => rfl
  | true => have:=(h.bd k hk hc).2;rw [hf] at this;cases this
 have noi:listed.getD (3+3 * k) false=false:=by
  cases hc:listed.getD (3+3 * k) false with
  | false => rfl
  | true => have:=(h.ins k hk hc).1;rw [nob] at this;cases this
 have pv:∀ i,i≠k → partV (fun i => if i=k then w.heap.size else r i) i=partV r i:=fun i hi => by simp only [partV,if_neg hi]
 refine ⟨by simpa using h.ls,by rw [put_size];exact hsz,by rw [put_defers];exact h.df,h.kept.trans hkA,?_,?_,?_,?_,?_,?_,?_⟩
 ·intro hl
  rw [ls 0 (by omega)] at hl
  obtain ⟨h1,h2,h3⟩:=h.m0 hl;refine ⟨by rw [ev _ (by omega)];exact h1,h2,?_⟩
  have e:(fun i => if i < 11∧(listed.setIfInBounds (1+3 * k) true).getD (3+3 * i) false=true then some (partV (fun i => if i=k then w.heap.size else r i) i) else none)=fun i => if i < 11∧listed.getD (3+3 * i) false=true then some (partV r i) else none:=by
   funext i
   rw [ls _ (by omega)]
   by_cases hik:i=k
   ·subst hik;rw [noi];simp
   ·rw [pv i hik]
  rw [e];exact h3.kept hkA id
 ·intro i hi hl
  by_cases hik:i=k
  ·subst hik
   refine ⟨by rw [put_eval _ (by omega),if_pos rfl,if_pos rfl],by rw [if_pos rfl];exact h.kept.size,?_⟩
   rw [if_pos rfl];exact rowB_made w (wideF i)
  ·rw [ls _ (by omega)] at hl
   obtain ⟨h1,h2,h3⟩:=h.mks i hi hl;rw [if_neg hik];exact ⟨by rw [ev _ (by omega)];exact h1,h2,h3.kept hkA id⟩
 ·intro i hi hl
  rw [ls _ (by omega)] at hl
  by_cases hik:i=k
  ·subst hik;rw [nob] at hl;cases hl
  ·obtain ⟨h1,h2⟩:=h.bd i hi hl
   exact ⟨by rw [ev _ (by omega),pv i hik];exact h1,by rw [ls _ (by omega)];exact h2⟩
 ·intro i hi hl
  rw [ls _ (by omega)] at hl
  rw [ls _ (by omega),ls _ (by omega)]
  exact h.ins i hi hl
 ·intro i j hi hj h1 h2
  by_cases hik:i=k
  ·by_cases hjk:j=k
   ·intro _;rw [hik,hjk]
   ·rw [if_pos hik,if_neg hjk]
    rw [ls _ (by omega)] at h2
    have:=(h.mks j hj h2).2.2.lt;intro e;omega
  ·rw [ls _ (by omega)] at h1
   by_cases hjk:j=k
   ·rw [if_neg hik,if_pos hjk]
    have:=(h.mks i hi h1).2.2.lt;intro e;omega
   ·rw [if_neg hik,if_neg hjk]
    rw [ls _ (by omega)] at h2
    exact h.inj i j hi hj h1 h2
 ·intro hl
  rw [ls _ (by omega)] at hl
  rw [ls _ (by omega),ev _ (by omega)]
  exact h.mv hl
 ·intro hl
  rw [ls _ (by omega)] at hl
  rw [ls _ (by omega),ev _ (by omega)]
  exact h.asg hl
theorem step_build (h:BI w0 listed a w B r) {k:Nat} (hk:k < 11) (hr:2+3 * k ∈ Region.ready .any blankOps listed):wpOp Tryz.prog blankOps Q (2+3 * k) (BX w0 (listed.setIfInBounds (2+3 * k) true)) a w:=by
 obtain ⟨hun,o',ho',hdep⟩:=mem_ready.1 hr;have hlt:=lt_of_unlisted hun;have hf:=getD_flip hun;obtain ⟨o,ho,hop,hd,hg,haf⟩:=op_build k hk;obtain rfl:o=o':=Option.some.inj (ho.symm.trans ho');have hl1:listed.getD (1+3 * k) false=true:=hdep ⟨1+3 * k,.data⟩ (by rw [haf];simp) rfl
 obtain ⟨hmk,_,_⟩:=h.mks k hk hl1;refine wpOp_step ho fun K hK => ?_
 rw [if_pos (by simp [Region.wanted,hg])]
 have hrun:=build_part w k (.slice (some ⟨r k,0,none⟩) (wideF k) (wideF k)) ⟨_,_,_,rfl⟩;have hmk':a.tmps.getD (2+2 * k) undef=.slice (some ⟨r k,0,none⟩) (wideF k) (wideF k):=hmk;unfold Oper.wp;simp only [execOp,hop,List.map_toArray,List.map_cons,List.map_nil,Act.eval,hmk',Sem.run_bind,hrun,Result.andThen,Oper.upon];rw [hd];refine hK _ _ ⟨B,r,?_⟩;have hsz:=h.ts;have ev:∀ t:Nat,t≠3+2 * k → (a.put (some (3+2 * k)) (partV r k)).eval (.tmp t)=a.eval (.tmp t):=fun t ht => by rw [put_eval _ (by omega),if_neg ht]
 have ls:∀ j,j≠2+3 * k → (listed.setIfInBounds (2+3 * k) true).getD j false=listed.getD j false:=fun j hj => by rw [listed_get hlt,if_neg hj]
 show BI w0 _ (a.put (some (3+2 * k)) (partV r k)) w B r;refine ⟨by simpa using h.ls,by rw [put_size];exact hsz,by rw [put_defers];exact h.df,h.kept,?_,?_,?_,?_,?_,?_,?_⟩
 ·intro hl
  rw [ls 0 (by omega)] at hl
  obtain ⟨h1,h2,h3⟩:=h.m0 hl;refine ⟨by rw [ev _ (by omega)];exact h1,h2,?_⟩
  have e:(fun i => if i < 11∧(listed.setIfInBounds (2+3 * k) true).getD (3+3 * i) false=true then some (partV r i) else none)=fun i => if i < 11∧listed.getD (3+3 * i) false=true then some (partV r i) else none:=by
   funext i
   rw [ls _ (by omega)]
  rw [e];exact h3
 ·intro i hi hl
  rw [ls _ (by omega)] at hl
  rw [ev _ (by omega)]
  exact h.mks i hi hl
 ·intro i hi hl
  by_cases hik:i=k
  ·subst hik
   exact ⟨by rw [put_eval _ (by omega),if_pos rfl],by rw [ls _ (by omega)];exact hl1⟩
  ·rw [ls _ (by omega)] at hl
   obtain ⟨h1,h2⟩:=h.bd i hi hl;exact ⟨by rw [ev _ (by omega)];exact h1,by rw [ls _ (by omega)];exact h2⟩
 ·intro i hi hl
  rw [ls _ (by omega)] at hl
  obtain ⟨h1,h2⟩:=h.ins i hi hl;refine ⟨?_,by rw [ls _ (by omega)];exact h2⟩
  rw [listed_get hlt]
  split
  ·rfl
  ·exact h1
 ·intro i j hi hj h1 h2
  rw [ls _ (by omega)] at h1 h2
  exact h.inj i j hi hj h1 h2
 ·intro hl
  rw [ls _ (by omega)] at hl
  rw [ls _ (by omega),ev _ (by omega)]
  exact h.mv hl
 ·intro hl
  rw [ls _ (by omega)] at hl
  rw [ls _ (by omega),ev _ (by omega)]
  exact h.asg hl
theorem step_ins (h:BI w0 listed a w B r) {k:Nat} (hk:k < 11) (hr:3+3 * k ∈ Region.ready .any blankOps listed):wpOp Tryz.prog blankOps Q (3+3 * k) (BX w0 (listed.setIfInBounds (3+3 * k) true)) a w:=by
 obtain ⟨hun,o',ho',hdep⟩:=mem_ready.1 hr;have hlt:=lt_of_unlisted hun;have hf:=getD_flip hun;obtain ⟨o,ho,hop,hd,hg,haf⟩:=op_ins k hk;obtain rfl:o=o':=Option.some.inj (ho.symm.trans ho');have hl0:listed.getD 0 false=true:=hdep ⟨0,.data⟩ (by rw [haf];simp) rfl
 have hl2:listed.getD (2+3 * k) false=true:=hdep ⟨2+3 * k,.data⟩ (by rw [haf];simp) rfl
 obtain ⟨hm1,hm2,hm3⟩:=h.m0 hl0;obtain ⟨hb1,_⟩:=h.bd k hk hl2;refine wpOp_step ho fun K hK => ?_
 rw [if_pos (by simp [Region.wanted,hg])]
 obtain ⟨w',hrun,hmap,hkp,hs⟩:=hm3.put (P:=Tryz.prog) Tryz.underlying117 Tryz.underlying123 k (partV r k) (by rw [hf];simp)
 have hrun':(Instr.mapUpdate 117 (.map (some B)) (.int .i64 (k:Int)) (partV r k)).run Tryz.prog w=.ok () w':=hrun;unfold Oper.wp;simp [execOp,hop,hm1,hb1,evalC,hrun',Result.andThen]
 first | rw [Oper.upon_value,hd] | rw [Oper.upon_skip,hd]
 refine hK _ _ ⟨B,r,?_⟩;have hsz:=h.ts;have ls:∀ j,j≠3+3 * k → (listed.setIfInBounds (3+3 * k) true).getD j false=listed.getD j false:=fun j hj => by rw [listed_get hlt,if_neg hj]
 have hB:B < w.heap.size:=hm3.lt
 have hkp0:Kept noneB w0 w':=h.kept.then hkp (fun i hi => by
  have:i=B:=hi
  omega)
 refine ⟨by simpa using h.ls,hsz,h.df,hkp0,?_,?_,?_,?_,?_,?_,?_⟩
 ·intro _
  refine ⟨hm1,hm2,?_⟩
  have e:(fun i => if i < 11∧(listed.setIfInBounds (3+3 * k) true).getD (3+3 * i) false=true then some (partV r i) else none)=fun y => if y=k then some (partV r k) else (if y < 11∧listed.getD (3+3 * y) false=true then some (partV r y) else none):=by
   funext i
   by_cases hik:i=k
   ·subst hik
    rw [listed_get hlt,if_pos rfl,if_pos ⟨hk,rfl⟩,if_pos rfl]
   ·rw [ls _ (by omega),if_neg hik]
  rw [e];exact hmap
 ·intro i hi hl
  rw [ls _ (by omega)] at hl
  obtain ⟨h1,h2,h3⟩:=h.mks i hi hl;refine ⟨h1,h2,h3.kept hkp (fun e => ?_)⟩
  have e:r i=B:=e;obtain ⟨es,clock,hb,_⟩:=hm3;unfold RowB at h3;rw [e,hb] at h3
  cases h3
 ·intro i hi hl
  rw [ls _ (by omega)] at hl
  rw [ls _ (by omega)]
  exact h.bd i hi hl
 ·intro i hi hl
  rw [ls _ (by omega),ls _ (by omega)]
  by_cases hik:i=k
  ·subst hik;exact ⟨hl2,hl0⟩
  ·rw [ls _ (by omega)] at hl
   exact h.ins i hi hl
 ·intro i j hi hj h1 h2
  rw [ls _ (by omega)] at h1 h2
  exact h.inj i j hi hj h1 h2
 ·intro hl
  rw [ls _ (by omega)] at hl
  rw [ls _ (by omega)]
  exact h.mv hl
 ·intro hl
  rw [ls _ (by omega)] at hl
  rw [ls _ (by omega)]
  exact h.asg hl
theorem step_last (h:BI w0 listed a w B r) {k d:Nat} {s:Nat} {o:Oper} (hr:k ∈ Region.ready .any blankOps listed) (ho:blankOps[k]? = some o) (hop:o.op=.move (.tmp s) ∨ o.op=.assign (.tmp s)) (hd:o.dst=some d) (hg:o.guard=none)
 (hc:(k=34∧d=24∧s=1∧listed.getD 0 false=true) ∨ (k=35∧d=0∧s=24∧listed.getD 34 false=true)):wpOp Tryz.prog blankOps Q k (BX w0 (listed.setIfInBounds k true)) a w:=by
 obtain ⟨hun,_⟩:=mem_ready.1 hr;have hlt:=lt_of_unlisted hun;have hf:=getD_flip hun
 have hs:a.eval (.tmp s)=.map (some B):=by
  rcases hc with ⟨_,_,rfl,h0⟩ | ⟨_,_,rfl,h0⟩
  ·exact (h.m0 h0).1
  ·exact (h.mv h0).2
 refine wpOp_step ho fun K hK => ?_
 rw [if_pos (by simp [Region.wanted,hg])]
 unfold Oper.wp;rcases hop with hop | hop
 all_goals
  simp [execOp,hop,hs];rw [Oper.upon_value,hd];refine hK _ _ ⟨B,r,?_⟩;have hsz:=h.ts;have ev:∀ t:Nat,t≠d → (a.put (some d) (.map (some B))).eval (.tmp t)=a.eval (.tmp t):=fun t ht => by rw [put_eval _ (by omega),if_neg ht]
  have ed:(a.put (some d) (.map (some B))).eval (.tmp d)=.map (some B):=by rw [put_eval _ (by omega),if_pos rfl]
  have ls:∀ j,j≠k → (listed.setIfInBounds k true).getD j false=listed.getD j false:=fun j hj => by rw [listed_get hlt,if_neg hj]
  refine ⟨by simpa using h.ls,by rw [put_size];exact hsz,by rw [put_defers];exact h.df,h.kept,?_,?_,?_,?_,?_,?_,?_⟩
  ·intro hl
   rw [ls 0 (by omega)] at hl
   obtain ⟨h1,h2,h3⟩:=h.m0 hl;refine ⟨by rw [ev _ (by omega)];exact h1,h2,?_⟩
   have e:(fun i => if i < 11∧(listed.setIfInBounds k true).getD (3+3 * i) false=true then some (partV r i) else none)=fun i => if i < 11∧listed.getD (3+3 * i) false=true then some (partV r i) else none:=by
    funext i
    by_cases hi:i < 11
    ·rw [ls _ (by omega)]
    ·simp [hi]
   rw [e];exact h3
  ·intro i hi hl
   rw [ls _ (by omega)] at hl
   rw [ev _ (by omega)]
   exact h.mks i hi hl
  ·intro i hi hl
   rw [ls _ (by omega)] at hl
   rw [ev _ (by omega),ls _ (by omega)]
   exact h.bd i hi hl
  ·intro i hi hl
   rw [ls _ (by omega)] at hl
   rw [ls _ (by omega),ls _ (by omega)]
   exact h.ins i hi hl
  ·intro i j hi hj h1 h2
   rw [ls _ (by omega)] at h1 h2
   exact h.inj i j hi hj h1 h2
  ·intro hl
   rcases hc with ⟨rfl,rfl,rfl,h0⟩ | ⟨rfl,rfl,rfl,h0⟩
   ·exact ⟨by rw [ls _ (by omega)];exact h0,ed⟩
   ·rw [ls _ (by omega)] at hl
    rw [ls _ (by omega),ev _ (by omega)]
    exact h.mv hl
  ·intro hl
   rcases hc with ⟨rfl,rfl,rfl,h0⟩ | ⟨rfl,rfl,rfl,h0⟩
   ·rw [ls _ (by omega)] at hl
    have:=(h.asg hl).1;rw [hf] at this
    cases this
   ·exact ⟨by rw [ls _ (by omega)];exact h0,ed⟩
theorem step_any (i:Nat) (h:BX w0 listed a w) (hr:i ∈ Region.ready .any blankOps listed):wpOp Tryz.prog blankOps Q i (BX w0 (listed.setIfInBounds i true)) a w:=by
 obtain ⟨B,r,h⟩:=h
 have hi:i < 36:=by
  obtain ⟨_,o,ho,_⟩:=mem_ready.1 hr;have:=(Array.getElem?_eq_some_iff.1 ho).1
  rwa [op_size] at this
 have hcase:i=0 ∨ (∃ k,k < 11∧i=1+3 * k) ∨ (∃ k,k < 11∧i=2+3 * k) ∨ (∃ k,k < 11∧i=3+3 * k) ∨ i=34 ∨ i=35:=by
  by_cases h0:i=0
  ·exact Or.inl h0
  ·by_cases h3:i < 34
   ·have:i=1+3 * ((i - 1) / 3) ∨ i=2+3 * ((i - 1) / 3) ∨ i=3+3 * ((i - 1) / 3):=by omega
    rcases this with h | h | h
    ·exact Or.inr (Or.inl ⟨_,by omega,h⟩)
    ·exact Or.inr (Or.inr (Or.inl ⟨_,by omega,h⟩))
    ·exact Or.inr (Or.inr (Or.inr (Or.inl ⟨_,by omega,h⟩)))
   ·exact Or.inr (Or.inr (Or.inr (Or.inr (by omega))))
 rcases hcase with rfl | ⟨k,hk,rfl⟩ | ⟨k,hk,rfl⟩ | ⟨k,hk,rfl⟩ | rfl | rfl
 ·exact step_map h hr
 ·exact step_make h hk hr
 ·exact step_build h hk hr
 ·exact step_ins h hk hr
 ·obtain ⟨o,ho,hop,hd,hg,haf⟩:=op_move
  obtain ⟨_,o',ho',hdep⟩:=mem_ready.1 hr;obtain rfl:o=o':=Option.some.inj (ho.symm.trans ho');exact step_last h hr ho (Or.inl hop) hd hg (Or.inl ⟨rfl,rfl,rfl,hdep ⟨0,.data⟩ (Array.mem_of_getElem? haf) rfl⟩)
 ·obtain ⟨o,ho,hop,hd,hg,haf⟩:=op_assign
  obtain ⟨_,o',ho',hdep⟩:=mem_ready.1 hr;obtain rfl:o=o':=Option.some.inj (ho.symm.trans ho');exact step_last h hr ho (Or.inr hop) hd hg (Or.inr ⟨rfl,rfl,rfl,hdep ⟨34,.data⟩ (Array.mem_of_getElem? haf) rfl⟩)
theorem blank_region (ha:a.tmps.size=25) (hd:a.defers=[]) (hQ:∀ a' w' B r,a'.defers=[] → a'.eval (.tmp 0)=.map (some B) → PartsAt w' w.heap.size B r zeroO → Kept noneB w w' → Q .normal a' w') :
 wpAny Tryz.prog .any blankOps Q blankOps.size (Array.replicate blankOps.size false) a { w with drawn:=w.drawn+1 }:=by
 have no:∀ j,(Array.replicate blankOps.size false).getD j false=false:=fun j => by
  rw [Array.getD_eq_getD_getElem?,Array.getElem?_replicate]
  split<;>rfl
 refine wpAny_inv (BX w) (fun listed a w' i h hr => step_any i h hr) (fun listed a' w' h hr => ?_) _ _ _ _ ?_ ?_
 ·obtain ⟨B,r,h⟩:=h
  have hall:=all_listed (by rw [h.ls,op_size]) op_deps hr 36
  have all:∀ i,i < 36 → listed.getD i false=true:=fun i hi => hall i hi (by rw [op_size];exact hi)
  obtain ⟨h1,h2,h3⟩:=h.m0 (all 0 (by omega))
  refine hQ a' w' B r h.df (h.asg (all 35 (by omega))).2 ⟨?_,?_,zeroO_fits,fun i j hi hj => h.inj i j hi hj (all _ (by omega)) (all _ (by omega)),h2,fun i hi => (h.mks i hi (all _ (by omega))).2.1⟩ h.kept
  ·have e:partF r=fun i => if i < 11∧listed.getD (3+3 * i) false=true then some (partV r i) else none:=by
    funext i
    unfold partF
    by_cases hi:i < 11
    ·rw [if_pos hi,if_pos ⟨hi,all _ (by omega)⟩]
    ·rw [if_neg hi,if_neg (fun e => hi e.1)]
   rw [e];exact h3
  ·intro i hi
   exact (h.mks i hi (all _ (by omega))).2.2
 ·unfold stillN
  exact Nat.le_trans (List.length_filter_le _ _) (by rw [List.length_range];exact Nat.le_refl _)
 ·refine ⟨0,fun _ => 0,by rw [Array.size_replicate];exact op_size,ha,hd,(Kept.refl noneB w).drew,?_,?_,?_,?_,?_,?_,?_⟩
  all_goals first
   | (intro hl;rw [no] at hl;cases hl)
   | (intro i hi hl;rw [no] at hl;cases hl)
   | (intro i j hi hj hl;rw [no] at hl;cases hl)
end
theorem field_own (w:World) (x:Int) (p:Option Addr) (l c:Nat):(Instr.field 122 (.agg #[.int .i64 x,.slice p l c]) 1).run Tryz.prog w=.ok (.slice p l c) w:=by kernel_rfl
theorem blank_any (w:World):Calls Tryz.prog 102 #[] w fun e w' => ∃ B r,e=.returned (.map (some B))∧PartsAt w' w.heap.size B r zeroO∧Kept noneB w w':=by
 go_enter Tryz.func102,Tryz.ntmps102
 go_wp2
 refine wp_region_any (by kernel_rfl) (blank_region (by rfl) (by rfl) fun a' w' B r hd hB hp hk => ?_)
 simp only [Exit.then]
 apply_assumption
 go_wp2
 refine bodyPost_ret (results_tmp rfl _ _ _) hd ?_
 exact ⟨B,r,congrArg Ending.returned hB,hp,hk⟩
end Go.Proofs.YtnpkcneojilmkaaGreatDoor.Head
end
section
namespace Go.Proofs.YtnpkcneojilmkaaGreatDoor.Head
open Go.ChangeShapes Go.WideShapes Go.ChangeAt Go.RowKit Base Byt Txt Hp Go.Proofs.YtnpkcneojilmkaaGreatDoor.Mp Go.Lib
set_option linter.unusedVariables false
set_option maxRecDepth 100000
theorem str_app' (a b:List UInt8):str a++str b=str (a++b):=by
 apply ByteArray.ext;simp [str,ByteArray.data_append]
theorem until_take (l:List UInt8):(0≤Lib.indexByte l 0 → l.take (Lib.indexByte l 0).toNat=untilB l∧(Lib.indexByte l 0).toNat≤l.length)∧(¬ 0≤Lib.indexByte l 0 → untilB l=l):=by
 induction l with
 | nil => exact ⟨fun h => by simp [Lib.indexByte] at h,fun _ => rfl⟩
 | cons b l ih =>
   have hge:=Lib.indexByte_ge l 0
   by_cases hb:b=0
   ·subst hb
    have e:Lib.indexByte ((0:UInt8) :: l) 0=0:=by simp [Lib.indexByte]
    rw [e];exact ⟨fun _ => ⟨by simp [untilB],by simp⟩,fun h => absurd (by omega) h⟩
   ·have hbb:(b == 0)=false:=by simpa using hb
    have hu:untilB (b :: l)=b :: untilB l:=by
     unfold untilB;rw [List.takeWhile_cons,if_pos (by simpa using hb)]
    by_cases hi:Lib.indexByte l 0 = -1
    ·have e:Lib.indexByte (b :: l) 0 = -1:=by simp [Lib.indexByte,hbb,hi]
     rw [e,hu];refine ⟨fun h => absurd h (by omega),fun _ => ?_⟩
     rw [ih.2 (by omega)]
    ·have hi':(Lib.indexByte l 0 == -1)=false:=by simpa using hi
     have e:Lib.indexByte (b :: l) 0=Lib.indexByte l 0+1:=by simp [Lib.indexByte,hbb,hi']
     obtain ⟨h1,h2⟩:=ih.1 (by omega)
     rw [e,hu,show (Lib.indexByte l 0+1).toNat=(Lib.indexByte l 0).toNat+1 by omega]
     exact ⟨fun _ => ⟨by rw [List.take_succ_cons,h1],by rw [List.length_cons];omega⟩,fun h => absurd (by omega) h⟩
theorem cut_any (b o n c b2:Nat) (bs:List UInt8) (w:World) (hn:bs.length=n) (hc:n≤c) (hm:n≤140737488351232) (h:BAt w (some ⟨b,o,none⟩) n bs) (h2:w.cell? ⟨b2,0,none⟩=some (.int .u8 0)) :
 Calls Tryz.prog 80 #[.slice (some ⟨b,o,none⟩) n c,.slice (some ⟨b2,0,none⟩) 1 1] w fun e w' => ∃ v2 v3,e=.returned (.tuple #[.slice (some ⟨b,o,none⟩) (untilB bs).length c,v2,v3])∧Kept noneB w w':=by
 have hu:=until_take bs;have hnb:bytesOf (nums bs)=bs:=bytesOf_nums bs
 have hidx:=Any.bytes_Index_one Tryz.laysCut.index b o n c b2 0 1 (nums bs) 0 w (by rw [nums_length,hn]) (fun i hi => by
  obtain ⟨b',o',he,hcell⟩:=h (by omega)
  cases he
  rw [hcell i hi]
  simp [nums,List.getD,List.getElem?_eq_getElem (show i < bs.length by omega)]) h2
 rw [hnb,show (0:Int).toNat.toUInt8=0 from rfl] at hidx
 have hroom:0≤Lib.indexByte bs 0 → Lib.indexByte bs 0+(1:Nat)≤n:=fun h0 => by
  obtain ⟨k,hk⟩:∃ k:Nat,Lib.indexByte bs 0=k:=⟨(Lib.indexByte bs 0).toNat,by omega⟩
  have:=(Lib.indexByte_some hk).1;have hlt:=(List.getElem?_eq_some_iff.1 this).1;omega
 refine (Any.bytes_Cut_of Tryz.laysCut (some ⟨b,o,none⟩) (some ⟨b2,0,none⟩) n c 1 1 (Lib.indexByte bs 0) w hc (Lib.indexByte_ge _ _) hroom (by omega) (hidx.mono fun e w' he => ⟨he.1,0,he.2⟩)).mono ?_
 rintro e w' ⟨rfl,q,rfl⟩;unfold Lib.cutV
 by_cases h0:0≤Lib.indexByte bs 0
 ·rw [if_pos h0]
  obtain ⟨h3,h4⟩:=hu.1 h0;refine ⟨_,_,congrArg (fun k => Ending.returned (.tuple #[.slice (some ⟨b,o,none⟩) k c,_,_])) ?_,(Kept.refl _ _).drewN _⟩
  rw [← h3,List.length_take];omega
 ·rw [if_neg h0]
  refine ⟨_,_,congrArg (fun k => Ending.returned (.tuple #[.slice (some ⟨b,o,none⟩) k c,_,_])) ?_,(Kept.refl _ _).drewN _⟩
  rw [hu.2 h0,hn]
theorem until_le (bs:List UInt8):(untilB bs).length≤bs.length∧bs.take (untilB bs).length=untilB bs:=by
 have h:untilB bs <+: bs:=List.takeWhile_prefix _;exact ⟨h.length_le,(List.prefix_iff_eq_take.1 h).symm⟩
theorem text_any (lo B:Nat) (r:Nat → Nat) (own:Nat → List UInt8) (i:Nat) (w:World) (hi:i < 11) (hP:PartsAt w lo B r own) :
 Calls Tryz.prog 77 #[.map (some B),.int .i64 (i:Int)] w fun e w' => e=.returned (.string (str (untilB (own i))))∧Kept noneB w w':=by
 have fl:=field_own;have HP:=Lib.hid hP
 have lk:(Instr.lookup 117 (.map (some B)) (.int .i64 (i:Int)) false).run Tryz.prog w=.ok (.agg #[.int .i64 (atF i),.slice (some ⟨r i,0,none⟩) (wideF i) (wideF i)]) w:=
  hP.map.look (P:=Tryz.prog) Tryz.underlying117 Tryz.underlying123 (x:=i) (v:=partV r i) (by unfold partF;rw [if_pos hi])
 have hw:=wide_pos hi;have HA:=Lib.hid ((Kept.refl noneB w).alloc (.cells #[.int .u8 0] 5));have HW:=Lib.hid hw;clear hP hw
 go_enter Tryz.func77,Tryz.ntmps77
 go_wp2_with fail
 refine (cut_any (r i) 0 (wideF i) (wideF i) w.heap.size (own i) _ (HP.out.fit i) (Nat.le_refl _) (by have:=HW.out;omega) ((HP.out.kept0 HA.out).bat hi) (by
  rw [World.cell?_alloc_at _ _ _ _ rfl];rfl)).mono ?_
 rintro e w1 ⟨v2,v3,rfl,hk⟩;have hul:=until_le (own i)
 have cs:(convert 24 9 (.slice (some ⟨r i,0,none⟩) (untilB (own i)).length (wideF i))).run Tryz.prog w1=.ok (.string (str (untilB (own i)))) w1:=by
  refine conv_at ?_ rfl _ _ _ Tryz.underlying24 Tryz.underlying5 Tryz.underlying9 _;have hb:=((HP.out.kept0 HA.out).kept0 hk).bat hi;have:=hb.take (k:=(untilB (own i)).length) (by rw [← HP.out.fit i];exact hul.1)
  rwa [hul.2] at this
 have HK:=Lib.hid (HA.out.trans hk);clear hk hul
 go_wp2
 go_ret
 exact ⟨rfl,HK.out⟩
def kindO (l:List UInt8):UInt8:=if l.getD 0 0=0 then 48 else l.getD 0 0
theorem kind_any (lo B:Nat) (r:Nat → Nat) (own:Nat → List UInt8) (w:World) (hP:PartsAt w lo B r own) :
 Calls Tryz.prog 78 #[.map (some B)] w fun e w' => e=.returned (.int .u8 ((kindO (own 7)).toNat:Int))∧w=w':=by
 unfold kindO;have fl:=field_own
 have lk:(Instr.lookup 117 (.map (some B)) (.int .i64 7) false).run Tryz.prog w=.ok (.agg #[.int .i64 156,.slice (some ⟨r 7,0,none⟩) 1 1]) w:=
  hP.map.look (P:=Tryz.prog) Tryz.underlying117 Tryz.underlying123 (x:=7) (v:=partV r 7) rfl
 have hc:=(hP.row 7 (by omega)).cell 0 (by rw [hP.fit 7];decide)
 generalize hX:(own 7).getD 0 0=X at *;obtain ⟨x,hx⟩:∃ x:Int,x=(X.toNat:Int):=⟨_,rfl⟩;rw [← hx] at hc;have HX:=Lib.hid hx;clear hP hX hx
 by_cases h0:x=0
 ·have E:Hid (X=0):=Lib.hid (UInt8.toNat_inj.1 (by have:=HX.out;simp;omega))
  have hb:(x == 0)=true:=by simpa using h0
  go_enter Tryz.func78,Tryz.ntmps78
  go_wp2
  go_ret
  first | exact ⟨rfl,rfl⟩ | (rw [E.out];exact ⟨rfl,rfl⟩)
 ·have E:Hid (X≠0):=Lib.hid (fun e => h0 (by rw [HX.out,e];rfl))
  have hb:(x == 0)=false:=by simpa using h0
  go_enter Tryz.func78,Tryz.ntmps78
  go_wp2
  go_ret
  first | (rw [← HX.out];exact ⟨rfl,rfl⟩) | (rw [if_neg E.out,← HX.out];exact ⟨rfl,rfl⟩)
theorem name_any (lo B:Nat) (r:Nat → Nat) (own:Nat → List UInt8) (gnu:Bool) (w:World) (hP:PartsAt w lo B r own) :
 Calls Tryz.prog 76 #[.map (some B),.bool gnu] w fun e w' => e=.returned (.string (str (nameF (untilB (own 10)) (untilB (own 0)) gnu)))∧Kept noneB w w':=by
 have HP:=Lib.hid hP;have hu:=until_le (own 10);have hu0:=until_le (own 0);have hz:=HP.out.fit 10;have hz0:=HP.out.fit 0;obtain ⟨p,hp⟩:∃ p,p=untilB (own 10):=⟨_,rfl⟩;obtain ⟨s,hs⟩:∃ s,s=untilB (own 0):=⟨_,rfl⟩;have hpl:(str p).size≤155:=by rw [str_size,hp];have:=hu.1;simp only [wideF] at hz;omega
 have hsl:(str s).size≤100:=by rw [str_size,hs];have:=hu0.1;simp only [wideF] at hz0;omega
 have HPp:=Lib.hid hp;have HS:=Lib.hid hs;clear hP hu hu0 hz hz0 hp hs;rw [← HPp.out,← HS.out]
 by_cases h0:p=[] ∨ gnu=true
 ·have E:Hid (nameF p s gnu=s):=Lib.hid (if_pos (by rcases h0 with h | h;exact Or.inr h;exact Or.inl h))
  rcases h0 with h0 | h0
  ·have hb:str p=⟨#[]⟩:=congrArg str h0
   go_enter Tryz.func76,Tryz.ntmps76
   go_wp2_with fail
   refine (text_any lo B r own 10 w (by omega) HP.out).mono ?_
   rintro e w1 ⟨rfl,hk1⟩;rw [← HPp.out,hb];have HK1:=Lib.hid hk1;clear hk1
   go_wp2_with fail
   refine (text_any lo B r own 0 w1 (by omega) (HP.out.kept0 HK1.out)).mono ?_
   rintro e w2 ⟨rfl,hk2⟩;rw [← HS.out];have HK:=Lib.hid (HK1.out.trans hk2);clear hk2
   go_wp2
   go_ret
   rw [E.out];exact ⟨rfl,HK.out⟩
  ·subst h0
   by_cases hpe:p=[]
   ·have hb:str p=⟨#[]⟩:=congrArg str hpe
    go_enter Tryz.func76,Tryz.ntmps76
    go_wp2_with fail
    refine (text_any lo B r own 10 w (by omega) HP.out).mono ?_
    rintro e w1 ⟨rfl,hk1⟩;rw [← HPp.out,hb];have HK1:=Lib.hid hk1;clear hk1
    go_wp2_with fail
    refine (text_any lo B r own 0 w1 (by omega) (HP.out.kept0 HK1.out)).mono ?_
    rintro e w2 ⟨rfl,hk2⟩;rw [← HS.out];have HK:=Lib.hid (HK1.out.trans hk2);clear hk2
    go_wp2
    go_ret
    rw [E.out];exact ⟨rfl,HK.out⟩
   ·have hb:(str p).toList.isEmpty=false:=by rw [str_toList];simpa using hpe
    go_enter Tryz.func76,Tryz.ntmps76
    go_wp2_with fail
    refine (text_any lo B r own 10 w (by omega) HP.out).mono ?_
    rintro e w1 ⟨rfl,hk1⟩;rw [← HPp.out];have HK1:=Lib.hid hk1;clear hk1
    go_wp2_with fail
    refine (text_any lo B r own 0 w1 (by omega) (HP.out.kept0 HK1.out)).mono ?_
    rintro e w2 ⟨rfl,hk2⟩;rw [← HS.out];have HK:=Lib.hid (HK1.out.trans hk2);clear hk2
    go_wp2
    go_ret
    rw [E.out];exact ⟨rfl,HK.out⟩
 ·have hpe:p≠[]:=fun e => h0 (Or.inl e)
  have hg:gnu=false:=by cases gnu with
   | false => rfl
   | true => exact absurd (Or.inr rfl) h0
  subst hg
  have E:Hid (str (nameF p s false)=str p++⟨#[47]⟩++str s):=Lib.hid (by
   rw [nameF,if_neg (by simp [hpe]),show (⟨#[47]⟩:ByteArray)=str [47] from rfl,str_app',str_app']
   simp)
  have hb:(str p).toList.isEmpty=false:=by rw [str_toList];simpa using hpe
  go_enter Tryz.func76,Tryz.ntmps76
  go_wp2_with fail
  refine (text_any lo B r own 10 w (by omega) HP.out).mono ?_
  rintro e w1 ⟨rfl,hk1⟩;rw [← HPp.out];have HK1:=Lib.hid hk1;clear hk1
  go_wp2_with fail
  refine (text_any lo B r own 0 w1 (by omega) (HP.out.kept0 HK1.out)).mono ?_
  rintro e w2 ⟨rfl,hk2⟩;rw [← HS.out];have HK:=Lib.hid (HK1.out.trans hk2);clear hk2
  go_wp2
  go_ret
  rw [E.out];exact ⟨rfl,HK.out⟩
end Go.Proofs.YtnpkcneojilmkaaGreatDoor.Head
end
section
namespace Go.Proofs.YtnpkcneojilmkaaGreatDoor.Head
open Go.ChangeShapes Go.WideShapes Go.ChangeAt Go.RowKit Base Byt Txt Hp Go.Proofs.YtnpkcneojilmkaaGreatDoor.Mp Go.Lib
set_option linter.unusedVariables false
set_option maxRecDepth 100000
theorem plain0 (bs:List UInt8):(0:Int)=(plainTo bs 0:Nat):=by rw [plainTo];rfl
theorem sum0 (bs:List UInt8):(0:Int)=(sumTo bs 0:Nat):=by rw [sumTo];rfl
theorem total_any (p:Option Addr) (n c:Nat) (bs:List UInt8) (w:World) (hm:n≤140737488351232) (h:BAt w p n bs) :
 Calls Tryz.prog 70 #[.slice p n c] w fun e w' => e=.returned (.int .i64 (plainTo bs n:Nat))∧w=w':=by
 have H:=Lib.hid h;clear h
 go_enter Tryz.func70,Tryz.ntmps70
 go_wp2
 go_loop [3,8] (fun s i => ∃ (k:Nat) (m:Int),k≤n∧0≤m∧m≤255 * k∧i=.int .i64 k∧s=.int .i64 m∧Hid (m=(plainTo bs k:Nat))) (fun _ i => n - (RowKit.intOf i).toNat)
 case atStart => exact ⟨0,0,Nat.zero_le _,by omega,by omega,rfl,rfl,Lib.hid (plain0 bs)⟩
 case round =>
  obtain ⟨k,m,hk,h0,h1,rfl,rfl,hr⟩:=hrel
  by_cases hlt:k < n
  ·obtain ⟨b,o,rfl,hbw,hcell⟩:=H.out.cell hlt
   have hc:=hcell k hlt;clear hcell;obtain ⟨x,hx⟩:∃ x:Int,x=((bs.getD k 0).toNat:Int):=⟨_,rfl⟩;rw [← hx] at hc;have hxb:=u8_bd (bs.getD k 0);rw [← hx] at hxb;have HX:=Lib.hid hx;clear hx;obtain ⟨hx0,hx1⟩:=hxb
   go_wp2
   go_round
   case rel => exact ⟨k+1,m+x,by omega,by omega,by omega,by go_num,rfl,Lib.hid (by rw [hr.out,HX.out,plainTo];omega)⟩
   case measure => simp [RowKit.intOf];omega
  ·have hkl:Hid (k=n):=Lib.hid (by omega)
   go_wp2
   go_ret
   rw [hr.out,hkl.out];exact ⟨rfl,rfl⟩
theorem sum_any (lo B:Nat) (r:Nat → Nat) (own:Nat → List UInt8) (p:Option Addr) (n c:Nat) (bs:List UInt8) (w:World) (hm:n≤140737488351232) (h:BAt w p n bs) (hP:PartsAt w lo B r own) :
 Calls Tryz.prog 74 #[.map (some B),.slice p n c] w fun e w' => e=.returned (.int .i64 ((plainTo bs n:Nat) - (plainTo (own 6) 8:Nat)+256))∧w=w':=by
 have H:=Lib.hid h;have fl:=field_own;have HP:=Lib.hid hP
 have lk:(Instr.lookup 117 (.map (some B)) (.int .i64 6) false).run Tryz.prog w=.ok (.agg #[.int .i64 148,.slice (some ⟨r 6,0,none⟩) 8 8]) w:=
  hP.map.look (P:=Tryz.prog) Tryz.underlying117 Tryz.underlying123 (x:=6) (v:=partV r 6) rfl
 have h1:=plainTo_le bs n;have h2:=plainTo_le (own 6) 8;generalize hX:plainTo bs n=X at *;generalize hY:plainTo (own 6) 8=Y at *;clear h hP
 go_enter Tryz.func74,Tryz.ntmps74
 go_wp2_with fail
 refine (total_any p n c bs w hm H.out).mono ?_
 rintro e w1 ⟨rfl,rfl⟩;rw [hX]
 go_wp2_with fail
 refine (total_any _ 8 8 (own 6) w (by decide) (HP.out.bat (i:=6) (by omega))).mono ?_
 rintro e w1 ⟨rfl,rfl⟩;rw [hY]
 go_wp2
 go_ret
 exact ⟨rfl,rfl⟩
theorem rsum_any (p:Option Addr) (n c:Nat) (bs:List UInt8) (w:World) (hm:n≤140737488351232) (h:BAt w p n bs) :
 Calls Tryz.prog 30 #[.slice p n c] w fun e w' => e=.returned (.int .i64 (sumTo bs n:Nat))∧w=w':=by
 have H:=Lib.hid h;clear h
 go_enter Tryz.func30,Tryz.ntmps30
 go_wp2
 go_loop [3,4] (fun s i => ∃ (k:Nat) (m:Int),k≤n∧0≤m∧m≤255 * k∧i=.int .i64 k∧s=.int .i64 m∧Hid (m=(sumTo bs k:Nat))) (fun _ i => n - (RowKit.intOf i).toNat)
 case atStart => exact ⟨0,0,Nat.zero_le _,by omega,by omega,rfl,rfl,Lib.hid (sum0 bs)⟩
 case round =>
  obtain ⟨k,m,hk,h0,h1,rfl,rfl,hr⟩:=hrel
  by_cases hlt:k < n
  ·obtain ⟨b,o,rfl,hbw,hcell⟩:=H.out.cell hlt
   have hc:=hcell k hlt;clear hcell;obtain ⟨x,hx⟩:∃ x:Int,x=((bs.getD k 0).toNat:Int):=⟨_,rfl⟩;rw [← hx] at hc;have hxb:=u8_bd (bs.getD k 0);rw [← hx] at hxb;have HX:=Lib.hid hx;clear hx;obtain ⟨hx0,hx1⟩:=hxb
   by_cases hin:148≤k∧k < 156
   ·have hin2:=hin
    obtain ⟨g1,g2⟩:=hin2
    go_wp2
    go_round
    case rel => exact ⟨k+1,m+32,by omega,by omega,by omega,by go_num,rfl,Lib.hid (by rw [hr.out,sumTo,if_pos hin];omega)⟩
    case measure => simp [RowKit.intOf];omega
   ·rcases Nat.lt_or_ge k 148 with g1 | g1
    ·go_wp2
     go_round
     case rel => exact ⟨k+1,m+x,by omega,by omega,by omega,by go_num,rfl,Lib.hid (by rw [hr.out,HX.out,sumTo,if_neg hin];omega)⟩
     case measure => simp [RowKit.intOf];omega
    ·have g2:156≤k:=by omega
     go_wp2
     go_round
     case rel => exact ⟨k+1,m+x,by omega,by omega,by omega,by go_num,rfl,Lib.hid (by rw [hr.out,HX.out,sumTo,if_neg hin];omega)⟩
     case measure => simp [RowKit.intOf];omega
  ·have hkl:Hid (k=n):=Lib.hid (by omega)
   go_wp2
   go_ret
   rw [hr.out,hkl.out];exact ⟨rfl,rfl⟩
end Go.Proofs.YtnpkcneojilmkaaGreatDoor.Head
end
