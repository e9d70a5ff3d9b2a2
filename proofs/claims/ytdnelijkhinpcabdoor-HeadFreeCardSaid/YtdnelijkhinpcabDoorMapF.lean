/- Maps keyed by small numbers, told by what they hold at each key: made, written at a new key, looked up, ranged over in whatever order. -/
import Derived.Test.YtdnelijkhinpcabDoorKept
import Derived.Maps.RangeRun
import Derived.Maps.OwnOps
import Derived.Maps.RangeWalk
import Derived.Maps.Range
namespace Go.Proofs.YtdnelijkhinpcabDoor.Mp
open Go.ChangeShapes Go.WideShapes Go.ChangeAt Go.RowKit Go.MapKept Go.Proofs.YtdnelijkhinpcabDoor.Base Go.Proofs.YtdnelijkhinpcabDoor.Byt
set_option linter.unusedVariables false

def keyV (k : Nat) : Value := .int .i64 k
theorem keyV_inj {a b : Nat} (h : keyV a = keyV b) : a = b := by unfold keyV at h; injection h with _ h; omega
/-- block B is a map that holds f -/
def MapF (w : World) (B : Nat) (f : Nat → Option Value) : Prop :=
  ∃ es clock, w.heap[B]? = some (.map es clock) ∧ Stamped es clock ∧ (∀ e ∈ es.toList, ∃ k, e.key = keyV k ∧ f k = some e.val) ∧ (∀ k v, f k = some v → ∃ e ∈ es.toList, e.key = keyV k)
/-- block R is an iterator over it, with todo still to come -/
def IterF (w : World) (B R : Nat) (f : Nat → Option Value) (todo : Nat → Bool) : Prop :=
  ∃ es clock since seen c0, w.heap[B]? = some (.map es clock) ∧ Stamped es clock ∧ (∀ e ∈ es.toList, ∃ k, e.key = keyV k ∧ f k = some e.val) ∧ (∀ k v, f k = some v → ∃ e ∈ es.toList, e.key = keyV k) ∧
    w.heap[R]? = some (.mapIter (some B) since seen c0) ∧ (∀ x ∈ es.toList, x.born < since) ∧ since ≤ c0 ∧ since ≤ clock ∧ (∀ x ∈ es.toList, ∀ k, x.key = keyV k → todo k = !seen.contains x.born)
section
variable {w w' : World} {B R : Nat} {f : Nat → Option Value} {todo : Nat → Bool}
theorem MapF.lt (h : MapF w B f) : B < w.heap.size := by
  obtain ⟨es, clock, hb, _⟩ := h
  exact (Array.getElem?_eq_some_iff.1 hb).1
theorem MapF.kept {S : Nat → Prop} (h : MapF w B f) (hk : Kept S w w') (hB : ¬ S B) : MapF w' B f := by
  obtain ⟨es, clock, hb, h⟩ := h
  exact ⟨es, clock, hk.some_ hb hB, h⟩
theorem IterF.map (h : IterF w B R f todo) : MapF w B f := by
  obtain ⟨es, clock, since, seen, c0, hb, hs, h1, h2, _⟩ := h
  exact ⟨es, clock, hb, hs, h1, h2⟩
theorem IterF.ltR (h : IterF w B R f todo) : R < w.heap.size := by
  obtain ⟨es, clock, since, seen, c0, hb, hs, h1, h2, hr, _⟩ := h
  exact (Array.getElem?_eq_some_iff.1 hr).1
theorem IterF.kept {S : Nat → Prop} (h : IterF w B R f todo) (hk : Kept S w w') (hB : ¬ S B) (hR : ¬ S R) : IterF w' B R f todo ∧ w'.rangeLeft B R = w.rangeLeft B R := by
  obtain ⟨es, clock, since, seen, c0, hb, hs, h1, h2, hr, h3⟩ := h
  have hb' := hk.some_ hb hB
  have hr' := hk.some_ hr hR
  exact ⟨⟨es, clock, since, seen, c0, hb', hs, h1, h2, hr', h3⟩, by simp only [World.rangeLeft, hb, hr, hb', hr']⟩
theorem mapF_made (w : World) : MapF (w.alloc (.map #[] 0)) w.heap.size (fun _ => none) :=
  ⟨#[], 0, (MapKept.heap_alloc w _).1, stamped_empty 0, by simp, by simp⟩
theorem kept_setBlock {o o' : Obj} (hb : w.heap[B]? = some o) : Kept (oneB B) w (Go.ChangeMaps.setBlock w B o') :=
  ⟨rfl, rfl, rfl, by simp [Go.ChangeMaps.setBlock], fun k hk hn => (MapKept.heap_set hb).2 k hn⟩

variable {P : Program} {t k e : TypeId}
theorem isKey_keyV (x : Nat) : IsKey (.int .i64) (keyV x) := rfl
/-- a new key is written -/
theorem MapF.put (h : MapF w B f) (ht : P.underlying t = some (.map k e)) (hk : P.underlying k = some (.int .i64)) (x : Nat) (v : Value) (hx : f x = none) :
    ∃ w', (Instr.mapUpdate t (.map (some B)) (keyV x) v).run P w = .ok () w' ∧ MapF w' B (fun y => if y = x then some v else f y) ∧ Kept (oneB B) w w' ∧ w'.heap.size = w.heap.size := by
  obtain ⟨es, clock, hb, hs, h1, h2⟩ := h
  have hne : ∀ y ∈ es.toList, y.key ≠ keyV x := fun y hy hyx => by
    obtain ⟨j, hj, hf⟩ := h1 y hy
    have := keyV_inj (hj.symm.trans hyx)
    subst this
    rw [hx] at hf
    cases hf
  have hfind : Instr.findNow (.int .i64) (keyV x) es.toList 0 = some none := by
    rcases findNow_spec (isKey_keyV x) es.toList 0 (fun y hy => by obtain ⟨j, hj, _⟩ := h1 y hy; rw [hj]; exact isKey_keyV j) with ⟨h, _⟩ | ⟨j, e0, _, h3, h4⟩
    · exact h
    · exact absurd h4 (hne e0 (List.mem_of_getElem? h3))
  refine ⟨Go.ChangeMaps.setBlock w B (.map (es.push { key := keyV x, val := v, born := clock }) (clock + 1)), ?_, ⟨_, _, (MapKept.heap_set hb).1, stamped_push hs hne, ?_, ?_⟩, kept_setBlock hb, by simp [Go.ChangeMaps.setBlock]⟩
  · simp [Instr.mapUpdate, run_underlying ht, MapKept.run_getObj_map hb, run_checkKey hk (isKey_keyV x), run_findKey hk hfind, MapKept.run_setObj_map _ hb, Result.andThen, Go.ChangeMaps.setBlock]
  · intro y hy
    simp only [Array.toList_push, List.mem_append, List.mem_singleton] at hy
    rcases hy with hy | rfl
    · obtain ⟨j, hj, hf⟩ := h1 y hy
      refine ⟨j, hj, ?_⟩
      show (if j = x then some v else f j) = _
      rw [if_neg (fun e => hne y hy (by rw [hj, e]))]
      exact hf
    · exact ⟨x, rfl, by show (if x = x then some v else f x) = _; rw [if_pos rfl]⟩
  · intro j u hj
    simp only [Array.toList_push, List.mem_append, List.mem_singleton]
    have hj : (if j = x then some v else f j) = some u := hj
    by_cases hjx : j = x
    · exact ⟨_, Or.inr rfl, by rw [hjx]⟩
    · rw [if_neg hjx] at hj
      obtain ⟨y, hy, hk⟩ := h2 j u hj
      exact ⟨y, Or.inl hy, hk⟩
/-- what is there is found -/
theorem MapF.look (h : MapF w B f) (ht : P.underlying t = some (.map k e)) (hk : P.underlying k = some (.int .i64)) {x : Nat} {v : Value} (hx : f x = some v) :
    (Instr.lookup t (.map (some B)) (keyV x) false).run P w = .ok v w := by
  obtain ⟨es, clock, hb, hs, h1, h2⟩ := h
  obtain ⟨e1, he1, hk1⟩ := h2 x v hx
  rcases findNow_spec (isKey_keyV x) es.toList 0 (fun y hy => by obtain ⟨j, hj, _⟩ := h1 y hy; rw [hj]; exact isKey_keyV j) with ⟨_, hno⟩ | ⟨j, e0, hfind, h3, h4⟩
  · exact absurd hk1 (hno e1 he1)
  · have hv : e0.val = v := by
      obtain ⟨j', hj', hf⟩ := h1 e0 (List.mem_of_getElem? h3)
      have := keyV_inj (hj'.symm.trans h4)
      subst this
      rw [hx] at hf
      exact (Option.some.inj hf).symm
    have hfind' : Instr.findNow (.int .i64) (keyV x) es.toList 0 = some (some (0 + j, e0.val)) := by simpa using hfind
    simp [Instr.lookup, run_underlying ht, MapKept.run_getObj_map hb, run_checkKey hk (isKey_keyV x), run_findKey hk hfind', Result.andThen, hv]
/-- range begins -/
theorem MapF.range (h : MapF w B f) (ht : P.underlying t = some (.map k e)) (htodo : ∀ j v, f j = some v → todo j = true) :
    ∃ w', (Instr.range t (.map (some B))).run P w = .ok (.pointer (some ⟨w.heap.size, 0, none⟩)) w' ∧ IterF w' B w.heap.size f todo ∧ Kept noneB w w' ∧ w'.heap.size = w.heap.size + 1 := by
  have hlt := h.lt
  obtain ⟨es, clock, hb, hs, h1, h2⟩ := h
  refine ⟨_, run_range_map w t k e B es clock ht hb, ⟨es, clock, clock, #[], clock, ((MapKept.heap_alloc w _).2 B hlt).trans hb, hs, h1, h2, (MapKept.heap_alloc w _).1, hs.1, Nat.le_refl _, Nat.le_refl _, ?_⟩, (Kept.refl _ _).alloc _, by simp⟩
  intro x hx j hj
  obtain ⟨j', hj', hf⟩ := h1 x hx
  have := keyV_inj (hj'.symm.trans hj)
  subst this
  simp [htodo _ _ hf]
/-- the step: whichever is still to come -/
theorem IterF.next (h : IterF w B R f todo) (ty : TypeId) :
    ((∀ j v, f j = some v → todo j = false) ∧ (Instr.next (.pointer (some ⟨R, 0, none⟩)) false ty).run P w = .ok (.tuple #[.bool false]) w) ∨
    ∃ j v w', f j = some v ∧ todo j = true ∧ (Instr.next (.pointer (some ⟨R, 0, none⟩)) false ty).run P w = .ok (.tuple #[.bool true, keyV j, v]) w' ∧ IterF w' B R f (fun z => todo z && z != j) ∧ w'.rangeLeft B R < w.rangeLeft B R ∧
      Kept (oneB R) w w' ∧ w'.heap.size = w.heap.size ∧ (Instr.entry (.pointer (some ⟨R, 0, none⟩))).run P w' = .ok (.tuple #[keyV j, v]) w' := by
  obtain ⟨es, clock, since, seen, c0, hb, hs, h1, h2, hr, hold, hsc, hsk, htd⟩ := h
  have hBR : B ≠ R := fun e => by subst e; rw [hb] at hr; cases hr
  rcases run_next_at (P := P) w ty R B since c0 seen es clock hr hb hold hsc with ⟨h0, hrun⟩ | ⟨e, he, w1, hal, hrun⟩
  · refine Or.inl ⟨fun j v hj => ?_, hrun⟩
    obtain ⟨x, hx, hk⟩ := h2 j v hj
    rw [htd x hx j hk, all_seen es seen h0 x hx]
    rfl
  · obtain ⟨hem, hes⟩ := mem_left he
    obtain ⟨j, hj, hf⟩ := h1 e hem
    have hr1 : w1.heap[R]? = some (.mapIter (some B) since seen c0) := by rcases hal with rfl | rfl <;> exact hr
    have hb1 : w1.heap[B]? = some (.map es clock) := by rcases hal with rfl | rfl <;> exact hb
    have hk1 : Kept (oneB R) w w1 := by
      rcases hal with rfl | rfl
      · exact Kept.refl _ _
      · exact (Kept.refl _ _).drew
    have hrs : (Go.ChangeMaps.setBlock w1 R (.mapIter (some B) since (seen.push e.born) clock)).heap[R]? = some (.mapIter (some B) since (seen.push e.born) clock) := (MapKept.heap_set hr1).1
    have hbs : (Go.ChangeMaps.setBlock w1 R (.mapIter (some B) since (seen.push e.born) clock)).heap[B]? = some (.map es clock) := ((MapKept.heap_set hr1).2 B hBR).trans hb1
    have hsz : (Go.ChangeMaps.setBlock w1 R (.mapIter (some B) since (seen.push e.born) clock)).heap.size = w.heap.size := by
      have : w1.heap.size = w.heap.size := by rcases hal with rfl | rfl <;> rfl
      simp [Go.ChangeMaps.setBlock, this]
    rw [hj] at hrun
    refine Or.inr ⟨j, e.val, _, hf, ?_, hrun, ⟨es, clock, since, seen.push e.born, clock, hbs, hs, h1, h2, hrs, hold, hsk, hsk, ?_⟩, ?_, hk1.trans (kept_setBlock hr1), hsz, ?_⟩
    · rw [htd e hem j hj, hes]; rfl
    · intro x hx i hi
      show (todo i && i != j) = !(seen.push e.born).contains x.born
      rw [htd x hx i hi, contains_push, Bool.not_or]
      congr 1
      by_cases hij : i = j
      · have hxe : x = e := entry_eq_of_key ((stamped_iff es clock).1 hs).2.2 hx hem (by rw [hi, hj, hij])
        subst hxe
        simp [hij]
      · have hxe : x.born ≠ e.born := fun hh => hij (by
          obtain rfl := born_inj hs.2.1 hx hem hh
          exact keyV_inj (hi.symm.trans hj))
        have h5 : (x.born == e.born) = false := by simpa using hxe
        have h6 : (i != j) = true := by simpa using hij
        rw [h5, h6]
        rfl
    · simp only [World.rangeLeft, hb, hr, hbs, hrs]
      exact left_shrinks es seen e he
    · rw [← hj]
      exact run_entry_at _ R B since seen es clock e hrs hbs hem hs.2.1
end
/-! ### at the operations -/
section
variable {P : Program} {w : World} {ops : Array Oper} {rest : List Oper} {o : Oper} {a : Act} {Q : Exit → Act → World → Prop} {f : Nat → Option Value} {t k e : TypeId}
theorem wpList_insertF (hg : o.guard = none) (m x v : Operand) (hop : o.op = .mapUpdate t m x v ∨ o.op = .insert t m x v) (ht : P.underlying t = some (.map k e)) (hk : P.underlying k = some (.int .i64))
    (B : Nat) (h : MapF w B f) (hm : a.eval m = .map (some B)) (key : Nat) (hx : a.eval x = keyV key) (hf : f key = none) (val : Value) (hv : a.eval v = val)
    (hK : ∀ w', Hid (MapF w' B (fun y => if y = key then some val else f y)) → Hid (Kept (oneB B) w w') → w'.heap.size = w.heap.size → wpList P ops Q rest (a.put o.dst undef) w') : wpList P ops Q (o :: rest) a w := by
  refine wpList_plain hg fun K' hK' => ?_
  subst hv
  obtain ⟨w', hrun, h1, h2, h3⟩ := h.put ht hk key (a.eval v) hf
  unfold Oper.wp
  rcases hop with hop | hop
  · simp [execOp, hop, hm, hx, hrun, Result.andThen]
    exact hK' _ _ (hK w' (Lib.hid h1) (Lib.hid h2) h3)
  · simp [execOp, hop, hm, hx, hrun, Result.andThen]
    exact hK' _ _ (hK w' (Lib.hid h1) (Lib.hid h2) h3)
theorem wpList_rangeF (hg : o.guard = none) (m : Operand) (hop : o.op = .range t m) (ht : P.underlying t = some (.map k e)) (B : Nat) (h : MapF w B f) (todo : Nat → Bool) (htodo : ∀ j v, f j = some v → todo j = true) (hm : a.eval m = .map (some B)) (R : Nat) (hR : R = w.heap.size)
    (hK : ∀ w', Hid (IterF w' B R f todo) → Hid (Kept noneB w w') → w'.heap.size = w.heap.size + 1 → wpList P ops Q rest (a.put o.dst (.pointer (some ⟨R, 0, none⟩))) w') : wpList P ops Q (o :: rest) a w := by
  subst hR
  refine wpList_plain hg fun K' hK' => ?_
  obtain ⟨w', hrun, h1, h2, h3⟩ := h.range (P := P) ht htodo
  unfold Oper.wp
  simp [execOp, hop, hm, hrun, Result.andThen]
  exact hK' _ _ (hK w' (Lib.hid h1) (Lib.hid h2) h3)
theorem wpList_nextF (hg : o.guard = none) (it : Operand) (hop : o.op = .next it false) (B R : Nat) (todo : Nat → Bool) (mkV : Nat → Value) (hf : ∀ j v, f j = some v → v = mkV j) (hit : a.eval it = .pointer (some ⟨R, 0, none⟩)) (h : IterF w B R f todo)
    (hDone : (∀ j v, f j = some v → todo j = false) → wpList P ops Q rest (a.put o.dst (.tuple #[.bool false])) w)
    (hMore : ∀ (j : Nat) (w' : World) (v : Value), f j = some v → todo j = true → Hid (IterF w' B R f (fun z => todo z && z != j)) → Hid (w'.rangeLeft B R < w.rangeLeft B R) → Hid (Kept (oneB R) w w') → w'.heap.size = w.heap.size →
      (Instr.entry (.pointer (some ⟨R, 0, none⟩))).run P w' = .ok (.tuple #[.int .i64 j, mkV j]) w' → wpList P ops Q rest (a.put o.dst (.tuple #[.bool true, .int .i64 j, mkV j])) w') : wpList P ops Q (o :: rest) a w := by
  refine wpList_plain hg fun K' hK' => ?_
  unfold Oper.wp
  rcases h.next (P := P) o.type with ⟨h0, hrun⟩ | ⟨j, v, w', hj, htj, hrun, hi, hlt, hkp, hsz, hen⟩
  · simp [execOp, hop, hit, hrun, Result.andThen]
    exact hK' _ _ (hDone h0)
  · obtain rfl := hf j v hj
    simp [execOp, hop, hit, hrun, Result.andThen]
    exact hK' _ _ (hMore j w' _ hj htj (Lib.hid hi) (Lib.hid hlt) (Lib.hid hkp) hsz hen)
end
end Go.Proofs.YtdnelijkhinpcabDoor.Mp
