/- head.blank: eleven fields of bytes 0, laid into a map in whatever order. -/
import Derived.Test.YtdnelijkhinpcabDoorParts
namespace Go.Proofs.YtdnelijkhinpcabDoor.Head
open Go.ChangeShapes Go.WideShapes Go.ChangeAt Go.RowKit Go.MapKept Go.Proofs.YtdnelijkhinpcabDoor.Base Go.Proofs.YtdnelijkhinpcabDoor.Byt Go.Proofs.YtdnelijkhinpcabDoor.Hp Go.Proofs.YtdnelijkhinpcabDoor.Mp Go.Lib
set_option linter.unusedVariables false

/-- the operations of a function's second statement -/
def opsOf2 (f : Func) : Array Oper :=
  match f.body with
  | some (.seq _ (.region _ ops _)) => ops
  | some (.seq _ (.seq (.region _ ops _) _)) => ops
  | _ => #[]
noncomputable def blankOps : Array Oper := opsOf2 Tryd.f15
theorem op_map : ∃ o, blankOps[0]? = some o ∧ o.op = .makeMap 44 none ∧ o.dst = some 1 ∧ o.guard = none := ⟨_, rfl, rfl, rfl, rfl⟩
theorem op_make : ∀ i, i < 11 → ∃ o, blankOps[1 + 3 * i]? = some o ∧ o.op = .makeSlice 27 (.const (.int .i64 (wideF i))) (.const (.int .i64 (wideF i))) ∧ o.dst = some (2 + 2 * i) ∧ o.guard = none := by
  intro i hi
  rcases cases11 hi with rfl | rfl | rfl | rfl | rfl | rfl | rfl | rfl | rfl | rfl | rfl <;> exact ⟨_, rfl, rfl, rfl, rfl⟩
theorem op_build : ∀ i, i < 11 → ∃ o, blankOps[2 + 3 * i]? = some o ∧ o.op = .build 53 #[(0, .const (.int .i64 (atF i))), (1, .tmp (2 + 2 * i))] ∧ o.dst = some (3 + 2 * i) ∧ o.guard = none ∧ o.after = #[⟨1 + 3 * i, .data⟩] := by
  intro i hi
  rcases cases11 hi with rfl | rfl | rfl | rfl | rfl | rfl | rfl | rfl | rfl | rfl | rfl <;> exact ⟨_, rfl, rfl, rfl, rfl, rfl⟩
theorem op_ins : ∀ i, i < 11 → ∃ o, blankOps[3 + 3 * i]? = some o ∧ o.op = .insert 44 (.tmp 1) (.const (.int .i64 (i : Int))) (.tmp (3 + 2 * i)) ∧ o.dst = none ∧ o.guard = none ∧ o.after = #[⟨0, .data⟩, ⟨2 + 3 * i, .data⟩] := by
  intro i hi
  rcases cases11 hi with rfl | rfl | rfl | rfl | rfl | rfl | rfl | rfl | rfl | rfl | rfl <;> exact ⟨_, rfl, rfl, rfl, rfl, rfl⟩
theorem op_move : ∃ o, blankOps[34]? = some o ∧ o.op = .move (.tmp 1) ∧ o.dst = some 24 ∧ o.guard = none ∧ o.after[0]? = some ⟨0, .data⟩ := ⟨_, rfl, rfl, rfl, rfl, rfl⟩
theorem op_assign : ∃ o, blankOps[35]? = some o ∧ o.op = .assign (.tmp 24) ∧ o.dst = some 0 ∧ o.guard = none ∧ o.after[0]? = some ⟨34, .data⟩ := ⟨_, rfl, rfl, rfl, rfl, rfl⟩
theorem op_size : blankOps.size = 36 := rfl
theorem op_deps : ∀ i o, blankOps[i]? = some o → ∀ e ∈ o.after, Region.binds .any e = true → e.on < i := by
  have h : (blankOps.toList.zipIdx.all fun x => x.1.after.all fun e => decide (e.on < x.2)) = true := by decide +kernel
  intro i o ho e he _
  rw [List.all_eq_true] at h
  have h1 := h (o, i) (by rw [List.mem_iff_getElem?]; exact ⟨i, by simp [ho]⟩)
  have h2 := Array.all_eq_true_iff_forall_mem.1 h1 e he
  simpa using h2

/-- what holds while the literal is laid -/
structure BI (w0 : World) (listed : Array Bool) (a : Act) (w : World) (B : Nat) (r : Nat → Nat) : Prop where
  ls : listed.size = 36
  ts : a.tmps.size = 25
  df : a.defers = []
  kept : Kept noneB w0 w
  m0 : listed.getD 0 false = true → a.eval (.tmp 1) = .map (some B) ∧ w0.heap.size ≤ B ∧ MapF w B (fun i => if i < 11 ∧ listed.getD (3 + 3 * i) false = true then some (partV r i) else none)
  mks : ∀ i, i < 11 → listed.getD (1 + 3 * i) false = true → a.eval (.tmp (2 + 2 * i)) = .slice (some ⟨r i, 0, none⟩) (wideF i) (wideF i) ∧ w0.heap.size ≤ r i ∧ RowB w (r i) (List.replicate (wideF i) 0)
  bd : ∀ i, i < 11 → listed.getD (2 + 3 * i) false = true → a.eval (.tmp (3 + 2 * i)) = partV r i ∧ listed.getD (1 + 3 * i) false = true
  ins : ∀ i, i < 11 → listed.getD (3 + 3 * i) false = true → listed.getD (2 + 3 * i) false = true ∧ listed.getD 0 false = true
  inj : ∀ i j, i < 11 → j < 11 → listed.getD (1 + 3 * i) false = true → listed.getD (1 + 3 * j) false = true → r i = r j → i = j
  mv : listed.getD 34 false = true → listed.getD 0 false = true ∧ a.eval (.tmp 24) = .map (some B)
  asg : listed.getD 35 false = true → listed.getD 34 false = true ∧ a.eval (.tmp 0) = .map (some B)
theorem evalC (a : Act) (v : Value) : a.eval (.const v) = v := rfl
theorem getD_flip {listed : Array Bool} {i : Nat} (h : listed.getD i true = false) : listed.getD i false = false := by
  have := lt_of_unlisted h
  simp only [Array.getD_eq_getD_getElem?] at h ⊢
  rw [Array.getElem?_eq_getElem this] at h ⊢
  exact h
theorem build_part (w : World) (i : Nat) (x : Value) (hx : ∃ p l c, x = .slice p l c) : (Instr.build 53 #[(0, .int .i64 (atF i)), (1, x)]).run Tryd.prog w = .ok (.agg #[.int .i64 (atF i), x]) w := by
  obtain ⟨p, l, c, rfl⟩ := hx
  kernel_rfl
section
variable {w0 w : World} {listed : Array Bool} {a : Act} {B : Nat} {r : Nat → Nat} {Q : Exit → Act → World → Prop}
def BX (w0 : World) (listed : Array Bool) (a : Act) (w : World) : Prop := ∃ B r, BI w0 listed a w B r
theorem step_map (h : BI w0 listed a w B r) (hr : 0 ∈ Region.ready .any blankOps listed) : wpOp Tryd.prog blankOps Q 0 (BX w0 (listed.setIfInBounds 0 true)) a w := by
  have hun := (mem_ready.1 hr).1
  have hf := getD_flip hun
  have hlt := lt_of_unlisted hun
  obtain ⟨o, ho, hop, hd, hg⟩ := op_map
  refine wpOp_step ho fun K hK => ?_
  rw [if_pos (by simp [Region.wanted, hg])]
  have hrun := @run_makeMap Tryd.prog 44 w
  unfold Oper.wp
  simp [execOp, hop, hrun, Result.andThen]
  rw [Oper.upon_value, hd]
  refine hK _ _ ⟨w.heap.size, r, ?_⟩
  have hsz := h.ts
  have hkA : Kept noneB w (w.alloc (.map #[] 0)) := (Kept.refl _ _).alloc _
  have ev : ∀ t : Nat, t ≠ 1 → (a.put (some 1) (.map (some w.heap.size))).eval (.tmp t) = a.eval (.tmp t) := fun t ht => by rw [put_eval _ (by omega), if_neg ht]
  have no : ∀ i, i < 11 → listed.getD (3 + 3 * i) false = false := fun i hi => by
    cases hc : listed.getD (3 + 3 * i) false with
    | false => rfl
    | true => have := (h.ins i hi hc).2; rw [hf] at this; cases this
  refine ⟨by simpa using h.ls, by rw [put_size]; exact hsz, by rw [put_defers]; exact h.df, h.kept.trans hkA, fun _ => ⟨by rw [put_eval _ (by omega), if_pos rfl], h.kept.size, ?_⟩, ?_, ?_, ?_, ?_, ?_, ?_⟩
  · have e : (fun i => if i < 11 ∧ (listed.setIfInBounds 0 true).getD (3 + 3 * i) false = true then some (partV r i) else none) = fun _ => (none : Option Value) := by
      funext i
      rw [listed_get hlt, if_neg (show ¬ 3 + 3 * i = 0 by omega)]
      by_cases hi : i < 11
      · rw [no i hi]; simp
      · simp [hi]
    rw [e]
    exact mapF_made w
  · intro i hi hl
    rw [listed_get hlt, if_neg (show ¬ 1 + 3 * i = 0 by omega)] at hl
    obtain ⟨h1, h2, h3⟩ := h.mks i hi hl
    exact ⟨by rw [ev _ (by omega)]; exact h1, h2, h3.kept hkA id⟩
  · intro i hi hl
    rw [listed_get hlt, if_neg (show ¬ 2 + 3 * i = 0 by omega)] at hl
    obtain ⟨h1, h2⟩ := h.bd i hi hl
    exact ⟨by rw [ev _ (by omega)]; exact h1, by rw [listed_get hlt, if_neg (by omega)]; exact h2⟩
  · intro i hi hl
    rw [listed_get hlt, if_neg (show ¬ 3 + 3 * i = 0 by omega), no i hi] at hl
    cases hl
  · intro i j hi hj h1 h2
    rw [listed_get hlt, if_neg (show ¬ 1 + 3 * i = 0 by omega)] at h1
    rw [listed_get hlt, if_neg (show ¬ 1 + 3 * j = 0 by omega)] at h2
    exact h.inj i j hi hj h1 h2
  · intro hl
    rw [listed_get hlt, if_neg (by omega)] at hl
    have := (h.mv hl).1
    rw [hf] at this
    cases this
  · intro hl
    rw [listed_get hlt, if_neg (by omega)] at hl
    have := (h.mv (h.asg hl).1).1
    rw [hf] at this
    cases this
theorem step_make (h : BI w0 listed a w B r) {k : Nat} (hk : k < 11) (hr : 1 + 3 * k ∈ Region.ready .any blankOps listed) : wpOp Tryd.prog blankOps Q (1 + 3 * k) (BX w0 (listed.setIfInBounds (1 + 3 * k) true)) a w := by
  have hun := (mem_ready.1 hr).1
  have hf := getD_flip hun
  have hlt := lt_of_unlisted hun
  have hw := wide_pos hk
  obtain ⟨o, ho, hop, hd, hg⟩ := op_make k hk
  obtain ⟨i0, hi0, hz0, hz1, hz2⟩ := info_parts infoU8
  refine wpOp_step ho fun K hK => ?_
  rw [if_pos (by simp [Region.wanted, hg])]
  have hrun := run_make (P := Tryd.prog) w 27 5 i0 (.int .u8 0) Tryd.underlying27 hi0 hz0 .i64 .i64 (wideF k) (wideF k) (by omega) (by omega) (by rw [hz2]; omega) (by omega)
  rw [hz1, Nat.mul_one, Int.toNat_natCast, show (Value.int .u8 0).cells = #[Value.int .u8 0] from rfl] at hrun
  unfold Oper.wp
  simp [execOp, hop, Act.eval, hrun, Result.andThen]
  rw [Oper.upon_value, hd]
  refine hK _ _ ⟨B, fun i => if i = k then w.heap.size else r i, ?_⟩
  have hsz := h.ts
  have hkA : Kept noneB w (w.alloc (.cells (madeCells #[Value.int .u8 0] (wideF k)) 5)) := (Kept.refl _ _).alloc _
  have ev : ∀ t : Nat, t ≠ 2 + 2 * k → (a.put (some (2 + 2 * k)) (.slice (some ⟨w.heap.size, 0, none⟩) (wideF k) (wideF k))).eval (.tmp t) = a.eval (.tmp t) := fun t ht => by rw [put_eval _ (by omega), if_neg ht]
  have ls : ∀ j, j ≠ 1 + 3 * k → (listed.setIfInBounds (1 + 3 * k) true).getD j false = listed.getD j false := fun j hj => by rw [listed_get hlt, if_neg hj]
  have nob : listed.getD (2 + 3 * k) false = false := by
    cases hc : listed.getD (2 + 3 * k) false with
    | false => rfl
    | true => have := (h.bd k hk hc).2; rw [hf] at this; cases this
  have noi : listed.getD (3 + 3 * k) false = false := by
    cases hc : listed.getD (3 + 3 * k) false with
    | false => rfl
    | true => have := (h.ins k hk hc).1; rw [nob] at this; cases this
  have pv : ∀ i, i ≠ k → partV (fun i => if i = k then w.heap.size else r i) i = partV r i := fun i hi => by simp only [partV, if_neg hi]
  refine ⟨by simpa using h.ls, by rw [put_size]; exact hsz, by rw [put_defers]; exact h.df, h.kept.trans hkA, ?_, ?_, ?_, ?_, ?_, ?_, ?_⟩
  · intro hl
    rw [ls 0 (by omega)] at hl
    obtain ⟨h1, h2, h3⟩ := h.m0 hl
    refine ⟨by rw [ev _ (by omega)]; exact h1, h2, ?_⟩
    have e : (fun i => if i < 11 ∧ (listed.setIfInBounds (1 + 3 * k) true).getD (3 + 3 * i) false = true then some (partV (fun i => if i = k then w.heap.size else r i) i) else none) = fun i => if i < 11 ∧ listed.getD (3 + 3 * i) false = true then some (partV r i) else none := by
      funext i
      rw [ls _ (by omega)]
      by_cases hik : i = k
      · subst hik; rw [noi]; simp
      · rw [pv i hik]
    rw [e]
    exact h3.kept hkA id
  · intro i hi hl
    by_cases hik : i = k
    · subst hik
      refine ⟨by rw [put_eval _ (by omega), if_pos rfl, if_pos rfl], by rw [if_pos rfl]; exact h.kept.size, ?_⟩
      rw [if_pos rfl]
      exact rowB_made w (wideF i)
    · rw [ls _ (by omega)] at hl
      obtain ⟨h1, h2, h3⟩ := h.mks i hi hl
      rw [if_neg hik]
      exact ⟨by rw [ev _ (by omega)]; exact h1, h2, h3.kept hkA id⟩
  · intro i hi hl
    rw [ls _ (by omega)] at hl
    by_cases hik : i = k
    · subst hik; rw [nob] at hl; cases hl
    · obtain ⟨h1, h2⟩ := h.bd i hi hl
      exact ⟨by rw [ev _ (by omega), pv i hik]; exact h1, by rw [ls _ (by omega)]; exact h2⟩
  · intro i hi hl
    rw [ls _ (by omega)] at hl
    rw [ls _ (by omega), ls _ (by omega)]
    exact h.ins i hi hl
  · intro i j hi hj h1 h2
    by_cases hik : i = k
    · by_cases hjk : j = k
      · intro _; rw [hik, hjk]
      · rw [if_pos hik, if_neg hjk]
        rw [ls _ (by omega)] at h2
        have := (h.mks j hj h2).2.2.lt
        intro e; omega
    · rw [ls _ (by omega)] at h1
      by_cases hjk : j = k
      · rw [if_neg hik, if_pos hjk]
        have := (h.mks i hi h1).2.2.lt
        intro e; omega
      · rw [if_neg hik, if_neg hjk]
        rw [ls _ (by omega)] at h2
        exact h.inj i j hi hj h1 h2
  · intro hl
    rw [ls _ (by omega)] at hl
    rw [ls _ (by omega), ev _ (by omega)]
    exact h.mv hl
  · intro hl
    rw [ls _ (by omega)] at hl
    rw [ls _ (by omega), ev _ (by omega)]
    exact h.asg hl
theorem step_build (h : BI w0 listed a w B r) {k : Nat} (hk : k < 11) (hr : 2 + 3 * k ∈ Region.ready .any blankOps listed) : wpOp Tryd.prog blankOps Q (2 + 3 * k) (BX w0 (listed.setIfInBounds (2 + 3 * k) true)) a w := by
  obtain ⟨hun, o', ho', hdep⟩ := mem_ready.1 hr
  have hlt := lt_of_unlisted hun
  have hf := getD_flip hun
  obtain ⟨o, ho, hop, hd, hg, haf⟩ := op_build k hk
  obtain rfl : o = o' := Option.some.inj (ho.symm.trans ho')
  have hl1 : listed.getD (1 + 3 * k) false = true := hdep ⟨1 + 3 * k, .data⟩ (by rw [haf]; simp) rfl
  obtain ⟨hmk, _, _⟩ := h.mks k hk hl1
  refine wpOp_step ho fun K hK => ?_
  rw [if_pos (by simp [Region.wanted, hg])]
  have hrun := build_part w k (.slice (some ⟨r k, 0, none⟩) (wideF k) (wideF k)) ⟨_, _, _, rfl⟩
  have hmk' : a.tmps.getD (2 + 2 * k) undef = .slice (some ⟨r k, 0, none⟩) (wideF k) (wideF k) := hmk
  unfold Oper.wp
  simp only [execOp, hop, List.map_toArray, List.map_cons, List.map_nil, Act.eval, hmk', Sem.run_bind, hrun, Result.andThen, Oper.upon]
  rw [hd]
  refine hK _ _ ⟨B, r, ?_⟩
  have hsz := h.ts
  have ev : ∀ t : Nat, t ≠ 3 + 2 * k → (a.put (some (3 + 2 * k)) (partV r k)).eval (.tmp t) = a.eval (.tmp t) := fun t ht => by rw [put_eval _ (by omega), if_neg ht]
  have ls : ∀ j, j ≠ 2 + 3 * k → (listed.setIfInBounds (2 + 3 * k) true).getD j false = listed.getD j false := fun j hj => by rw [listed_get hlt, if_neg hj]
  show BI w0 _ (a.put (some (3 + 2 * k)) (partV r k)) w B r
  refine ⟨by simpa using h.ls, by rw [put_size]; exact hsz, by rw [put_defers]; exact h.df, h.kept, ?_, ?_, ?_, ?_, ?_, ?_, ?_⟩
  · intro hl
    rw [ls 0 (by omega)] at hl
    obtain ⟨h1, h2, h3⟩ := h.m0 hl
    refine ⟨by rw [ev _ (by omega)]; exact h1, h2, ?_⟩
    have e : (fun i => if i < 11 ∧ (listed.setIfInBounds (2 + 3 * k) true).getD (3 + 3 * i) false = true then some (partV r i) else none) = fun i => if i < 11 ∧ listed.getD (3 + 3 * i) false = true then some (partV r i) else none := by
      funext i
      rw [ls _ (by omega)]
    rw [e]
    exact h3
  · intro i hi hl
    rw [ls _ (by omega)] at hl
    rw [ev _ (by omega)]
    exact h.mks i hi hl
  · intro i hi hl
    by_cases hik : i = k
    · subst hik
      exact ⟨by rw [put_eval _ (by omega), if_pos rfl], by rw [ls _ (by omega)]; exact hl1⟩
    · rw [ls _ (by omega)] at hl
      obtain ⟨h1, h2⟩ := h.bd i hi hl
      exact ⟨by rw [ev _ (by omega)]; exact h1, by rw [ls _ (by omega)]; exact h2⟩
  · intro i hi hl
    rw [ls _ (by omega)] at hl
    obtain ⟨h1, h2⟩ := h.ins i hi hl
    refine ⟨?_, by rw [ls _ (by omega)]; exact h2⟩
    rw [listed_get hlt]
    split
    · rfl
    · exact h1
  · intro i j hi hj h1 h2
    rw [ls _ (by omega)] at h1 h2
    exact h.inj i j hi hj h1 h2
  · intro hl
    rw [ls _ (by omega)] at hl
    rw [ls _ (by omega), ev _ (by omega)]
    exact h.mv hl
  · intro hl
    rw [ls _ (by omega)] at hl
    rw [ls _ (by omega), ev _ (by omega)]
    exact h.asg hl
theorem step_ins (h : BI w0 listed a w B r) {k : Nat} (hk : k < 11) (hr : 3 + 3 * k ∈ Region.ready .any blankOps listed) : wpOp Tryd.prog blankOps Q (3 + 3 * k) (BX w0 (listed.setIfInBounds (3 + 3 * k) true)) a w := by
  obtain ⟨hun, o', ho', hdep⟩ := mem_ready.1 hr
  have hlt := lt_of_unlisted hun
  have hf := getD_flip hun
  obtain ⟨o, ho, hop, hd, hg, haf⟩ := op_ins k hk
  obtain rfl : o = o' := Option.some.inj (ho.symm.trans ho')
  have hl0 : listed.getD 0 false = true := hdep ⟨0, .data⟩ (by rw [haf]; simp) rfl
  have hl2 : listed.getD (2 + 3 * k) false = true := hdep ⟨2 + 3 * k, .data⟩ (by rw [haf]; simp) rfl
  obtain ⟨hm1, hm2, hm3⟩ := h.m0 hl0
  obtain ⟨hb1, _⟩ := h.bd k hk hl2
  refine wpOp_step ho fun K hK => ?_
  rw [if_pos (by simp [Region.wanted, hg])]
  obtain ⟨w', hrun, hmap, hkp, hs⟩ := hm3.put (P := Tryd.prog) Tryd.underlying44 Tryd.underlying47 k (partV r k) (by rw [hf]; simp)
  have hrun' : (Instr.mapUpdate 44 (.map (some B)) (.int .i64 (k : Int)) (partV r k)).run Tryd.prog w = .ok () w' := hrun
  unfold Oper.wp
  simp [execOp, hop, hm1, hb1, evalC, hrun', Result.andThen]
  first | rw [Oper.upon_value, hd] | rw [Oper.upon_skip, hd]
  refine hK _ _ ⟨B, r, ?_⟩
  have hsz := h.ts
  have ls : ∀ j, j ≠ 3 + 3 * k → (listed.setIfInBounds (3 + 3 * k) true).getD j false = listed.getD j false := fun j hj => by rw [listed_get hlt, if_neg hj]
  have hB : B < w.heap.size := hm3.lt
  have hkp0 : Kept noneB w0 w' := h.kept.then hkp (fun i hi => by
    have : i = B := hi
    omega)
  refine ⟨by simpa using h.ls, hsz, h.df, hkp0, ?_, ?_, ?_, ?_, ?_, ?_, ?_⟩
  · intro _
    refine ⟨hm1, hm2, ?_⟩
    have e : (fun i => if i < 11 ∧ (listed.setIfInBounds (3 + 3 * k) true).getD (3 + 3 * i) false = true then some (partV r i) else none) = fun y => if y = k then some (partV r k) else (if y < 11 ∧ listed.getD (3 + 3 * y) false = true then some (partV r y) else none) := by
      funext i
      by_cases hik : i = k
      · subst hik
        rw [listed_get hlt, if_pos rfl, if_pos ⟨hk, rfl⟩, if_pos rfl]
      · rw [ls _ (by omega), if_neg hik]
    rw [e]
    exact hmap
  · intro i hi hl
    rw [ls _ (by omega)] at hl
    obtain ⟨h1, h2, h3⟩ := h.mks i hi hl
    refine ⟨h1, h2, h3.kept hkp (fun e => ?_)⟩
    have e : r i = B := e
    obtain ⟨es, clock, hb, _⟩ := hm3
    unfold RowB at h3
    rw [e, hb] at h3
    cases h3
  · intro i hi hl
    rw [ls _ (by omega)] at hl
    rw [ls _ (by omega)]
    exact h.bd i hi hl
  · intro i hi hl
    rw [ls _ (by omega), ls _ (by omega)]
    by_cases hik : i = k
    · subst hik; exact ⟨hl2, hl0⟩
    · rw [ls _ (by omega)] at hl
      exact h.ins i hi hl
  · intro i j hi hj h1 h2
    rw [ls _ (by omega)] at h1 h2
    exact h.inj i j hi hj h1 h2
  · intro hl
    rw [ls _ (by omega)] at hl
    rw [ls _ (by omega)]
    exact h.mv hl
  · intro hl
    rw [ls _ (by omega)] at hl
    rw [ls _ (by omega)]
    exact h.asg hl
theorem step_last (h : BI w0 listed a w B r) {k d : Nat} {s : Nat} {o : Oper} (hr : k ∈ Region.ready .any blankOps listed) (ho : blankOps[k]? = some o) (hop : o.op = .move (.tmp s) ∨ o.op = .assign (.tmp s)) (hd : o.dst = some d) (hg : o.guard = none)
    (hc : (k = 34 ∧ d = 24 ∧ s = 1 ∧ listed.getD 0 false = true) ∨ (k = 35 ∧ d = 0 ∧ s = 24 ∧ listed.getD 34 false = true)) : wpOp Tryd.prog blankOps Q k (BX w0 (listed.setIfInBounds k true)) a w := by
  obtain ⟨hun, _⟩ := mem_ready.1 hr
  have hlt := lt_of_unlisted hun
  have hf := getD_flip hun
  have hs : a.eval (.tmp s) = .map (some B) := by
    rcases hc with ⟨_, _, rfl, h0⟩ | ⟨_, _, rfl, h0⟩
    · exact (h.m0 h0).1
    · exact (h.mv h0).2
  refine wpOp_step ho fun K hK => ?_
  rw [if_pos (by simp [Region.wanted, hg])]
  unfold Oper.wp
  rcases hop with hop | hop
  all_goals
    simp [execOp, hop, hs]
    rw [Oper.upon_value, hd]
    refine hK _ _ ⟨B, r, ?_⟩
    have hsz := h.ts
    have ev : ∀ t : Nat, t ≠ d → (a.put (some d) (.map (some B))).eval (.tmp t) = a.eval (.tmp t) := fun t ht => by rw [put_eval _ (by omega), if_neg ht]
    have ed : (a.put (some d) (.map (some B))).eval (.tmp d) = .map (some B) := by rw [put_eval _ (by omega), if_pos rfl]
    have ls : ∀ j, j ≠ k → (listed.setIfInBounds k true).getD j false = listed.getD j false := fun j hj => by rw [listed_get hlt, if_neg hj]
    refine ⟨by simpa using h.ls, by rw [put_size]; exact hsz, by rw [put_defers]; exact h.df, h.kept, ?_, ?_, ?_, ?_, ?_, ?_, ?_⟩
    · intro hl
      rw [ls 0 (by omega)] at hl
      obtain ⟨h1, h2, h3⟩ := h.m0 hl
      refine ⟨by rw [ev _ (by omega)]; exact h1, h2, ?_⟩
      have e : (fun i => if i < 11 ∧ (listed.setIfInBounds k true).getD (3 + 3 * i) false = true then some (partV r i) else none) = fun i => if i < 11 ∧ listed.getD (3 + 3 * i) false = true then some (partV r i) else none := by
        funext i
        by_cases hi : i < 11
        · rw [ls _ (by omega)]
        · simp [hi]
      rw [e]
      exact h3
    · intro i hi hl
      rw [ls _ (by omega)] at hl
      rw [ev _ (by omega)]
      exact h.mks i hi hl
    · intro i hi hl
      rw [ls _ (by omega)] at hl
      rw [ev _ (by omega), ls _ (by omega)]
      exact h.bd i hi hl
    · intro i hi hl
      rw [ls _ (by omega)] at hl
      rw [ls _ (by omega), ls _ (by omega)]
      exact h.ins i hi hl
    · intro i j hi hj h1 h2
      rw [ls _ (by omega)] at h1 h2
      exact h.inj i j hi hj h1 h2
    · intro hl
      rcases hc with ⟨rfl, rfl, rfl, h0⟩ | ⟨rfl, rfl, rfl, h0⟩
      · exact ⟨by rw [ls _ (by omega)]; exact h0, ed⟩
      · rw [ls _ (by omega)] at hl
        rw [ls _ (by omega), ev _ (by omega)]
        exact h.mv hl
    · intro hl
      rcases hc with ⟨rfl, rfl, rfl, h0⟩ | ⟨rfl, rfl, rfl, h0⟩
      · rw [ls _ (by omega)] at hl
        have := (h.asg hl).1
        rw [hf] at this
        cases this
      · exact ⟨by rw [ls _ (by omega)]; exact h0, ed⟩
theorem step_any (i : Nat) (h : BX w0 listed a w) (hr : i ∈ Region.ready .any blankOps listed) : wpOp Tryd.prog blankOps Q i (BX w0 (listed.setIfInBounds i true)) a w := by
  obtain ⟨B, r, h⟩ := h
  have hi : i < 36 := by
    obtain ⟨_, o, ho, _⟩ := mem_ready.1 hr
    have := (Array.getElem?_eq_some_iff.1 ho).1
    rwa [op_size] at this
  have hcase : i = 0 ∨ (∃ k, k < 11 ∧ i = 1 + 3 * k) ∨ (∃ k, k < 11 ∧ i = 2 + 3 * k) ∨ (∃ k, k < 11 ∧ i = 3 + 3 * k) ∨ i = 34 ∨ i = 35 := by
    by_cases h0 : i = 0
    · exact Or.inl h0
    · by_cases h3 : i < 34
      · have : i = 1 + 3 * ((i - 1) / 3) ∨ i = 2 + 3 * ((i - 1) / 3) ∨ i = 3 + 3 * ((i - 1) / 3) := by omega
        rcases this with h | h | h
        · exact Or.inr (Or.inl ⟨_, by omega, h⟩)
        · exact Or.inr (Or.inr (Or.inl ⟨_, by omega, h⟩))
        · exact Or.inr (Or.inr (Or.inr (Or.inl ⟨_, by omega, h⟩)))
      · exact Or.inr (Or.inr (Or.inr (Or.inr (by omega))))
  rcases hcase with rfl | ⟨k, hk, rfl⟩ | ⟨k, hk, rfl⟩ | ⟨k, hk, rfl⟩ | rfl | rfl
  · exact step_map h hr
  · exact step_make h hk hr
  · exact step_build h hk hr
  · exact step_ins h hk hr
  · obtain ⟨o, ho, hop, hd, hg, haf⟩ := op_move
    obtain ⟨_, o', ho', hdep⟩ := mem_ready.1 hr
    obtain rfl : o = o' := Option.some.inj (ho.symm.trans ho')
    exact step_last h hr ho (Or.inl hop) hd hg (Or.inl ⟨rfl, rfl, rfl, hdep ⟨0, .data⟩ (Array.mem_of_getElem? haf) rfl⟩)
  · obtain ⟨o, ho, hop, hd, hg, haf⟩ := op_assign
    obtain ⟨_, o', ho', hdep⟩ := mem_ready.1 hr
    obtain rfl : o = o' := Option.some.inj (ho.symm.trans ho')
    exact step_last h hr ho (Or.inr hop) hd hg (Or.inr ⟨rfl, rfl, rfl, hdep ⟨34, .data⟩ (Array.mem_of_getElem? haf) rfl⟩)
/-- what the literal leaves -/
theorem blank_region (ha : a.tmps.size = 25) (hd : a.defers = []) (hQ : ∀ a' w' B r, a'.defers = [] → a'.eval (.tmp 0) = .map (some B) → PartsAt w' w.heap.size B r zeroO → Kept noneB w w' → Q .normal a' w') :
    wpAny Tryd.prog .any blankOps Q blankOps.size (Array.replicate blankOps.size false) a { w with drawn := w.drawn + 1 } := by
  have no : ∀ j, (Array.replicate blankOps.size false).getD j false = false := fun j => by
    rw [Array.getD_eq_getD_getElem?, Array.getElem?_replicate]
    split <;> rfl
  refine wpAny_inv (BX w) (fun listed a w' i h hr => step_any i h hr) (fun listed a' w' h hr => ?_) _ _ _ _ ?_ ?_
  · obtain ⟨B, r, h⟩ := h
    have hall := all_listed (by rw [h.ls, op_size]) op_deps hr 36
    have all : ∀ i, i < 36 → listed.getD i false = true := fun i hi => hall i hi (by rw [op_size]; exact hi)
    obtain ⟨h1, h2, h3⟩ := h.m0 (all 0 (by omega))
    refine hQ a' w' B r h.df (h.asg (all 35 (by omega))).2 ⟨?_, ?_, zeroO_fits, fun i j hi hj => h.inj i j hi hj (all _ (by omega)) (all _ (by omega)), h2, fun i hi => (h.mks i hi (all _ (by omega))).2.1⟩ h.kept
    · have e : partF r = fun i => if i < 11 ∧ listed.getD (3 + 3 * i) false = true then some (partV r i) else none := by
        funext i
        unfold partF
        by_cases hi : i < 11
        · rw [if_pos hi, if_pos ⟨hi, all _ (by omega)⟩]
        · rw [if_neg hi, if_neg (fun e => hi e.1)]
      rw [e]
      exact h3
    · intro i hi
      exact (h.mks i hi (all _ (by omega))).2.2
  · unfold stillN
    exact Nat.le_trans (List.length_filter_le _ _) (by rw [List.length_range]; exact Nat.le_refl _)
  · refine ⟨0, fun _ => 0, by rw [Array.size_replicate]; exact op_size, ha, hd, (Kept.refl noneB w).drew, ?_, ?_, ?_, ?_, ?_, ?_, ?_⟩
    all_goals first
      | (intro hl; rw [no] at hl; cases hl)
      | (intro i hi hl; rw [no] at hl; cases hl)
      | (intro i j hi hj hl; rw [no] at hl; cases hl)
end
theorem field_own (w : World) (x : Int) (p : Option Addr) (l c : Nat) : (Instr.field 53 (.agg #[.int .i64 x, .slice p l c]) 1).run Tryd.prog w = .ok (.slice p l c) w := by kernel_rfl
theorem blank_any (w : World) : Calls Tryd.prog 15 #[] w fun e w' => ∃ B r, e = .returned (.map (some B)) ∧ PartsAt w' w.heap.size B r zeroO ∧ Kept noneB w w' := by
  go_enter Tryd.func15, Tryd.ntmps15
  go_wp2
  refine wp_region_any (by kernel_rfl) (blank_region (by rfl) (by rfl) fun a' w' B r hd hB hp hk => ?_)
  simp only [Exit.then]
  apply_assumption
  go_wp2
  refine bodyPost_ret (results_tmp rfl _ _ _) hd ?_
  exact ⟨B, r, congrArg Ending.returned hB, hp, hk⟩
end Go.Proofs.YtdnelijkhinpcabDoor.Head
