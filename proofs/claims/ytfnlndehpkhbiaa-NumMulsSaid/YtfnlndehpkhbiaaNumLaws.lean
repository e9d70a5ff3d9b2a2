/- The walks over the laws of layer num: each returns true, and writes nothing that was there. -/
import Derived.Test.YtfnlndehpkhbiaaNum
namespace Go.Proofs.Ytfnlndehpkhbiaa.Walk
open Go.ChangeShapes Go.WideShapes Go.ChangeAt Go.RowKit Go.Proofs.Ytfnlndehpkhbiaa.Base Go.Proofs.Ytfnlndehpkhbiaa.Num
set_option linter.unusedVariables false

set_option maxHeartbeats 400000 in
theorem numIn (n l m : Int) (w : World) (w0 : (Lit.int .i64 n).wf = true) (w1 : (Lit.int .i64 l).wf = true) (w2 : (Lit.int .i64 m).wf = true) :
    Calls Try.prog 6 #[.int .i64 n, .int .i64 l, .int .i64 m] w fun e w' => e = .returned (.bool true) ∧ Below w.heap.size w w' := by
  clear w0 w1 w2
  by_cases h1 : l ≤ n
  · by_cases h2 : n ≤ m
    · go_enter Try.func6, Try.ntmps6
      go_wp2_with fail
      refine (answers_any _).mono ?_
      rintro e w3 ⟨rfl, hb⟩
      go_wp2_with (go_at_call 14; first | (refine (in_yes _ _ _ _ (by omega) (by omega)).mono ?_; rintro e w' ⟨rfl, rfl⟩) | (refine (in_no _ _ _ _ (by omega)).mono ?_; rintro e w' ⟨rfl, rfl⟩))
      go_ret
      exact ⟨rfl, hb⟩
    · have d2 : decide (n ≤ m) = false := by simpa using h2
      go_enter Try.func6, Try.ntmps6
      go_wp2_with fail
      refine (answers_any _).mono ?_
      rintro e w3 ⟨rfl, hb⟩
      go_wp2_with (go_at_call 14; first | (refine (in_yes _ _ _ _ (by omega) (by omega)).mono ?_; rintro e w' ⟨rfl, rfl⟩) | (refine (in_no _ _ _ _ (by omega)).mono ?_; rintro e w' ⟨rfl, rfl⟩))
      go_ret
      exact ⟨rfl, hb⟩
  · go_enter Try.func6, Try.ntmps6
    go_wp2_with fail
    refine (answers_any _).mono ?_
    rintro e w3 ⟨rfl, hb⟩
    go_wp2_with (go_at_call 14; first | (refine (in_yes _ _ _ _ (by omega) (by omega)).mono ?_; rintro e w' ⟨rfl, rfl⟩) | (refine (in_no _ _ _ _ (by omega)).mono ?_; rintro e w' ⟨rfl, rfl⟩))
    go_ret
    exact ⟨rfl, hb⟩

set_option maxHeartbeats 400000 in
theorem numPads (n : Int) (w : World) (w0 : (Lit.int .i64 n).wf = true) :
    Calls Try.prog 5 #[.int .i64 n] w fun e w' => e = .returned (.bool true) ∧ Below w.heap.size w w' := by
  clear w0
  by_cases h : 0 ≤ n ∧ n ≤ 4611686018427387904
  · obtain ⟨h0, h1⟩ := h
    have hp : n ≤ padF n ∧ padF n - n < 512 ∧ padF n % 512 = 0 ∧ padF n ≤ 4611686018427387904 := by
      unfold padF; rw [if_pos ⟨h0, h1⟩]; split <;> omega
    obtain ⟨p, hpe⟩ : ∃ p, p = padF n := ⟨_, rfl⟩
    have HP : Hid (p = padF n) := hpe
    rw [← hpe] at hp
    clear hpe
    obtain ⟨p1, p2, p3, p4⟩ := hp
    have p5 : (p % 512 == 0) = true := by simpa using p3
    have P3 : Hid (p % 512 = 0) := p3
    clear p3
    go_enter Try.func5, Try.ntmps5
    go_wp2_with fail
    refine (pad_any n _).mono ?_
    rintro e w3 ⟨rfl, hb⟩
    rw [← HP.out, inB_true h0 h1]
    go_wp2_with fail
    refine (may_yes n _ h0 h1).mono ?_
    rintro e w4 ⟨rfl, rfl⟩
    go_wp2_with fail
    refine (answers_any _).mono ?_
    rintro e w5 ⟨rfl, hb2⟩
    go_wp2
    go_ret
    exact ⟨rfl, hb.trans (hb2.mono hb.size)⟩
  · go_enter Try.func5, Try.ntmps5
    go_wp2_with fail
    refine (pad_any n _).mono ?_
    rintro e w3 ⟨rfl, hb⟩
    rw [show padF n = 0 from by rw [padF, if_neg h], inB_false h]
    go_wp2_with fail
    refine (may_no n _ h).mono ?_
    rintro e w4 ⟨rfl, rfl⟩
    go_wp2_with fail
    refine (answers_any _).mono ?_
    rintro e w5 ⟨rfl, hb2⟩
    go_wp2
    go_ret
    exact ⟨rfl, hb.trans (hb2.mono hb.size)⟩

/-- what the two roads of sums come to -/
theorem sumF_three (a b c : Int) : sumF [a, b, c] 0 = if 0 ≤ a ∧ 0 ≤ b ∧ 0 ≤ c ∧ a + b + c ≤ 4611686018427387904 then some (a + b + c) else none := by
  simp only [sumF]
  by_cases h : 0 ≤ a ∧ a ≤ 4611686018427387904 - 0
  · rw [if_pos h]
    by_cases h2 : 0 ≤ b ∧ b ≤ 4611686018427387904 - (0 + a)
    · rw [if_pos h2]
      by_cases h3 : 0 ≤ c ∧ c ≤ 4611686018427387904 - (0 + a + b)
      · rw [if_pos h3, if_pos (by omega), Int.zero_add]
      · rw [if_neg h3, if_neg (by omega)]
    · rw [if_neg h2, if_neg (by omega)]
  · rw [if_neg h, if_neg (by omega)]
theorem mulF_comm (a b : Int) : mulF a b = mulF b a := by
  unfold mulF; rw [Int.mul_comm a b]
  by_cases h : 0 ≤ a ∧ a ≤ 4611686018427387904 ∧ 0 ≤ b ∧ b ≤ 4611686018427387904 ∧ b * a ≤ 4611686018427387904
  · rw [if_pos h, if_pos (by omega)]
  · rw [if_neg h, if_neg (by omega)]

/-- a list of two, of three, that has just been laid -/
theorem two_new (V : World) (a b : Int) (B : Nat) (t : TypeId) (hB : B = V.heap.size) :
    ∀ i, i < 2 → (V.alloc (.cells #[.int .i64 a, .int .i64 b] t)).cell? ⟨B, 0 + i, none⟩ = some (.int .i64 ([a, b].getD i 0)) := fun i hi => by
  subst hB
  match i, hi with
  | 0, _ => simp
  | 1, _ => simp
theorem three_new (V : World) (a b c : Int) (B : Nat) (t : TypeId) (hB : B = V.heap.size) :
    ∀ i, i < 3 → (V.alloc (.cells #[.int .i64 a, .int .i64 b, .int .i64 c] t)).cell? ⟨B, 0 + i, none⟩ = some (.int .i64 ([a, b, c].getD i 0)) := fun i hi => by
  subst hB
  match i, hi with
  | 0, _ => simp
  | 1, _ => simp
  | 2, _ => simp

set_option maxHeartbeats 800000 in
theorem numOrders (a b c : Int) (w : World) (w0 : (Lit.int .i64 a).wf = true) (w1 : (Lit.int .i64 b).wf = true) (w2 : (Lit.int .i64 c).wf = true) :
    Calls Try.prog 7 #[.int .i64 a, .int .i64 b, .int .i64 c] w fun e w' => e = .returned (.bool true) ∧ Below w.heap.size w w' := by
  clear w0 w1 w2
  obtain ⟨m, s, hm⟩ : ∃ m s, valO (mulF a b) = m ∧ okO (mulF a b) = s := ⟨_, _, rfl, rfl⟩
  have HM := Lib.hid hm
  clear hm
  by_cases h : 0 ≤ a ∧ 0 ≤ b ∧ 0 ≤ c ∧ a + b + c ≤ 4611686018427387904
  · have e1 : sumF [a, b, c] 0 = some (a + b + c) := by rw [sumF_three, if_pos h]
    have e2 : sumF [c, a, b] 0 = some (a + b + c) := by rw [sumF_three, if_pos (by omega)]; congr 1; omega
    have e3 : sumF [b, a] 0 = some (a + b) := by rw [sumF_two, if_pos (by omega)]; congr 1; omega
    have e4 : sumF [a + b, c] 0 = some (a + b + c) := by rw [sumF_two, if_pos (by omega)]
    have E1 := Lib.hid e1
    have E2 := Lib.hid e2
    have E3 := Lib.hid e3
    have E4 := Lib.hid e4
    clear e1 e2 e3 e4 h
    go_enter Try.func7, Try.ntmps7
    go_wp2_with fail
    refine (add_some _ 0 3 3 [a, b, c] _ rfl (by decide) (three_new _ _ _ _ _ _ (by simp))).mono ?_
    rintro e w3 ⟨rfl, rfl⟩
    rw [E1.out]
    go_wp2_with fail
    refine (add_some _ 0 3 3 [c, a, b] _ rfl (by decide) (three_new _ _ _ _ _ _ (by simp))).mono ?_
    rintro e w3 ⟨rfl, rfl⟩
    rw [E2.out]
    go_wp2_with fail
    refine (add_some _ 0 2 2 [b, a] _ rfl (by decide) (two_new _ _ _ _ _ (by simp))).mono ?_
    rintro e w3 ⟨rfl, rfl⟩
    rw [E3.out]
    go_wp2_with fail
    refine (add_some _ 0 2 2 [a + b, c] _ rfl (by decide) (two_new _ _ _ _ _ (by simp))).mono ?_
    rintro e w3 ⟨rfl, rfl⟩
    rw [E4.out]
    go_wp2_with fail
    refine (mul_any a b _).mono ?_
    rintro e w3 ⟨rfl, rfl⟩
    rw [HM.out.1, HM.out.2]
    go_wp2_with fail
    refine (mul_any b a _).mono ?_
    rintro e w3 ⟨rfl, rfl⟩
    rw [mulF_comm b a, HM.out.1, HM.out.2]
    go_wp2_with fail
    refine (answers_any _).mono ?_
    rintro e w5 ⟨rfl, hb⟩
    go_wp2
    go_ret
    refine ⟨rfl, Below.trans ?_ (hb.mono (by simp; omega))⟩
    exact (((Below.refl _ _).alloc (Nat.le_refl _) _).alloc (by simp) _ |>.alloc (by simp; omega) _).alloc (by simp; omega) _
  · have e1 : sumF [a, b, c] 0 = none := by rw [sumF_three, if_neg h]
    have e2 : sumF [c, a, b] 0 = none := by rw [sumF_three, if_neg (by omega)]
    have E1 := Lib.hid e1
    have E2 := Lib.hid e2
    clear e1 e2 h
    by_cases h3 : 0 ≤ a ∧ 0 ≤ b ∧ a + b ≤ 4611686018427387904
    · have e3 : sumF [b, a] 0 = some (a + b) := by rw [sumF_two, if_pos (by omega)]; congr 1; omega
      obtain ⟨x, p, hx⟩ : ∃ x p, valO (sumF [a + b, c] 0) = x ∧ okO (sumF [a + b, c] 0) = p := ⟨_, _, rfl, rfl⟩
      have E3 := Lib.hid e3
      have E4 := Lib.hid hx
      clear e3 hx
      obtain ⟨h4, h5, h6⟩ := h3
      go_enter Try.func7, Try.ntmps7
      go_wp2_with fail
      refine (add_some _ 0 3 3 [a, b, c] _ rfl (by decide) (three_new _ _ _ _ _ _ (by simp))).mono ?_
      rintro e w3 ⟨rfl, rfl⟩
      rw [E1.out]
      go_wp2_with fail
      refine (add_some _ 0 3 3 [c, a, b] _ rfl (by decide) (three_new _ _ _ _ _ _ (by simp))).mono ?_
      rintro e w3 ⟨rfl, rfl⟩
      rw [E2.out]
      go_wp2_with fail
      refine (add_some _ 0 2 2 [b, a] _ rfl (by decide) (two_new _ _ _ _ _ (by simp))).mono ?_
      rintro e w3 ⟨rfl, rfl⟩
      rw [E3.out]
      go_wp2_with fail
      refine (add_some _ 0 2 2 [a + b, c] _ rfl (by decide) (two_new _ _ _ _ _ (by simp))).mono ?_
      rintro e w3 ⟨rfl, rfl⟩
      rw [E4.out.1, E4.out.2]
      go_wp2_with fail
      refine (mul_any a b _).mono ?_
      rintro e w3 ⟨rfl, rfl⟩
      rw [HM.out.1, HM.out.2]
      go_wp2_with fail
      refine (mul_any b a _).mono ?_
      rintro e w3 ⟨rfl, rfl⟩
      rw [mulF_comm b a, HM.out.1, HM.out.2]
      go_wp2_with fail
      refine (answers_any _).mono ?_
      rintro e w5 ⟨rfl, hb⟩
      go_wp2
      go_ret
      refine ⟨rfl, Below.trans ?_ (hb.mono (by simp; omega))⟩
      exact (((Below.refl _ _).alloc (Nat.le_refl _) _).alloc (by simp) _ |>.alloc (by simp; omega) _).alloc (by simp; omega) _
    · have e3 : sumF [b, a] 0 = none := by rw [sumF_two, if_neg (by omega)]
      have E3 := Lib.hid e3
      clear e3 h3
      go_enter Try.func7, Try.ntmps7
      go_wp2_with fail
      refine (add_some _ 0 3 3 [a, b, c] _ rfl (by decide) (three_new _ _ _ _ _ _ (by simp))).mono ?_
      rintro e w3 ⟨rfl, rfl⟩
      rw [E1.out]
      go_wp2_with fail
      refine (add_some _ 0 3 3 [c, a, b] _ rfl (by decide) (three_new _ _ _ _ _ _ (by simp))).mono ?_
      rintro e w3 ⟨rfl, rfl⟩
      rw [E2.out]
      go_wp2_with fail
      refine (add_some _ 0 2 2 [b, a] _ rfl (by decide) (two_new _ _ _ _ _ (by simp))).mono ?_
      rintro e w3 ⟨rfl, rfl⟩
      rw [E3.out]
      go_wp2_with fail
      refine (mul_any a b _).mono ?_
      rintro e w3 ⟨rfl, rfl⟩
      rw [HM.out.1, HM.out.2]
      go_wp2_with fail
      refine (mul_any b a _).mono ?_
      rintro e w3 ⟨rfl, rfl⟩
      rw [mulF_comm b a, HM.out.1, HM.out.2]
      go_wp2_with fail
      refine (answers_any _).mono ?_
      rintro e w5 ⟨rfl, hb⟩
      go_wp2
      go_ret
      refine ⟨rfl, Below.trans ?_ (hb.mono (by simp; omega))⟩
      exact (((Below.refl _ _).alloc (Nat.le_refl _) _).alloc (by simp) _).alloc (by simp; omega) _
end Go.Proofs.Ytfnlndehpkhbiaa.Walk
