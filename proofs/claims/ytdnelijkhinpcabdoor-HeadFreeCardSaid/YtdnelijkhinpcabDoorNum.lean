/- The functions of layer num, and the document's own sum, by contracts: In, May, Add (both), Mul, Pad, and the law's 'answers'. -/
import Derived.Test.YtdnelijkhinpcabDoorBase
import Derived.OpenShut
import Derived.ShutString
namespace Go.Proofs.YtdnelijkhinpcabDoor.Num
open Go.ChangeShapes Go.WideShapes Go.ChangeAt Go.RowKit Go.Proofs.YtdnelijkhinpcabDoor.Base
set_option linter.unusedVariables false

/-- between, as one Bool -/
def inB (n l m : Int) : Bool := decide (l ≤ n ∧ n ≤ m)
theorem inB_true {n l m : Int} (h1 : l ≤ n) (h2 : n ≤ m) : inB n l m = true := by simp [inB, h1, h2]
theorem inB_false {n l m : Int} (h : ¬ (l ≤ n ∧ n ≤ m)) : inB n l m = false := by simp only [inB, decide_eq_false_iff_not]; exact h

theorem in_yes (n l m : Int) (w : World) (h1 : l ≤ n) (h2 : n ≤ m) :
    Calls Tryd.prog 30 #[.int .i64 n, .int .i64 l, .int .i64 m] w fun e w' => e = .returned (.bool true) ∧ w = w' := by
  go_enter Tryd.func30, Tryd.ntmps30
  go_wp2
  go_ret
  exact ⟨rfl, rfl⟩
theorem in_no (n l m : Int) (w : World) (h : ¬ (l ≤ n ∧ n ≤ m)) :
    Calls Tryd.prog 30 #[.int .i64 n, .int .i64 l, .int .i64 m] w fun e w' => e = .returned (.bool false) ∧ w = w' := by
  by_cases h1 : l ≤ n
  · have h2 : ¬ n ≤ m := fun h2 => h ⟨h1, h2⟩
    clear h
    go_enter Tryd.func30, Tryd.ntmps30
    go_wp2
    go_ret
    exact ⟨rfl, rfl⟩
  · clear h
    go_enter Tryd.func30, Tryd.ntmps30
    go_wp2
    go_ret
    exact ⟨rfl, rfl⟩
theorem in_any (n l m : Int) (w : World) :
    Calls Tryd.prog 30 #[.int .i64 n, .int .i64 l, .int .i64 m] w fun e w' => e = .returned (.bool (inB n l m)) ∧ w = w' := by
  by_cases h : l ≤ n ∧ n ≤ m
  · rw [inB_true h.1 h.2]; exact in_yes n l m w h.1 h.2
  · rw [inB_false h]; exact in_no n l m w h

/-- the sum so far and what is left: none where one is no number or the sum passes the greatest -/
def sumF : List Int → Int → Option Int
  | [], s => some s
  | x :: l, s => if 0 ≤ x ∧ x ≤ 4611686018427387904 - s then sumF l (s + x) else none
def valO : Option Int → Int
  | some s => s
  | none => 0
def okO : Option Int → Bool
  | some _ => true
  | none => false

theorem drop_cons (zs : List Int) (k : Nat) (h : k < zs.length) : zs.drop k = zs.getD k 0 :: zs.drop (k + 1) := by
  rw [List.drop_eq_getElem_cons h]; simp [List.getD, h]
theorem sumF_step (zs : List Int) (k : Nat) (s : Int) (h : k < zs.length) (h0 : 0 ≤ zs.getD k 0) (h1 : zs.getD k 0 ≤ 4611686018427387904 - s) :
    sumF (zs.drop k) s = sumF (zs.drop (k + 1)) (s + zs.getD k 0) := by
  rw [drop_cons zs k h, sumF, if_pos ⟨h0, h1⟩]
theorem sumF_stop (zs : List Int) (k : Nat) (s : Int) (h : k < zs.length) (h0 : ¬ (0 ≤ zs.getD k 0 ∧ zs.getD k 0 ≤ 4611686018427387904 - s)) :
    sumF (zs.drop k) s = none := by
  rw [drop_cons zs k h, sumF, if_neg h0]

set_option maxHeartbeats 400000 in
theorem add_some (b off len cap : Nat) (zs : List Int) (w : World) (hl : zs.length = len) (hm : len ≤ maxLen)
    (hc : ∀ i, i < len → w.cell? ⟨b, off + i, none⟩ = some (.int .i64 (zs.getD i 0))) :
    Calls Tryd.prog 40 #[.slice (some ⟨b, off, none⟩) len cap] w fun e w' => e = .returned (.tuple #[.int .i64 (valO (sumF zs 0)), .bool (okO (sumF zs 0))]) ∧ w = w' := by
  unfold maxLen at hm
  have HL : Hid (zs.length = len) := hl
  have HC : Hid (∀ i, i < len → w.cell? ⟨b, off + i, none⟩ = some (.int .i64 (zs.getD i 0))) := hc
  clear hl hc
  go_enter Tryd.func40, Tryd.ntmps40
  go_wp2
  go_loop [4, 9] (fun t i => ∃ (k : Nat) (s : Int), k ≤ len ∧ 0 ≤ s ∧ s ≤ 4611686018427387904 ∧ i = .int .i64 k ∧ t = .int .i64 s ∧ Hid (sumF (zs.drop k) s = sumF zs 0)) (fun _ i => len - (intOf i).toNat)
  case atStart => exact ⟨0, 0, Nat.zero_le _, by omega, by decide, rfl, rfl, rfl⟩
  case round =>
    obtain ⟨k, s, hk, hs0, hs1, rfl, rfl, hr⟩ := hrel
    by_cases hlt : k < len
    · have hcell := HC.out k hlt
      obtain ⟨z, hz⟩ : ∃ z, z = zs.getD k 0 := ⟨_, rfl⟩
      rw [← hz] at hcell
      have HZ : Hid (z = zs.getD k 0) := hz
      clear hz
      by_cases hin : 0 ≤ z ∧ z ≤ 4611686018427387904 - s
      · obtain ⟨h0, h1⟩ := hin
        go_wp2_with (go_at_call 30; refine (in_yes _ _ _ _ (by omega) (by omega)).mono ?_; rintro e w' ⟨rfl, rfl⟩)
        go_round
        case rel => exact ⟨k + 1, s + z, by omega, by omega, by omega, by go_num, rfl, Lib.hid (by rw [← hr.out, sumF_step zs k s (by rw [HL.out]; exact hlt) (by rw [← HZ.out]; exact h0) (by rw [← HZ.out]; exact h1), ← HZ.out])⟩
        case measure => simp [intOf]; omega
      · go_wp2_with (go_at_call 30; refine (in_no _ _ _ _ hin).mono ?_; rintro e w' ⟨rfl, rfl⟩)
        go_ret2
        have E : sumF zs 0 = none := by rw [← hr.out]; exact sumF_stop zs k s (by rw [HL.out]; exact hlt) (by rw [← HZ.out]; exact hin)
        rw [E]
        exact ⟨rfl, rfl⟩
    · have hkl : Hid (k = len) := Lib.hid (by omega)
      go_wp2
      go_ret2
      have E : sumF zs 0 = some s := by rw [← hr.out, hkl.out, ← HL.out, List.drop_length]; rfl
      rw [E]
      exact ⟨rfl, rfl⟩

theorem add_empty (a : Option Addr) (cap : Nat) (w : World) :
    Calls Tryd.prog 40 #[.slice a 0 cap] w fun e w' => e = .returned (.tuple #[.int .i64 0, .bool true]) ∧ w = w' := by
  go_enter Tryd.func40, Tryd.ntmps40
  go_wp2
  refine wp_loop_rounds 1 ?_
  rw [rounds_succ]
  go_wp2
  go_ret2
  exact ⟨rfl, rfl⟩

theorem may_yes (n : Int) (w : World) (h1 : 0 ≤ n) (h2 : n ≤ 4611686018427387904) :
    Calls Tryd.prog 28 #[.int .i64 n] w fun e w' => e = .returned (.bool true) ∧ w = w' := by
  go_enter Tryd.func28, Tryd.ntmps28
  go_wp2
  go_ret
  exact ⟨rfl, rfl⟩
theorem may_no (n : Int) (w : World) (h : ¬ (0 ≤ n ∧ n ≤ 4611686018427387904)) :
    Calls Tryd.prog 28 #[.int .i64 n] w fun e w' => e = .returned (.bool false) ∧ w = w' := by
  by_cases h1 : 0 ≤ n
  · have h2 : ¬ n ≤ 4611686018427387904 := fun h2 => h ⟨h1, h2⟩
    clear h
    go_enter Tryd.func28, Tryd.ntmps28
    go_wp2
    go_ret
    exact ⟨rfl, rfl⟩
  · clear h
    go_enter Tryd.func28, Tryd.ntmps28
    go_wp2
    go_ret
    exact ⟨rfl, rfl⟩
theorem may_any (n : Int) (w : World) :
    Calls Tryd.prog 28 #[.int .i64 n] w fun e w' => e = .returned (.bool (inB n 0 4611686018427387904)) ∧ w = w' := by
  by_cases h : 0 ≤ n ∧ n ≤ 4611686018427387904
  · rw [inB_true h.1 h.2]; exact may_yes n w h.1 h.2
  · rw [inB_false h]; exact may_no n w h

/-! ### Add of two numbers that were laid as a list, and Pad -/
theorem sumF_two (a b : Int) : sumF [a, b] 0 = if 0 ≤ a ∧ a ≤ 4611686018427387904 ∧ 0 ≤ b ∧ a + b ≤ 4611686018427387904 then some (a + b) else none := by
  simp only [sumF]
  by_cases h : 0 ≤ a ∧ a ≤ 4611686018427387904 - 0
  · rw [if_pos h]
    by_cases h2 : 0 ≤ b ∧ b ≤ 4611686018427387904 - (0 + a)
    · rw [if_pos h2, if_pos (by omega), Int.zero_add]
    · rw [if_neg h2, if_neg (by omega)]
  · rw [if_neg h, if_neg (by omega)]
theorem add_two (a b : Int) (w : World) :
    Calls Tryd.prog 40 #[.slice (some ⟨w.heap.size, 0, none⟩) 2 2] (w.alloc (.cells #[.int .i64 a, .int .i64 b] 3)) fun e w' => e = .returned (.tuple #[.int .i64 (valO (sumF [a, b] 0)), .bool (okO (sumF [a, b] 0))]) ∧ w.alloc (.cells #[.int .i64 a, .int .i64 b] 3) = w' :=
  add_some _ _ 2 2 [a, b] _ rfl (by decide) (fun i hi => by
    match i, hi with
    | 0, _ => simp
    | 1, _ => simp)
theorem add_three (a b c : Int) (w : World) :
    Calls Tryd.prog 40 #[.slice (some ⟨w.heap.size, 0, none⟩) 3 3] (w.alloc (.cells #[.int .i64 a, .int .i64 b, .int .i64 c] 3)) fun e w' => e = .returned (.tuple #[.int .i64 (valO (sumF [a, b, c] 0)), .bool (okO (sumF [a, b, c] 0))]) ∧ w.alloc (.cells #[.int .i64 a, .int .i64 b, .int .i64 c] 3) = w' :=
  add_some _ _ 3 3 [a, b, c] _ rfl (by decide) (fun i hi => by
    match i, hi with
    | 0, _ => simp
    | 1, _ => simp
    | 2, _ => simp)
/-- Pad's answer -/
def padF (n : Int) : Int := if 0 ≤ n ∧ n ≤ 4611686018427387904 then (if n % 512 = 0 then n else n + (512 - n % 512)) else 0
/-- the product, or none -/
def mulF (a b : Int) : Option Int := if 0 ≤ a ∧ a ≤ 4611686018427387904 ∧ 0 ≤ b ∧ b ≤ 4611686018427387904 ∧ a * b ≤ 4611686018427387904 then some (a * b) else none
theorem div_lt (a b : Int) (h : 0 < a) : 4611686018427387904 / a < b ↔ 4611686018427387904 < a * b := by
  rw [Int.ediv_lt_iff_lt_mul h, Int.mul_comm]
set_option maxHeartbeats 400000 in
theorem mul_any (a b : Int) (w : World) :
    Calls Tryd.prog 39 #[.int .i64 a, .int .i64 b] w fun e w' => e = .returned (.tuple #[.int .i64 (valO (mulF a b)), .bool (okO (mulF a b))]) ∧ w = w' := by
  by_cases h : 0 ≤ a ∧ a ≤ 4611686018427387904
  · obtain ⟨h0, h1⟩ := h
    by_cases h2 : 0 ≤ b ∧ b ≤ 4611686018427387904
    · obtain ⟨h2, h3⟩ := h2
      by_cases h4 : 0 < a
      · by_cases h5 : 4611686018427387904 / a < b
        · have E : Hid (mulF a b = none) := Lib.hid (by rw [mulF, if_neg]; intro hh; have := (div_lt a b h4).1 h5; omega)
          go_enter Tryd.func39, Tryd.ntmps39
          go_wp2_with (go_at_call 30; refine (in_yes _ _ _ _ (by omega) (by omega)).mono ?_; rintro e w' ⟨rfl, rfl⟩)
          go_ret2
          rw [E.out]
          exact ⟨rfl, rfl⟩
        · have h6 : a * b ≤ 4611686018427387904 := by have := mt (div_lt a b h4).2 h5; omega
          have h7 : 0 ≤ a * b := Int.mul_nonneg h0 h2
          have E : Hid (mulF a b = some (a * b)) := Lib.hid (by rw [mulF, if_pos ⟨h0, h1, h2, h3, h6⟩])
          go_enter Tryd.func39, Tryd.ntmps39
          go_wp2_with (go_at_call 30; refine (in_yes _ _ _ _ (by omega) (by omega)).mono ?_; rintro e w' ⟨rfl, rfl⟩)
          go_ret2
          rw [E.out]
          exact ⟨rfl, rfl⟩
      · obtain rfl : a = 0 := by omega
        have E : Hid (mulF 0 b = some 0) := Lib.hid (by rw [mulF, if_pos ⟨h0, h1, h2, h3, by omega⟩, Int.zero_mul])
        go_enter Tryd.func39, Tryd.ntmps39
        go_wp2_with (go_at_call 30; refine (in_yes _ _ _ _ (by omega) (by omega)).mono ?_; rintro e w' ⟨rfl, rfl⟩)
        go_ret2
        rw [E.out]
        exact ⟨rfl, rfl⟩
    · have E : Hid (mulF a b = none) := Lib.hid (by rw [mulF, if_neg (by omega)])
      go_enter Tryd.func39, Tryd.ntmps39
      go_wp2_with (go_at_call 30; first | (refine (in_yes _ _ _ _ (by omega) (by omega)).mono ?_; rintro e w' ⟨rfl, rfl⟩) | (refine (in_no _ _ _ _ h2).mono ?_; rintro e w' ⟨rfl, rfl⟩))
      go_ret2
      rw [E.out]
      exact ⟨rfl, rfl⟩
  · have E : Hid (mulF a b = none) := Lib.hid (by rw [mulF, if_neg (by omega)])
    go_enter Tryd.func39, Tryd.ntmps39
    go_wp2_with (go_at_call 30; refine (in_no _ _ _ _ h).mono ?_; rintro e w' ⟨rfl, rfl⟩)
    go_ret2
    rw [E.out]
    exact ⟨rfl, rfl⟩

end Go.Proofs.YtdnelijkhinpcabDoor.Num
