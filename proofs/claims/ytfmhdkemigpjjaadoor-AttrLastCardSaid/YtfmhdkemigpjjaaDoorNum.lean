/- The functions of layer num, and the document's own sum, by contracts: In, May, Add (both), Mul, Pad, and the law's 'answers'. -/
import Derived.Test.YtfmhdkemigpjjaaDoorBase
import Derived.OpenShut
import Derived.ShutString
namespace Go.Proofs.YtfmhdkemigpjjaaDoor.Num
open Go.ChangeShapes Go.WideShapes Go.ChangeAt Go.RowKit Go.Proofs.YtfmhdkemigpjjaaDoor.Base
set_option linter.unusedVariables false

/-- between, as one Bool -/
def inB (n l m : Int) : Bool := decide (l ≤ n ∧ n ≤ m)
theorem inB_true {n l m : Int} (h1 : l ≤ n) (h2 : n ≤ m) : inB n l m = true := by simp [inB, h1, h2]
theorem inB_false {n l m : Int} (h : ¬ (l ≤ n ∧ n ≤ m)) : inB n l m = false := by simp only [inB, decide_eq_false_iff_not]; exact h

theorem in_yes (n l m : Int) (w : World) (h1 : l ≤ n) (h2 : n ≤ m) :
    Calls Tryd.prog 22 #[.int .i64 n, .int .i64 l, .int .i64 m] w fun e w' => e = .returned (.bool true) ∧ w = w' := by
  go_enter Tryd.func22, Tryd.ntmps22
  go_wp2
  go_ret
  exact ⟨rfl, rfl⟩
theorem in_no (n l m : Int) (w : World) (h : ¬ (l ≤ n ∧ n ≤ m)) :
    Calls Tryd.prog 22 #[.int .i64 n, .int .i64 l, .int .i64 m] w fun e w' => e = .returned (.bool false) ∧ w = w' := by
  by_cases h1 : l ≤ n
  · have h2 : ¬ n ≤ m := fun h2 => h ⟨h1, h2⟩
    clear h
    go_enter Tryd.func22, Tryd.ntmps22
    go_wp2
    go_ret
    exact ⟨rfl, rfl⟩
  · clear h
    go_enter Tryd.func22, Tryd.ntmps22
    go_wp2
    go_ret
    exact ⟨rfl, rfl⟩
theorem in_any (n l m : Int) (w : World) :
    Calls Tryd.prog 22 #[.int .i64 n, .int .i64 l, .int .i64 m] w fun e w' => e = .returned (.bool (inB n l m)) ∧ w = w' := by
  by_cases h : l ≤ n ∧ n ≤ m
  · rw [inB_true h.1 h.2]; exact in_yes n l m w h.1 h.2
  · rw [inB_false h]; exact in_no n l m w h

/-- the sum so far and what is left: none where one is no number or the sum passes the greatest -/
def sumF : List Int → Int → Option Int
  | [], s => some s
  | x :: l, s => if 0 ≤ x ∧ x ≤ 4611686018427387904 - s then sumF l (s + x) else none
def valO : Option Int → Int
  | some s => s
  | none => 0
def okO : Option Int → Bool
  | some _ => true
  | none => false

theorem drop_cons (zs : List Int) (k : Nat) (h : k < zs.length) : zs.drop k = zs.getD k 0 :: zs.drop (k + 1) := by
  rw [List.drop_eq_getElem_cons h]; simp [List.getD, h]
theorem sumF_step (zs : List Int) (k : Nat) (s : Int) (h : k < zs.length) (h0 : 0 ≤ zs.getD k 0) (h1 : zs.getD k 0 ≤ 4611686018427387904 - s) :
    sumF (zs.drop k) s = sumF (zs.drop (k + 1)) (s + zs.getD k 0) := by
  rw [drop_cons zs k h, sumF, if_pos ⟨h0, h1⟩]
theorem sumF_stop (zs : List Int) (k : Nat) (s : Int) (h : k < zs.length) (h0 : ¬ (0 ≤ zs.getD k 0 ∧ zs.getD k 0 ≤ 4611686018427387904 - s)) :
    sumF (zs.drop k) s = none := by
  rw [drop_cons zs k h, sumF, if_neg h0]

/-! ### Add of two numbers that were laid as a list, and Pad -/
theorem sumF_two (a b : Int) : sumF [a, b] 0 = if 0 ≤ a ∧ a ≤ 4611686018427387904 ∧ 0 ≤ b ∧ a + b ≤ 4611686018427387904 then some (a + b) else none := by
  simp only [sumF]
  by_cases h : 0 ≤ a ∧ a ≤ 4611686018427387904 - 0
  · rw [if_pos h]
    by_cases h2 : 0 ≤ b ∧ b ≤ 4611686018427387904 - (0 + a)
    · rw [if_pos h2, if_pos (by omega), Int.zero_add]
    · rw [if_neg h2, if_neg (by omega)]
  · rw [if_neg h, if_neg (by omega)]
/-- Pad's answer -/
def padF (n : Int) : Int := if 0 ≤ n ∧ n ≤ 4611686018427387904 then (if n % 512 = 0 then n else n + (512 - n % 512)) else 0
/-- the product, or none -/
def mulF (a b : Int) : Option Int := if 0 ≤ a ∧ a ≤ 4611686018427387904 ∧ 0 ≤ b ∧ b ≤ 4611686018427387904 ∧ a * b ≤ 4611686018427387904 then some (a * b) else none
theorem div_lt (a b : Int) (h : 0 < a) : 4611686018427387904 / a < b ↔ 4611686018427387904 < a * b := by
  rw [Int.ediv_lt_iff_lt_mul h, Int.mul_comm]
end Go.Proofs.YtfmhdkemigpjjaaDoor.Num
