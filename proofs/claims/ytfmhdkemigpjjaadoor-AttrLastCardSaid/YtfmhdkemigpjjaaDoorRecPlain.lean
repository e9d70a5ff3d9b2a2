/- Extended records, in plain words: digits, whole numbers, which records may be, their lines, the records of any bytes. No run in this text. -/
import Derived.Test.YtfmhdkemigpjjaaDoorPathPlain
namespace Go.Proofs.YtfmhdkemigpjjaaDoor.Rec
open Go.Lib Go.Proofs.YtfmhdkemigpjjaaDoor.Path
set_option linter.unusedVariables false

/-! ### digits -/
/-- one digit -/
def digC (n : Nat) : UInt8 := UInt8.ofNat (48 + n % 10)
theorem digC_nat (n : Nat) : (digC n).toNat = 48 + n % 10 := by
  unfold digC
  rw [UInt8.toNat_ofNat']
  omega
/-- a number's digits -/
def decL (n : Nat) : List UInt8 := if n < 10 then [digC n] else decL (n / 10) ++ [digC n]
termination_by n
decreasing_by omega
theorem decL_small {n : Nat} (h : n < 10) : decL n = [digC n] := by rw [decL, if_pos h]
theorem decL_great {n : Nat} (h : ¬ n < 10) : decL n = decL (n / 10) ++ [digC n] := by rw [decL, if_neg h]
theorem decL_pos (n : Nat) : 0 < (decL n).length := by
  by_cases h : n < 10
  · rw [decL_small h]; simp
  · rw [decL_great h]; simp
/-- the digits that are there, and those that are to come -/
theorem dec_step (m : Nat) (h : m ≠ 0) (s : List UInt8) : decL m ++ s = (if m / 10 = 0 then [] else decL (m / 10)) ++ digC m :: s := by
  by_cases h10 : m < 10
  · rw [decL_small h10, if_pos (by omega)]; rfl
  · rw [decL_great h10, if_neg (by omega)]; simp
theorem dec_bounds (n : Nat) : 0 < n → 10 ^ ((decL n).length - 1) ≤ n ∧ n < 10 ^ (decL n).length := by
  induction n using Nat.strongRecOn with
  | ind n ih =>
    intro hn
    by_cases h : n < 10
    · rw [decL_small h]
      simp; omega
    · rw [decL_great h, List.length_append, List.length_singleton, Nat.add_sub_cancel]
      obtain ⟨h1, h2⟩ := ih (n / 10) (by omega) (by omega)
      have hp := decL_pos (n / 10)
      have e : 10 ^ (decL (n / 10)).length = 10 * 10 ^ ((decL (n / 10)).length - 1) := by
        rw [← Nat.pow_succ', Nat.succ_eq_add_one, Nat.sub_add_cancel hp]
      refine ⟨by rw [e]; omega, ?_⟩
      rw [Nat.pow_succ]
      omega
theorem dec_mono {a b : Nat} (h : a ≤ b) : (decL a).length ≤ (decL b).length := by
  by_cases h0 : a = 0
  · subst h0
    rw [decL_small (by omega)]
    exact decL_pos b
  · obtain ⟨h1, _⟩ := dec_bounds a (by omega)
    obtain ⟨_, h2⟩ := dec_bounds b (by omega)
    have h3 : 10 ^ ((decL a).length - 1) < 10 ^ (decL b).length := by omega
    have := (Nat.pow_lt_pow_iff_right (by omega : 1 < 10)).1 h3
    have := decL_pos a
    omega
/-- how many bytes a line has, whose rest has m -/
def lineN (m : Nat) : Nat := if (decL (m + (decL m).length)).length = (decL m).length then m + (decL m).length else m + (decL m).length + 1
theorem lineN_ge (m : Nat) : m ≤ lineN m ∧ lineN m ≤ m + (decL m).length + 1 := by
  unfold lineN
  split <;> omega
theorem dec_le (n k : Nat) (hk : 0 < k) (h : n < 10 ^ k) : (decL n).length ≤ k := by
  by_cases h0 : n = 0
  · subst h0
    rw [decL_small (by omega)]
    exact hk
  · obtain ⟨h1, _⟩ := dec_bounds n (by omega)
    have := (Nat.pow_lt_pow_iff_right (by omega : 1 < 10)).1 (Nat.lt_of_le_of_lt h1 h)
    omega
theorem lin_pow (d : Nat) : d + 1 < 10 ^ (d + 1) - 10 ^ d := by
  induction d with
  | zero => decide
  | succ d ih =>
    have e1 : 10 ^ (d + 1 + 1) = 10 * 10 ^ (d + 1) := Nat.pow_succ'
    have e2 : 10 ^ (d + 1) = 10 * 10 ^ d := Nat.pow_succ'
    omega
/-- the line's number is what its digits and the rest come to -/
theorem lineN_eq (m : Nat) (hm : 0 < m) : (decL (lineN m)).length + m = lineN m := by
  unfold lineN
  by_cases h : (decL (m + (decL m).length)).length = (decL m).length
  · rw [if_pos h, h]; omega
  · rw [if_neg h]
    obtain ⟨d, hd⟩ : ∃ d, (decL m).length = d + 1 := ⟨(decL m).length - 1, by have := decL_pos m; omega⟩
    obtain ⟨h1, h2⟩ := dec_bounds m hm
    rw [hd] at h h1 h2 ⊢
    have hge : (decL (m + (d + 1))).length ≥ d + 1 := by
      have := dec_mono (show m ≤ m + (d + 1) by omega)
      omega
    have hl := lin_pow (d + 1)
    have hle : m + (d + 1) + 1 < 10 ^ (d + 1 + 1) := by omega
    have e1 := dec_le (m + (d + 1)) (d + 1 + 1) (by omega) (by omega)
    have e2 := dec_le (m + (d + 1) + 1) (d + 1 + 1) (by omega) hle
    have e3 := dec_mono (show m + (d + 1) ≤ m + (d + 1) + 1 by omega)
    omega
/-- .. and no number from m up to it is -/
theorem lineN_least (m n : Nat) (h1 : m ≤ n) (h2 : n < lineN m) : (decL n).length + m ≠ n := by
  unfold lineN at h2
  have hmo := dec_mono h1
  by_cases h : (decL (m + (decL m).length)).length = (decL m).length
  · rw [if_pos h] at h2
    omega
  · rw [if_neg h] at h2
    by_cases he : n = m + (decL m).length
    · subst he
      intro e
      exact h (by omega)
    · omega
/-! ### whole numbers -/
def isDig (b : UInt8) : Bool := decide (48 ≤ b.toNat ∧ b.toNat ≤ 57)
/-- what digits say -/
def valL (l : List UInt8) : Nat := l.foldl (fun n b => n * 10 + (b.toNat - 48)) 0
theorem valL_snoc (l : List UInt8) (b : UInt8) : valL (l ++ [b]) = valL l * 10 + (b.toNat - 48) := by simp [valL]
theorem valL_lt (l : List UInt8) (h : ∀ b ∈ l, isDig b = true) : valL l < 10 ^ l.length := by
  suffices H : ∀ (l : List UInt8) (n k : Nat), (∀ b ∈ l, isDig b = true) → n < 10 ^ k → l.foldl (fun n b => n * 10 + (b.toNat - 48)) n < 10 ^ (k + l.length) by
    have := H l 0 0 h (by decide)
    rwa [Nat.zero_add] at this
  intro l
  induction l with
  | nil => intro n k _ hn; exact hn
  | cons b l ih =>
    intro n k hl hn
    have hb := hl b (by simp)
    simp only [isDig, decide_eq_true_eq] at hb
    have := ih (n * 10 + (b.toNat - 48)) (k + 1) (fun c hc => hl c (List.mem_cons_of_mem _ hc)) (by rw [Nat.pow_succ]; omega)
    rwa [show k + (b :: l).length = k + 1 + l.length by rw [List.length_cons]; omega]
/-- from 1 to 18 digits -/
def wholeD (l : List UInt8) : Option Nat := if l.length < 1 ∨ 18 < l.length then none else if l.all isDig then some (valL l) else none
/-! ### which records may be, and their lines -/
def mayD (k v : List UInt8) : Bool := !k.contains 61 && !k.isEmpty && textD k && textD v && decide (k.length + v.length ≤ 100000)
def bodyD (k v : List UInt8) : List UInt8 := 32 :: k ++ 61 :: v ++ [10]
theorem bodyD_length (k v : List UInt8) : (bodyD k v).length = k.length + v.length + 3 := by
  simp only [bodyD, List.length_append, List.length_cons, List.length_nil]; omega
def lineD (k v : List UInt8) : List UInt8 := decL (lineN (bodyD k v).length) ++ bodyD k v
theorem lineD_length (k v : List UInt8) : (lineD k v).length = lineN (bodyD k v).length := by
  rw [lineD, List.length_append]
  exact lineN_eq _ (by rw [bodyD_length]; omega)
/-! ### the records of any bytes -/
/-- how many digits stand at the beginning -/
def digN (l : List UInt8) : Nat := (l.takeWhile isDig).length
/-- a record at the beginning: its key, its value, how many bytes it has; or the error (R: ErrRecord, T: ErrText) -/
def recStep (R T : Int) (l : List UInt8) : Except Int (List UInt8 × List UInt8 × Nat) :=
  if digN l < 1 ∨ 7 < digN l ∨ l.getD 0 0 = 48 ∨ digN l = l.length ∨ l.getD (digN l) 0 ≠ 32 then .error R
  else if l.length < valL (l.take (digN l)) ∨ valL (l.take (digN l)) < digN l + 4 ∨ l.getD (valL (l.take (digN l)) - 1) 0 ≠ 10 then .error R
  else
    let line := (l.drop (digN l + 1)).take (valL (l.take (digN l)) - 1 - (digN l + 1))
    if indexByte line 61 < 1 then .error R
    else if textD line = false then .error T
    else .ok (line.take (indexByte line 61).toNat, line.drop ((indexByte line 61).toNat + 1), valL (l.take (digN l)))
def recsGo (R T : Int) : Nat → List UInt8 → List (List UInt8 × List UInt8) → List (List UInt8 × List UInt8) × Int
  | 0, _, acc => (acc, 0)
  | n + 1, l, acc => if l = [] then (acc, 0) else match recStep R T l with
    | .error e => ([], e)
    | .ok (k, v, m) => recsGo R T n (l.drop m) (acc ++ [(k, v)])
/-- P6.1: the records of any bytes, or the error -/
def recsD (R T : Int) (l : List UInt8) : List (List UInt8 × List UInt8) × Int := recsGo R T l.length l []
theorem recStep_pos {R T : Int} {l k v : List UInt8} {m : Nat} (h : recStep R T l = .ok (k, v, m)) : 0 < m ∧ m ≤ l.length := by
  unfold recStep at h
  split at h
  · cases h
  · split at h
    · cases h
    · next h2 =>
      dsimp only at h
      split at h
      · cases h
      · split at h
        · cases h
        · cases h
          omega
theorem recsGo_fuel (R T : Int) (n : Nat) : ∀ m l acc, l.length ≤ n → l.length ≤ m → recsGo R T n l acc = recsGo R T m l acc := by
  induction n with
  | zero =>
    intro m l acc h _
    obtain rfl : l = [] := List.length_eq_zero_iff.1 (by omega)
    cases m <;> simp [recsGo]
  | succ n ih =>
    intro m l acc h1 h2
    cases m with
    | zero =>
      obtain rfl : l = [] := List.length_eq_zero_iff.1 (by omega)
      simp [recsGo]
    | succ m =>
      unfold recsGo
      by_cases hl : l = []
      · rw [if_pos hl, if_pos hl]
      · rw [if_neg hl, if_neg hl]
        cases hs : recStep R T l with
        | error e => rfl
        | ok x =>
          obtain ⟨k, v, j⟩ := x
          have := recStep_pos hs
          have hl' : 0 < l.length := List.length_pos_iff.2 hl
          exact ih m _ _ (by rw [List.length_drop]; omega) (by rw [List.length_drop]; omega)
/-- from here on, with what has come -/
def recsFrom (R T : Int) (l : List UInt8) (acc : List (List UInt8 × List UInt8)) : List (List UInt8 × List UInt8) × Int := recsGo R T l.length l acc
theorem recsFrom_nil (R T : Int) (acc : List (List UInt8 × List UInt8)) : recsFrom R T [] acc = (acc, 0) := rfl
theorem recsFrom_step (R T : Int) (l : List UInt8) (hl : l ≠ []) (acc : List (List UInt8 × List UInt8)) : recsFrom R T l acc = match recStep R T l with
    | .error e => ([], e)
    | .ok (k, v, m) => recsFrom R T (l.drop m) (acc ++ [(k, v)]) := by
  have hl' : 0 < l.length := List.length_pos_iff.2 hl
  unfold recsFrom
  obtain ⟨n, hn⟩ : ∃ n, l.length = n + 1 := ⟨l.length - 1, by omega⟩
  rw [hn, recsGo, if_neg hl]
  cases hs : recStep R T l with
  | error e => rfl
  | ok x =>
    obtain ⟨k, v, j⟩ := x
    have := recStep_pos hs
    exact recsGo_fuel R T _ _ _ _ (by rw [List.length_drop]; omega) (Nat.le_refl _)
end Go.Proofs.YtfmhdkemigpjjaaDoor.Rec
