/- How the package cuts a line off, in plain words: it is the document's way. Digits as strconv has them. No run in this text. -/
import Derived.Test.YtfmhdkemigpjjaaDoorRecRow
import Derived.Test.YtfmhdkemigpjjaaDoorTxt
import Derived.Lib.ParseIntB
import Derived.Lib.AtoiTie
import Derived.Lib.ItoaNum
import Derived.Lib.IndexLaws
namespace Go.Proofs.YtfmhdkemigpjjaaDoor.Rec
open Go.Lib Go.Proofs.YtfmhdkemigpjjaaDoor.Path
set_option linter.unusedVariables false

/-- a numeral's digits, as strconv has them -/
theorem dec_decL (u : Nat) : decDigits u = decL u := by
  induction u using Nat.strongRecOn with
  | ind u ih =>
    by_cases h : u < 10
    · rw [decDigits, dif_pos h, decL_small h, digC, Nat.mod_eq_of_lt h]
    · rw [decDigits, dif_neg h, decL_great h, ih _ (by omega)]
      rfl
theorem itoa_decL (u : Nat) : itoa (u : Int) = decL u := by
  unfold itoa
  rw [if_neg (by omega), Int.toNat_natCast, dec_decL]
/-- what ParseUint says of few bytes -/
theorem parseM_few (l : List UInt8) : ∀ acc k, acc < 10 ^ k → k + l.length ≤ 18 → parseUintM (2 ^ 64 - 1) acc l = if l.all isDig then .ok (l.foldl (fun n b => n * 10 + (b.toNat - 48)) acc) else NumEnd.ofOption none := by
  induction l with
  | nil => intro acc k _ _; rfl
  | cons c r ih =>
    intro acc k h1 h2
    rw [List.length_cons] at h2
    have hp : 10 ^ k ≤ 10 ^ 17 := Nat.pow_le_pow_right (by omega) (by omega)
    have hp2 : (10 : Nat) ^ 17 = 100000000000000000 := by decide
    rw [hp2] at hp
    rw [parseUintM, List.all_cons, List.foldl_cons]
    by_cases hc : 48 ≤ c.toNat ∧ c.toNat ≤ 57
    · have hd : isDig c = true := by simp [isDig, hc]
      rw [if_pos hc, if_neg (by omega), if_neg (by have : (2 : Nat) ^ 64 - 1 = 18446744073709551615 := by decide
                                                   omega), hd, Bool.true_and]
      exact ih _ (k + 1) (by rw [Nat.pow_succ]; omega) (by omega)
    · have hd : isDig c = false := by simp [isDig]; omega
      rw [if_neg hc, hd]
      rfl
theorem parse_few (l : List UInt8) (h1 : 1 ≤ l.length) (h2 : l.length ≤ 18) : parseUintB 64 l = if l.all isDig then .ok (valL l) else NumEnd.ofOption none := by
  unfold parseUintB
  rw [if_neg (by rintro rfl; simp at h1), parseM_few l 0 0 (by decide) (by omega)]
  rfl
/-- what up to seven digits say, if they may begin a line -/
def numD (l : List UInt8) : Option Nat := if l.length < 1 ∨ 7 < l.length ∨ l.getD 0 0 = 48 then none else if l.all isDig then some (valL l) else none
theorem numD_some {l : List UInt8} {m : Nat} (h : numD l = some m) : 1 ≤ l.length ∧ l.length ≤ 7 ∧ l.getD 0 0 ≠ 48 ∧ (∀ b ∈ l, isDig b = true) ∧ m = valL l ∧ m < 10000000 := by
  unfold numD at h
  split at h
  · cases h
  · next h1 =>
    split at h
    · next h2 =>
      cases h
      have h3 := List.all_eq_true.1 h2
      refine ⟨by omega, by omega, fun e => h1 (.inr (.inr e)), h3, rfl, ?_⟩
      have h4 := valL_lt l h3
      have h5 : 10 ^ l.length ≤ 10 ^ 7 := Nat.pow_le_pow_right (by omega) (by omega)
      have h6 : (10 : Nat) ^ 7 = 10000000 := by decide
      omega
    · cases h
/-- the first line, cut off: what stands between its blank and its last byte, and how many bytes it has -/
def cutD (l : List UInt8) : Option (List UInt8 × Nat) :=
  if indexByte l 32 < 0 then none
  else match numD (l.take (indexByte l 32).toNat) with
  | none => none
  | some m =>
    if m < (indexByte l 32).toNat + 4 ∨ l.length < m ∨ l.getD (m - 1) 0 ≠ 10 then none
    else some ((l.drop ((indexByte l 32).toNat + 1)).take (m - 1 - ((indexByte l 32).toNat + 1)), m)
theorem digN_blank (l : List UInt8) (i : Nat) (hi : indexByte l 32 = i) : i < l.length ∧ l.getD i 0 = 32 ∧ (∀ j, j < i → l.getD j 0 ≠ 32) := by
  have h1 := Lib.indexByte_some hi
  have h2 := (List.getElem?_eq_some_iff.1 h1.1).1
  refine ⟨h2, by rw [List.getD, h1.1]; rfl, fun j hj e => ?_⟩
  have h3 := h1.2 j hj
  have h4 : j < l.length := by omega
  rw [List.getD, List.getElem?_eq_getElem h4] at e
  rw [List.getElem?_eq_getElem h4] at h3
  exact h3 (by rw [← e]; rfl)
theorem recStep_cutD (R T : Int) (l : List UInt8) : recStep R T l = match cutD l with
    | none => .error R
    | some (t, m) => if indexByte t 61 < 1 then .error R else if textD t = false then .error T else .ok (t.take (indexByte t 61).toNat, t.drop ((indexByte t 61).toNat + 1), m) := by
  obtain ⟨hN, hD⟩ := digN_take l
  unfold cutD
  by_cases h0 : indexByte l 32 < 0
  · rw [if_pos h0]
    simp only
    unfold recStep
    rw [if_pos]
    have hn : indexByte l 32 = -1 := by have := Lib.indexByte_ge l 32; omega
    by_cases hl : digN l = l.length
    · exact .inr (.inr (.inr (.inl hl)))
    · refine .inr (.inr (.inr (.inr fun e => ?_)))
      have hc : l.contains 32 = false := by rw [← Txt.index_has, decide_eq_false (by omega)]
      exact Txt.has_false hc (digN l) (by omega) e
  · rw [if_neg h0]
    obtain ⟨i, hi⟩ : ∃ i : Nat, indexByte l 32 = i := ⟨(indexByte l 32).toNat, by omega⟩
    obtain ⟨hil, hi32, hbef⟩ := digN_blank l i hi
    rw [hi, Int.toNat_natCast]
    have htl : (l.take i).length = i := by rw [List.length_take]; omega
    have hgt : ∀ j, j < i → (l.take i).getD j 0 = l.getD j 0 := fun j hj => by
      rw [List.getD, List.getD, List.getElem?_take, if_pos hj]
    cases hnum : numD (l.take i) with
    | none =>
      simp only
      unfold recStep
      rw [if_pos]
      by_cases ha : (l.take i).all isDig = true
      · have hdi : digN l = i := digN_is l i (by omega) (fun j hj => by
          rw [← hgt j hj]
          have : j < (l.take i).length := by omega
          rw [List.getD, List.getElem?_eq_getElem this]
          exact List.all_eq_true.1 ha _ (List.getElem_mem this)) (.inr (by rw [hi32]; decide))
        unfold numD at hnum
        rw [ha, if_pos rfl, htl] at hnum
        by_cases hc : i < 1 ∨ 7 < i ∨ (l.take i).getD 0 0 = 48
        · rw [hdi]
          rcases hc with h | h | h
          · exact .inl h
          · exact .inr (.inl h)
          · by_cases hi1 : i < 1
            · exact .inl hi1
            · rw [hgt 0 (by omega)] at h
              exact .inr (.inr (.inl h))
        · rw [if_neg hc] at hnum
          cases hnum
      · -- a byte ahead of the blank is no digit
        have hlt : digN l < i := by
          rcases Nat.lt_or_ge (digN l) i with h | h
          · exact h
          · exfalso
            refine ha (List.all_eq_true.2 fun b hb => hD b ?_)
            obtain ⟨j, hj, rfl⟩ := List.mem_iff_getElem.1 hb
            rw [List.getElem_take]
            have hj2 : j < (l.take (digN l)).length := by rw [List.length_take]; omega
            have : (l.take (digN l))[j] = l[j]'(by omega) := List.getElem_take
            rw [← this]
            exact List.getElem_mem hj2
        exact .inr (.inr (.inr (.inr (hbef _ hlt))))
    | some m =>
      obtain ⟨n1, n7, n48, ndig, nval, _⟩ := numD_some hnum
      rw [htl] at n1 n7
      rw [hgt 0 (by omega)] at n48
      have hdi : digN l = i := digN_is l i (by omega) (fun j hj => by
        rw [← hgt j hj]
        have : j < (l.take i).length := by omega
        rw [List.getD, List.getElem?_eq_getElem this]
        exact ndig _ (List.getElem_mem this)) (.inr (by rw [hi32]; decide))
      simp only
      unfold recStep
      rw [hdi, ← nval, if_neg (by
        rintro (e | e | e | e | e)
        · omega
        · omega
        · exact n48 e
        · omega
        · exact e hi32)]
      by_cases hc : m < i + 4 ∨ l.length < m ∨ l.getD (m - 1) 0 ≠ 10
      · rw [if_pos hc, if_pos (by
          rcases hc with h | h | h
          · exact .inr (.inl h)
          · exact .inl h
          · exact .inr (.inr h))]
      · rw [if_neg hc, if_neg (by
          rintro (e | e | e)
          · exact hc (.inr (.inl e))
          · exact hc (.inl e)
          · exact hc (.inr (.inr e)))]
/-- how many bytes a line has, by trying from none on: one more digit is the most -/
theorem lineN_count (m : Nat) (hm : 0 < m) : lineN m = m + (decL m).length ∧ (decL (m + (decL m).length)).length = (decL m).length ∨
    lineN m = m + (decL (m + (decL m).length)).length ∧ (decL (m + (decL m).length)).length ≠ (decL m).length ∧ (decL (m + (decL (m + (decL m).length)).length)).length = (decL (m + (decL m).length)).length := by
  have he := lineN_eq m hm
  by_cases h : (decL (m + (decL m).length)).length = (decL m).length
  · left
    unfold lineN
    rw [if_pos h]
    exact ⟨rfl, h⟩
  · right
    have hl : lineN m = m + (decL m).length + 1 := by unfold lineN; rw [if_neg h]
    rw [hl] at he
    have h1 := dec_mono (show m + (decL m).length ≤ m + (decL m).length + 1 by omega)
    have h2 := dec_mono (show m ≤ m + (decL m).length by omega)
    have h3 : (decL (m + (decL m).length)).length = (decL m).length + 1 := by omega
    refine ⟨by rw [hl, h3]; omega, h, ?_⟩
    rw [h3, ← Nat.add_assoc]
    omega
end Go.Proofs.YtfmhdkemigpjjaaDoor.Rec
