/- Extended records, in plain words: a line is read again; a line that is cut is none; lines one behind the other. No run in this text. -/
import Derived.Test.YtfmhdkemigpjjaaDoorRecPlain
namespace Go.Proofs.YtfmhdkemigpjjaaDoor.Rec
open Go.Lib Go.Proofs.YtfmhdkemigpjjaaDoor.Path
set_option linter.unusedVariables false

/-! ### right texts with a byte between -/
theorem head_cutC (c : UInt8) (hc : 0 < c.toNat ∧ c.toNat < 128) (x y : List UInt8) (hx : x ≠ []) : headOk (x ++ c :: y) → headOk x := by
  have hl : 0 < x.length := List.length_pos_iff.2 hx
  rintro ⟨h1, h2, h3, h4⟩
  have e0 := at_left x (c :: y) 0 hl
  rw [e0] at h1 h2 h3 h4
  have hs : at_ (x ++ c :: y) x.length = c.toNat := by
    unfold at_
    simp [List.getD]
  have hw : wideC (at_ x 0) ≤ x.length := by
    rcases Nat.lt_or_ge x.length (wideC (at_ x 0)) with h | h
    · have := h3 x.length h hl
      rw [hs] at this
      unfold isCont at this
      omega
    · exact h
  refine ⟨h1, hw, fun k hk hk0 => ?_, ?_⟩
  · have := h3 k hk hk0
    rwa [at_left x _ k (by omega)] at this
  · by_cases hw : 1 < x.length
    · rwa [at_left x _ 1 hw] at h4
    · unfold isBad
      omega
theorem head_one (c : UInt8) (hc : 0 < c.toNat ∧ c.toNat < 128) (y : List UInt8) : headOk (c :: y) ∧ wideC (at_ (c :: y) 0) = 1 := by
  have e : at_ (c :: y) 0 = c.toNat := rfl
  have hw : wideC c.toNat = 1 := by unfold wideC; rw [if_neg (by omega), if_pos (by omega)]
  refine ⟨⟨by rw [e, hw]; omega, by rw [e, hw]; simp, fun k hk hk0 => ?_, ?_⟩, by rw [e, hw]⟩
  · rw [e, hw] at hk; omega
  · rw [e, hw]; unfold isBad; omega
theorem text_sepGo (c : UInt8) (hc : 0 < c.toNat ∧ c.toNat < 128) (n : Nat) : ∀ x y : List UInt8, x.length ≤ n → textD (x ++ c :: y) = (textD x && textD y) := by
  induction n with
  | zero =>
    intro x y h
    obtain rfl : x = [] := List.length_eq_zero_iff.1 (by omega)
    obtain ⟨h1, h2⟩ := head_one c hc y
    rw [List.nil_append, textD_step _ (by simp), if_pos h1, h2]
    rfl
  | succ n ih =>
    intro x y h
    by_cases hx : x = []
    · subst hx
      exact ih [] y (by simp)
    · have hl : 0 < x.length := List.length_pos_iff.2 hx
      rw [textD_step (x ++ c :: y) (by simp), textD_step x hx]
      by_cases hh : headOk x
      · rw [if_pos hh, if_pos (head_app x _ hx hh), at_left x _ 0 hl, List.drop_append_of_le_length hh.2.1]
        have : 0 < wideC (at_ x 0) := Nat.pos_of_ne_zero hh.1
        exact ih _ y (by rw [List.length_drop]; omega)
      · rw [if_neg hh, if_neg (fun h => hh (head_cutC c hc x y hx h))]
        rfl
theorem text_sep (c : UInt8) (hc : 0 < c.toNat ∧ c.toNat < 128) (x y : List UInt8) : textD (x ++ c :: y) = (textD x && textD y) := text_sepGo c hc _ x y (Nat.le_refl _)
/-! ### digits, read again -/
theorem digC_dig (n : Nat) : isDig (digC n) = true := by
  unfold isDig
  rw [digC_nat]
  simp; omega
theorem decL_dig (n : Nat) : ∀ b ∈ decL n, isDig b = true := by
  induction n using Nat.strongRecOn with
  | ind n ih =>
    by_cases h : n < 10
    · rw [decL_small h]
      intro b hb
      rw [List.mem_singleton.1 hb]
      exact digC_dig n
    · rw [decL_great h]
      intro b hb
      rcases List.mem_append.1 hb with h1 | h1
      · exact ih _ (by omega) b h1
      · rw [List.mem_singleton.1 h1]
        exact digC_dig n
theorem valL_dec (n : Nat) : valL (decL n) = n := by
  induction n using Nat.strongRecOn with
  | ind n ih =>
    by_cases h : n < 10
    · rw [decL_small h]
      show 0 * 10 + ((digC n).toNat - 48) = n
      rw [digC_nat]
      omega
    · rw [decL_great h, valL_snoc, ih _ (by omega), digC_nat]
      omega
theorem decL_head (n : Nat) (hn : 0 < n) : (decL n).getD 0 0 ≠ 48 := by
  induction n using Nat.strongRecOn with
  | ind n ih =>
    by_cases h : n < 10
    · rw [decL_small h]
      intro e
      have := congrArg UInt8.toNat e
      simp only [List.getD_cons_zero, digC_nat] at this
      simp at this
      omega
    · rw [decL_great h]
      have := ih (n / 10) (by omega) (by omega)
      have hp := decL_pos (n / 10)
      rw [List.getD, List.getElem?_append_left hp]
      exact this
theorem takeWhile_dig (d x : List UInt8) (hd : ∀ b ∈ d, isDig b = true) (hx : ∀ b r, x = b :: r → isDig b = false) : (d ++ x).takeWhile isDig = d := by
  induction d with
  | nil =>
    cases x with
    | nil => rfl
    | cons b r => rw [List.nil_append, List.takeWhile_cons, hx b r rfl]; rfl
  | cons c d ih =>
    rw [List.cons_append, List.takeWhile_cons, hd c (by simp), if_pos rfl, ih fun b hb => hd b (List.mem_cons_of_mem _ hb)]
theorem index_first (x y : List UInt8) (c : UInt8) (h : x.contains c = false) : indexByte (x ++ c :: y) c = x.length := by
  induction x with
  | nil => simp [indexByte]
  | cons b x ih =>
    rw [List.contains_cons, Bool.or_eq_false_iff] at h
    have hb : (b == c) = false := by
      have := h.1
      rw [beq_eq_false_iff_ne] at this ⊢
      exact fun e => this e.symm
    have hi := ih h.2
    have hn : (indexByte (x ++ c :: y) c == -1) = false := by rw [hi, beq_eq_false_iff_ne]; omega
    have e : indexByte (b :: (x ++ c :: y)) c = indexByte (x ++ c :: y) c + 1 := by simp [indexByte, hb, hn]
    rw [List.cons_append, e, hi, List.length_cons]
    rfl
theorem mayD_spec {k v : List UInt8} (h : mayD k v = true) : k.contains 61 = false ∧ k ≠ [] ∧ textD k = true ∧ textD v = true ∧ k.length + v.length ≤ 100000 := by
  simp only [mayD, Bool.and_eq_true, Bool.not_eq_true', decide_eq_true_eq, List.isEmpty_eq_false_iff] at h
  exact ⟨h.1.1.1.1, h.1.1.1.2, h.1.1.2, h.1.2, h.2⟩
/-- how the line of a record that may be is laid: digits, and what is behind them -/
theorem line_parts {k v : List UInt8} (h : mayD k v = true) : ∃ d, lineD k v = d ++ bodyD k v ∧ (∀ b ∈ d, isDig b = true) ∧ valL d = (lineD k v).length ∧ 1 ≤ d.length ∧ d.length ≤ 7 ∧ d.getD 0 0 ≠ 48 ∧ (lineD k v).length = d.length + k.length + v.length + 3 := by
  obtain ⟨_, _, _, _, hl⟩ := mayD_spec h
  have hb := bodyD_length k v
  have hpos : 0 < (bodyD k v).length := by omega
  refine ⟨decL (lineN (bodyD k v).length), rfl, decL_dig _, by rw [valL_dec, lineD_length], decL_pos _, ?_, decL_head _ (by have := (lineN_ge (bodyD k v).length).1; omega), ?_⟩
  · refine dec_le _ 7 (by omega) ?_
    have h1 := (lineN_ge (bodyD k v).length).2
    have h2 := dec_le (bodyD k v).length 6 (by omega) (by omega)
    omega
  · rw [lineD, List.length_append]; omega
/-- a record's line is read again, whatever stands behind it -/
theorem recStep_line (R T : Int) {k v : List UInt8} (h : mayD k v = true) (rest : List UInt8) : recStep R T (lineD k v ++ rest) = .ok (k, v, (lineD k v).length) := by
  obtain ⟨m1, m2, m3, m4, m5⟩ := mayD_spec h
  obtain ⟨d, hd, hdig, hval, hd1, hd7, hd0, hlen⟩ := line_parts h
  have hk : 0 < k.length := List.length_pos_iff.2 m2
  have hl : lineD k v ++ rest = d ++ (32 :: (k ++ 61 :: v ++ 10 :: rest)) := by rw [hd]; simp [bodyD]
  have hN : digN (lineD k v ++ rest) = d.length := by
    unfold digN
    rw [hl, takeWhile_dig d _ hdig fun b r e => by cases e; decide]
  have hL : (lineD k v ++ rest).length = d.length + (k.length + v.length + 3) + rest.length := by rw [List.length_append, hlen]; omega
  have hT : (lineD k v ++ rest).take d.length = d := by rw [hl]; exact List.take_left
  have hD : (lineD k v ++ rest).drop (d.length + 1) = k ++ 61 :: v ++ 10 :: rest := by
    rw [hl, ← List.drop_drop, List.drop_left]; rfl
  have g0 : (lineD k v ++ rest).getD 0 0 = d.getD 0 0 := by
    rw [hl, List.getD, List.getElem?_append_left (by omega)]; rfl
  have g1 : (lineD k v ++ rest).getD d.length 0 = 32 := by
    rw [hl, List.getD, List.getElem?_append_right (Nat.le_refl _), Nat.sub_self]; rfl
  have hkv : (k ++ 61 :: v).length = k.length + v.length + 1 := by rw [List.length_append, List.length_cons]; omega
  have g2 : (lineD k v ++ rest).getD ((lineD k v).length - 1) 0 = 10 := by
    rw [hl, List.getD, hlen, List.getElem?_append_right (by omega), show d.length + k.length + v.length + 3 - 1 - d.length = (k ++ 61 :: v).length + 1 by rw [hkv]; omega, List.getElem?_cons_succ, List.getElem?_append_right (Nat.le_refl _), Nat.sub_self]
    rfl
  unfold recStep
  rw [hN, hT, hval, if_neg (by rw [hL]; rintro (e | e | e | e | e); omega; omega; exact hd0 (g0 ▸ e); omega; exact e g1), if_neg (by rw [hL]; rintro (e | e | e); omega; omega; exact e g2), hD]
  have hline : (k ++ 61 :: v ++ 10 :: rest).take ((lineD k v).length - 1 - (d.length + 1)) = k ++ 61 :: v := by
    rw [hlen, show d.length + k.length + v.length + 3 - 1 - (d.length + 1) = (k ++ 61 :: v).length by rw [hkv]; omega]
    exact List.take_left
  rw [hline]
  dsimp only
  rw [index_first k v 61 m1, if_neg (by omega), text_sep 61 (by decide) k v, m3, m4, if_neg (by simp), Int.toNat_natCast, List.take_left]
  rw [← List.drop_drop, List.drop_left]
  rfl
/-- a line that is cut is none -/
theorem recStep_cut (R T : Int) {k v : List UInt8} (h : mayD k v = true) (j : Nat) (hj0 : 0 < j) (hj : j < (lineD k v).length) : recStep R T ((lineD k v).take j) = .error R := by
  obtain ⟨d, hd, hdig, hval, hd1, hd7, hd0, hlen⟩ := line_parts h
  have hl : ((lineD k v).take j).length = j := by rw [List.length_take]; omega
  unfold recStep
  by_cases hjd : j ≤ d.length
  · have ht : (lineD k v).take j = d.take j := by rw [hd, List.take_append_of_le_length hjd]
    have hN : digN ((lineD k v).take j) = j := by
      unfold digN
      rw [ht]
      have := takeWhile_dig (d.take j) [] (fun b hb => hdig b (List.mem_of_mem_take hb)) (fun b r e => by cases e)
      rw [List.append_nil] at this
      rw [this, List.length_take]
      omega
    rw [if_pos (.inr (.inr (.inr (.inl (by rw [hN, hl])))))]
  · have ht : (lineD k v).take j = d ++ (bodyD k v).take (j - d.length) := by rw [hd, List.take_append, List.take_of_length_le (by omega)]
    obtain ⟨i, hi⟩ : ∃ i, j - d.length = i + 1 := ⟨j - d.length - 1, by omega⟩
    have hN : digN ((lineD k v).take j) = d.length := by
      unfold digN
      rw [ht, hi, takeWhile_dig d _ hdig fun b r e => by
        unfold bodyD at e
        simp at e
        rw [← e.1]; decide]
    have hT : ((lineD k v).take j).take d.length = d := by rw [ht]; exact List.take_left
    split
    · rfl
    · rw [if_pos (.inl (by rw [hN, hT, hval, hl]; exact hj))]
/-- the lines of records, one behind the other -/
def linesD (l : List (List UInt8 × List UInt8)) : List UInt8 := (l.map fun r => lineD r.1 r.2).flatten
theorem recs_lines (R T : Int) (l : List (List UInt8 × List UInt8)) : ∀ (rest : List UInt8) acc, (∀ r ∈ l, mayD r.1 r.2 = true) → recsFrom R T (linesD l ++ rest) acc = recsFrom R T rest (acc ++ l) := by
  induction l with
  | nil => intro rest acc _; simp [linesD]
  | cons r l ih =>
    intro rest acc h
    have hr := h r (by simp)
    have e : linesD (r :: l) ++ rest = lineD r.1 r.2 ++ (linesD l ++ rest) := by simp [linesD]
    have hne : lineD r.1 r.2 ++ (linesD l ++ rest) ≠ [] := by
      have h2 := (lineN_ge (bodyD r.1 r.2).length).1
      have h3 := bodyD_length r.1 r.2
      intro e
      have := congrArg List.length e
      rw [List.length_append, lineD_length, List.length_nil] at this
      omega
    rw [e, recsFrom_step R T _ hne, recStep_line R T hr]
    simp only
    rw [List.drop_left, ih rest _ fun x hx => h x (List.mem_cons_of_mem _ hx)]
    simp
end Go.Proofs.YtfmhdkemigpjjaaDoor.Rec
