/- What RecordSizes asks of a record's line, in plain words. No run in this text. -/
import Derived.Test.YtodlkjlcihcciaaDoorRecMath
namespace Go.Proofs.YtodlkjlcihcciaaDoor.Rec
open Go.Lib Go.Proofs.YtodlkjlcihcciaaDoor.Path
set_option linter.unusedVariables false

theorem text_ascii (l : List UInt8) (h : ∀ b ∈ l, 0 < b.toNat ∧ b.toNat < 128) : textD l = true := by
  induction l with
  | nil => rfl
  | cons c l ih =>
    have h1 := text_sep c (h c (by simp)) [] l
    rw [List.nil_append] at h1
    rw [h1, ih fun b hb => h b (List.mem_cons_of_mem _ hb)]
    rfl
theorem may_sizes (k : Nat) (hk : k < 20000) : mayD [107] (List.replicate k 118) = true := by
  have h1 : textD [107] = true := text_ascii _ (by intro b hb; rw [List.mem_singleton.1 hb]; decide)
  have h2 : textD (List.replicate k 118) = true := text_ascii _ (by intro b hb; rw [(List.mem_replicate.1 hb).2]; decide)
  unfold mayD
  rw [h1, h2]
  simp
  omega
/-- its digits: they end at the first blank, and say how long it is -/
theorem line_sizes (k : Nat) (hk : k < 20000) : ∃ d : List UInt8, lineD [107] (List.replicate k 118) = d ++ bodyD [107] (List.replicate k 118) ∧ (∀ i, i < d.length → (lineD [107] (List.replicate k 118)).getD i 0 ≠ 32) ∧
    (lineD [107] (List.replicate k 118)).getD d.length 0 = 32 ∧ (lineD [107] (List.replicate k 118)).getD 0 0 ≠ 48 ∧ wholeD d = some (lineD [107] (List.replicate k 118)).length ∧ 1 ≤ d.length ∧ d.length ≤ 7 ∧
    (lineD [107] (List.replicate k 118)).length = d.length + k + 4 := by
  obtain ⟨d, hd, hdig, hval, hd1, hd7, hd0, hlen⟩ := line_parts (may_sizes k hk)
  refine ⟨d, hd, fun i hi e => ?_, ?_, fun e => hd0 ?_, ?_, hd1, hd7, ?_⟩
  · rw [hd, List.getD, List.getElem?_append_left hi, List.getElem?_eq_getElem hi] at e
    have h1 := hdig d[i] (List.getElem_mem hi)
    have e2 : d[i] = 32 := e
    rw [e2] at h1
    exact absurd h1 (by decide)
  · rw [hd, List.getD, List.getElem?_append_right (Nat.le_refl _), Nat.sub_self]
    rfl
  · rw [hd, List.getD, List.getElem?_append_left (by omega)] at e
    exact e
  · unfold wholeD
    rw [if_neg (by omega), if_pos (List.all_eq_true.2 hdig), hval]
  · rw [hlen, List.length_replicate]
    simp only [List.length_cons, List.length_nil]
    omega
end Go.Proofs.YtodlkjlcihcciaaDoor.Rec
