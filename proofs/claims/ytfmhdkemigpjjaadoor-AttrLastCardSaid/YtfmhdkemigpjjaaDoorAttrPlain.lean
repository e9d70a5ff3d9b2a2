/- What records change, in plain words: what counts of a key, times, what records make of a head. No run in this text. -/
import Derived.Test.YtfmhdkemigpjjaaDoorRecCode
import Derived.Test.YtfmhdkemigpjjaaDoorHeadV
import Derived.Lib.AtoiAll
import Derived.Lib.SlTrimSet
namespace Go.Proofs.YtfmhdkemigpjjaaDoor.Attr
open Go.Lib Go.Proofs.YtfmhdkemigpjjaaDoor.Rec Go.Proofs.YtfmhdkemigpjjaaDoor.Hp
set_option linter.unusedVariables false

abbrev RecL := List (List UInt8 × List UInt8)
/-- the value of the last record that has the key -/
def lastD : RecL → List UInt8 → Option (List UInt8)
  | [], _ => none
  | r :: rs, k => match lastD rs k with
    | some v => some v
    | none => if r.1 = k then some r.2 else none
theorem lastD_app (a b : RecL) (k : List UInt8) : lastD (a ++ b) k = match lastD b k with
    | some v => some v
    | none => lastD a k := by
  induction a with
  | nil => cases h : lastD b k <;> simp [lastD, h]
  | cons r a ih =>
    rw [List.cons_append, lastD, ih]
    cases h : lastD b k with
    | some v => rfl
    | none => rfl
theorem lastD_snoc (a : RecL) (r : List UInt8 × List UInt8) (k : List UInt8) : lastD (a ++ [r]) k = if r.1 = k then some r.2 else lastD a k := by
  rw [lastD_app]
  by_cases h : r.1 = k <;> simp [lastD, h]
theorem lastD_none {rs : RecL} {k : List UInt8} (h : ∀ r ∈ rs, r.1 ≠ k) : lastD rs k = none := by
  induction rs with
  | nil => rfl
  | cons r rs ih =>
    rw [lastD, ih fun x hx => h x (List.mem_cons_of_mem _ hx)]
    simp [h r (List.mem_cons_self ..)]
/-- from behind: the record at i, behind which there is no other one with the key -/
theorem lastD_at {rs : RecL} {k : List UInt8} (i : Nat) (hi : i < rs.length) (h1 : (rs.getD i ([], [])).1 = k) (h2 : ∀ j, i < j → j < rs.length → (rs.getD j ([], [])).1 ≠ k) : lastD rs k = some (rs.getD i ([], [])).2 := by
  have e : rs = rs.take i ++ rs.getD i ([], []) :: rs.drop (i + 1) := by
    have : rs.getD i ([], []) = rs[i] := by simp [List.getD, hi]
    rw [this, List.getElem_cons_drop, List.take_append_drop]
  have h3 : lastD (rs.drop (i + 1)) k = none := lastD_none fun r hr => by
    obtain ⟨j, hj, rfl⟩ := List.getElem_of_mem hr
    rw [List.length_drop] at hj
    have := h2 (i + 1 + j) (by omega) (by omega)
    rw [List.getElem_drop]
    simpa [List.getD, show i + 1 + j < rs.length by omega] using this
  generalize hr : rs.getD i ([], []) = r at e h1 ⊢
  rw [e, lastD_app, lastD, h3]
  simp [h1]
theorem lastD_no {rs : RecL} {k : List UInt8} (h : ∀ j, j < rs.length → (rs.getD j ([], [])).1 ≠ k) : lastD rs k = none := lastD_none fun r hr => by
  obtain ⟨j, hj, rfl⟩ := List.getElem_of_mem hr
  have := h j hj
  simpa [List.getD, hj] using this
theorem lastD_mem {rs : RecL} {k v : List UInt8} (h : lastD rs k = some v) : ∃ r ∈ rs, r.1 = k ∧ r.2 = v := by
  induction rs with
  | nil => cases h
  | cons r rs ih =>
    rw [lastD] at h
    cases hl : lastD rs k with
    | some u =>
      rw [hl] at h ih
      obtain ⟨x, hx, h1⟩ := ih h
      exact ⟨x, List.mem_cons_of_mem _ hx, h1⟩
    | none =>
      rw [hl] at h
      by_cases hk : r.1 = k
      · simp only [hk, if_true] at h
        exact ⟨r, List.mem_cons_self .., hk, Option.some.inj h⟩
      · simp [hk] at h
/-- what counts of a key: F is what is global -/
def valueD (F : List UInt8 → Option (List UInt8)) (own : RecL) (k : List UInt8) : List UInt8 := match lastD own k with
  | some v => v
  | none => (F k).getD []
def noneF : List UInt8 → Option (List UInt8) := fun _ => none
/-- more records are global -/
def moreF (F : List UInt8 → Option (List UInt8)) (rs : RecL) : List UInt8 → Option (List UInt8) := fun k => match lastD rs k with
  | some v => some v
  | none => F k
theorem moreF_nil (F : List UInt8 → Option (List UInt8)) : moreF F [] = F := rfl
theorem moreF_snoc (F : List UInt8 → Option (List UInt8)) (rs : RecL) (r : List UInt8 × List UInt8) : moreF F (rs ++ [r]) = fun k => if k = r.1 then some r.2 else moreF F rs k := by
  funext k
  unfold moreF
  rw [lastD_snoc]
  by_cases h : k = r.1
  · simp [h]
  · have : ¬ r.1 = k := fun e => h e.symm
    simp [h, this]
theorem moreF_more (F : List UInt8 → Option (List UInt8)) (a b : RecL) : moreF (moreF F a) b = moreF F (a ++ b) := by
  funext k
  unfold moreF
  rw [lastD_app]
  cases lastD b k <;> rfl
theorem moreF_none (rs : RecL) : moreF noneF rs = lastD rs := by
  funext k
  unfold moreF noneF
  cases lastD rs k <;> rfl

/-- a time's whole seconds -/
def secD (l : List UInt8) : Option Nat :=
  if 0 ≤ indexByte l 46 then (if (l.drop ((indexByte l 46).toNat + 1)).all isDig then wholeD (l.take (indexByte l 46).toNat) else none) else wholeD l
def keyT : Nat → List UInt8
  | 0 => [117, 105, 100] | 1 => [103, 105, 100] | 2 => [109, 116, 105, 109, 101] | 3 => [115, 105, 122, 101] | 4 => [112, 97, 116, 104] | _ => [108, 105, 110, 107, 112, 97, 116, 104]
/-- what a value makes of a number, or that it is none -/
def numD1 (time : Bool) (v : List UInt8) (old : Int) : Option Int :=
  if v = [] then some old else Option.map Int.ofNat (if time then secD v else wholeD v)
/-- what a value makes of a text -/
def textD1 (v old : List UInt8) : List UInt8 := if v = [] then old else v
/-- what values (of keyT's keys) make of a head -/
def applyV (V : Nat → List UInt8) (h : HeadV) : HeadV × Int :=
  match numD1 false (V 0) h.uid, numD1 false (V 1) h.gid, numD1 true (V 2) h.time, numD1 false (V 3) h.size with
  | some u, some g, some t, some s => ({ h with name := textD1 (V 4) h.name, link := textD1 (V 5) h.link, uid := u, gid := g, time := t, size := s }, 0)
  | _, _, _, _ => (zeroH, 4)
def applyD (F : List UInt8 → Option (List UInt8)) (own : RecL) (h : HeadV) : HeadV × Int := applyV (fun i => valueD F own (keyT i)) h
theorem wholeD_lt {l : List UInt8} {n : Nat} (h : wholeD l = some n) : n < 1000000000000000000 := by
  unfold wholeD at h
  split at h
  · cases h
  · split at h
    · rename_i h1 h2
      cases h
      have h3 := valL_lt l (by simpa using h2)
      have : 10 ^ l.length ≤ 10 ^ 18 := Nat.pow_le_pow_right (by omega) (by omega)
      omega
    · cases h
/-- no other key than the six counts -/
theorem applyD_congr {F G : List UInt8 → Option (List UInt8)} {a b : RecL} (h : HeadV) (hk : ∀ i, i < 6 → valueD F a (keyT i) = valueD G b (keyT i)) : applyD F a h = applyD G b h := by
  unfold applyD applyV
  simp only [hk 0 (by omega), hk 1 (by omega), hk 2 (by omega), hk 3 (by omega), hk 4 (by omega), hk 5 (by omega)]
theorem applyD_empty {F : List UInt8 → Option (List UInt8)} {a : RecL} (h : HeadV) (hk : ∀ i, i < 6 → valueD F a (keyT i) = []) : applyD F a h = (h, 0) := by
  unfold applyD applyV
  simp only [hk 0 (by omega), hk 1 (by omega), hk 2 (by omega), hk 3 (by omega), hk 4 (by omega), hk 5 (by omega), numD1, textD1, if_true]
/-- decimal digits, as the library reads them -/
theorem decFrom_dig (l : List UInt8) (h : ∀ b ∈ l, isDig b = true) : ∀ acc, decFrom acc l = some (l.foldl (fun n b => n * 10 + (b.toNat - 48)) acc) := by
  induction l with
  | nil => intro acc; rfl
  | cons c l ih =>
    intro acc
    have hc := h c (List.mem_cons_self ..)
    simp only [isDig, decide_eq_true_eq] at hc
    have hd : digitVal c = some (c.toNat - 48) := by
      simp [digitVal]
      omega
    rw [decFrom, hd]
    exact ih (fun b hb => h b (List.mem_cons_of_mem _ hb)) _
theorem atoi_dig (l : List UInt8) (h0 : l ≠ []) (h : ∀ b ∈ l, isDig b = true) : atoi l = some (valL l : Int) := by
  cases l with
  | nil => exact absurd rfl h0
  | cons c l =>
    have hc := h c (List.mem_cons_self ..)
    simp only [isDig, decide_eq_true_eq] at hc
    have h45 : (c == 45) = false := beq_eq_false_iff_ne.2 fun e => by subst e; exact absurd hc.1 (by decide)
    have h43 : (c == 43) = false := beq_eq_false_iff_ne.2 fun e => by subst e; exact absurd hc.1 (by decide)
    unfold atoi
    simp only [h45, h43, decNat, List.isEmpty_cons, decFrom_dig _ h]
    rfl
/-- what stays where digits are cut off at both ends -/
theorem trim_dig (l : List UInt8) : (trimS l [48, 49, 50, 51, 52, 53, 54, 55, 56, 57] = []) ↔ ∀ b ∈ l, isDig b = true := by
  have hd : ∀ b : UInt8, ([48, 49, 50, 51, 52, 53, 54, 55, 56, 57] : List UInt8).contains b = isDig b := fun b => by
    rw [Bool.eq_iff_iff]
    simp only [List.contains_iff_mem, isDig, decide_eq_true_eq, List.mem_cons, List.not_mem_nil, or_false]
    constructor
    · rintro (rfl | rfl | rfl | rfl | rfl | rfl | rfl | rfl | rfl | rfl) <;> decide
    · intro h
      have e : ∀ n : Nat, b.toNat = n → b = UInt8.ofNat n := fun n hn => by rw [← hn]; simp
      have : b.toNat = 48 ∨ b.toNat = 49 ∨ b.toNat = 50 ∨ b.toNat = 51 ∨ b.toNat = 52 ∨ b.toNat = 53 ∨ b.toNat = 54 ∨ b.toNat = 55 ∨ b.toNat = 56 ∨ b.toNat = 57 := by omega
      rcases this with h | h | h | h | h | h | h | h | h | h <;> (have := e _ h; subst this; decide)
  have e1 : ∀ l : List UInt8, l.dropWhile (([48, 49, 50, 51, 52, 53, 54, 55, 56, 57] : List UInt8).contains ·) = [] ↔ ∀ b ∈ l, isDig b = true := fun l => by
    induction l with
    | nil => simp
    | cons c l ih =>
      rw [List.dropWhile_cons]
      by_cases hc : isDig c = true
      · rw [if_pos (by rw [hd]; exact hc), ih]
        simp [hc]
      · rw [if_neg (by rw [hd]; exact hc)]
        simp [hc]
  have e2 : ∀ l : List UInt8, (∃ b ∈ l, isDig b = false) → ∃ b ∈ trimRightS l [48, 49, 50, 51, 52, 53, 54, 55, 56, 57], isDig b = false := fun l h => by
    unfold trimRightS
    obtain ⟨b, hb, hbd⟩ := h
    have : ∀ m : List UInt8, b ∈ m → b ∈ m.dropWhile (([48, 49, 50, 51, 52, 53, 54, 55, 56, 57] : List UInt8).contains ·) := fun m => by
      induction m with
      | nil => intro h; exact h
      | cons c m ih =>
        intro hm
        rw [List.dropWhile_cons]
        by_cases hc : isDig c = true
        · rw [if_pos (by rw [hd]; exact hc)]
          rcases List.mem_cons.1 hm with rfl | hm
          · rw [hbd] at hc; cases hc
          · exact ih hm
        · rw [if_neg (by rw [hd]; exact hc)]
          exact hm
    exact ⟨b, List.mem_reverse.2 (this _ (List.mem_reverse.2 hb)), hbd⟩
  unfold trimS trimLeftS
  rw [e1]
  constructor
  · intro h b hb
    cases hbd : isDig b with
    | true => rfl
    | false =>
      obtain ⟨c, hc, hcd⟩ := e2 l ⟨b, hb, hbd⟩
      rw [h c hc] at hcd
      cases hcd
  · intro h b hb
    refine h b ?_
    unfold trimRightS at hb
    exact List.mem_reverse.1 ((List.dropWhile_suffix _).subset (List.mem_reverse.1 hb))
end Go.Proofs.YtfmhdkemigpjjaaDoor.Attr
