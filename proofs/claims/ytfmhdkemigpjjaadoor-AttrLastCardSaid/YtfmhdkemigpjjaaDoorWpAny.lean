/- A region whose operations come in whatever order: by what holds throughout. No function's text is in it. -/
import Derived.Test.YtfmhdkemigpjjaaDoorKept
import Derived.RegionTactic
namespace Go.Proofs.YtfmhdkemigpjjaaDoor.Mp
open Go.ChangeShapes Go.WideShapes Go.ChangeAt Go.RowKit Go.Proofs.YtfmhdkemigpjjaaDoor.Base Go.Proofs.YtfmhdkemigpjjaaDoor.Byt Go.Lib
set_option linter.unusedVariables false

/-! ### a region in whatever order: by what holds throughout -/
def stillN (n : Nat) (listed : Array Bool) : Nat := ((List.range n).filter fun i => !listed.getD i true).length
theorem listed_get {listed : Array Bool} {i : Nat} (hi : i < listed.size) (j : Nat) (d : Bool) : (listed.setIfInBounds i true).getD j d = if j = i then true else listed.getD j d := by
  by_cases h : j = i
  · subst h; simp [hi]
  · simp [h, Array.getElem?_setIfInBounds_ne (Ne.symm h)]
theorem lt_of_unlisted {listed : Array Bool} {i : Nat} (h : listed.getD i true = false) : i < listed.size := by
  rcases Nat.lt_or_ge i listed.size with h' | h'
  · exact h'
  · simp [Array.getElem?_eq_none h'] at h
theorem wpAny_inv {P : Program} {md : Region.Mode} {ops : Array Oper} {Q : Exit → Act → World → Prop} (I : Array Bool → Act → World → Prop)
    (hstep : ∀ listed a w i, I listed a w → i ∈ Region.ready md ops listed → wpOp P ops Q i (I (listed.setIfInBounds i true)) a w)
    (hdone : ∀ listed a w, I listed a w → Region.ready md ops listed = [] → Q .normal a w) :
    ∀ (fuel : Nat) (listed : Array Bool) (a : Act) (w : World), stillN ops.size listed ≤ fuel → I listed a w → wpAny P md ops Q fuel listed a w := by
  intro fuel
  induction fuel with
  | zero =>
    intro listed a w hn hI
    have hr : Region.ready md ops listed = [] := by
      rw [List.eq_nil_iff_forall_not_mem]
      intro i hi
      have h1 := mem_ready.1 hi
      obtain ⟨o, ho, _⟩ := h1.2
      have h2 : i ∈ (List.range ops.size).filter fun i => !listed.getD i true := List.mem_filter.2 ⟨List.mem_range.2 (Array.getElem?_eq_some_iff.1 ho).1, by rw [h1.1]; rfl⟩
      have h3 : (List.range ops.size).filter (fun i => !listed.getD i true) = [] := List.eq_nil_of_length_eq_zero (by simpa [stillN] using hn)
      rw [h3] at h2
      cases h2
    exact ⟨hr, hdone _ _ _ hI hr⟩
  | succ fuel ih =>
    intro listed a w hn hI
    refine ⟨fun hr => hdone _ _ _ hI hr, fun i hi => ?_⟩
    refine wpOp_mono (fun a' w' h => ih _ _ _ ?_ h) (hstep _ _ _ _ hI hi)
    have h1 := mem_ready.1 hi
    obtain ⟨o, ho, _⟩ := h1.2
    have hlt := lt_of_unlisted h1.1
    have h2 : stillN ops.size (listed.setIfInBounds i true) < stillN ops.size listed := by
      unfold stillN
      refine filter_lt _ _ (fun x hx => ?_) i (by rw [h1.1]; rfl) (by rw [listed_get hlt, if_pos rfl]; rfl) _ (List.mem_range.2 (Array.getElem?_eq_some_iff.1 ho).1)
      rw [listed_get hlt] at hx
      split at hx
      · cases hx
      · exact hx
    omega
theorem all_listed {md : Region.Mode} {ops : Array Oper} {listed : Array Bool} (hs : listed.size = ops.size) (hd : ∀ i o, ops[i]? = some o → ∀ e ∈ o.after, Region.binds md e = true → e.on < i) (hr : Region.ready md ops listed = []) :
    ∀ n i, i < n → i < ops.size → listed.getD i false = true := by
  intro n
  induction n with
  | zero => intro i h; omega
  | succ n ih =>
    intro i h hi
    by_cases hin : i < n
    · exact ih i hin hi
    · obtain rfl : i = n := by omega
      cases hl : listed.getD i false with
      | true => rfl
      | false =>
        have h1 : listed.getD i true = false := by
          simp only [Array.getD_eq_getD_getElem?] at hl ⊢
          rw [Array.getElem?_eq_getElem (by omega)] at hl ⊢
          exact hl
        have : i ∈ Region.ready md ops listed := mem_ready.2 ⟨h1, ops[i], Array.getElem?_eq_getElem hi, fun e he hb => ih e.on (hd i _ (Array.getElem?_eq_getElem hi) e he hb) (by
          have := hd i _ (Array.getElem?_eq_getElem hi) e he hb
          omega)⟩
        rw [hr] at this
        cases this
theorem put_eval {a : Act} {d t : Nat} (v : Value) (hd : d < a.tmps.size) : (a.put (some d) v).eval (.tmp t) = if t = d then v else a.eval (.tmp t) := by
  show ((a.tmps.setIfInBounds d v).getD t undef) = _
  by_cases h : t = d
  · subst h; simp [hd]
  · rw [if_neg h]
    show _ = a.tmps.getD t undef
    simp [Array.getElem?_setIfInBounds_ne (Ne.symm h)]
theorem put_size (a : Act) (d : Option Nat) (v : Value) : (a.put d v).tmps.size = a.tmps.size := by
  cases d <;> simp [Act.put]
theorem put_defers (a : Act) (d : Option Nat) (v : Value) : (a.put d v).defers = a.defers := by
  cases d <;> rfl
theorem evalC (a : Act) (v : Value) : a.eval (.const v) = v := rfl
theorem getD_flip {listed : Array Bool} {i : Nat} (h : listed.getD i true = false) : listed.getD i false = false := by
  have := lt_of_unlisted h
  simp only [Array.getD_eq_getD_getElem?] at h ⊢
  rw [Array.getElem?_eq_getElem this] at h ⊢
  exact h
end Go.Proofs.YtfmhdkemigpjjaaDoor.Mp
