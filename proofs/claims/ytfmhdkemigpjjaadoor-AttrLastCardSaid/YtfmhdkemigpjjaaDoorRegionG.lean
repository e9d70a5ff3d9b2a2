/- A region that draws its order, one of whose operations yields what is known only then: by a ghost. -/
import Derived.Test.YtfmhdkemigpjjaaDoorRegion
namespace Go.Proofs.YtfmhdkemigpjjaaDoor.Mp
open Go.ChangeShapes Go.WideShapes Go.ChangeAt Go.RowKit Go.Proofs.YtfmhdkemigpjjaaDoor.Base Go.Proofs.YtfmhdkemigpjjaaDoor.Byt
set_option linter.unusedVariables false

/-- each slot is one operation's; the edges that bind go back; no operation is guarded -/
def apartG (ops : Array Oper) (n : Nat) : Bool :=
  (ops.toList.zipIdx.all fun x => x.1.guard.isNone && (x.1.after.all fun e => decide (e.on < x.2) || !Region.binds .any e) && (match x.1.dst with
    | none => true
    | some d => decide (d < n) && ops.toList.zipIdx.all fun y => y.2 == x.2 || y.1.dst != some d))
theorem apartG_spec {ops : Array Oper} {n : Nat} (h : apartG ops n = true) : ∀ i o, ops[i]? = some o →
    o.guard = none ∧ (∀ e ∈ o.after, Region.binds .any e = true → e.on < i) ∧ (∀ d, o.dst = some d → d < n ∧ ∀ j oj, ops[j]? = some oj → oj.dst = some d → j = i) := by
  intro i o ho
  unfold apartG at h
  rw [List.all_eq_true] at h
  have hm : ∀ (j : Nat) (oj : Oper), ops[j]? = some oj → (oj, j) ∈ ops.toList.zipIdx := fun j oj hj => by
    rw [List.mem_iff_getElem?]
    exact ⟨j, by simp [hj]⟩
  have h1 := h (o, i) (hm i o ho)
  simp only [Bool.and_eq_true] at h1
  obtain ⟨⟨h2, h3⟩, h4⟩ := h1
  refine ⟨by simpa using h2, fun e he hb => ?_, fun d hd => ?_⟩
  · have h5 := Array.all_eq_true_iff_forall_mem.1 h3 e he
    rw [hb] at h5
    simpa using h5
  rw [hd] at h4
  simp only [Bool.and_eq_true, decide_eq_true_eq] at h4
  refine ⟨h4.1, fun j oj hj hdj => ?_⟩
  have h5 := List.all_eq_true.1 h4.2 (oj, j) (hm j oj hj)
  simp only [Bool.or_eq_true, beq_iff_eq, bne_iff_ne] at h5
  rcases h5 with h5 | h5
  · exact h5
  · exact absurd hdj h5
theorem RI.next {ops : Array Oper} {V : Nat → Value} {a0 a : Act} {W W' : Array Bool → World → Prop} {listed : Array Bool} {w w' : World} (n : Nat) (hap : apartG ops n = true) (hn : n ≤ a0.tmps.size) (h : RI ops V a0 W listed a w)
    {i : Nat} {o : Oper} (ho : ops[i]? = some o) (hun : listed.getD i true = false) (hw : W' (listed.setIfInBounds i true) w') : RI ops V a0 W' (listed.setIfInBounds i true) (a.put o.dst (V i)) w' := by
  have hlt := lt_of_unlisted hun
  obtain ⟨hg, _, hd⟩ := apartG_spec hap i o ho
  refine ⟨by simpa using h.ls, by rw [put_size]; exact h.ts, by rw [put_defers]; exact h.df, fun j oj d hj hdj hl => ?_, fun t ht => ?_, hw⟩
  · cases hod : o.dst with
    | none =>
      have hji : j ≠ i := fun e => by
        subst e
        rw [ho] at hj
        cases hj
        rw [hod] at hdj
        cases hdj
      rw [listed_get hlt, if_neg hji] at hl
      exact h.done j oj d hj hdj hl
    | some d' =>
      obtain ⟨hdn, huni⟩ := hd d' hod
      have hsz : d' < a.tmps.size := by rw [h.ts]; exact Nat.lt_of_lt_of_le hdn hn
      rw [put_eval _ hsz]
      by_cases hdd : d = d'
      · have := huni j oj hj (by rw [← hdd]; exact hdj)
        rw [if_pos hdd, this]
      · rw [if_neg hdd]
        have hji : j ≠ i := fun e => by
          subst e
          rw [ho] at hj
          cases hj
          rw [hod] at hdj
          exact hdd (Option.some.inj hdj).symm
        rw [listed_get hlt, if_neg hji] at hl
        exact h.done j oj d hj hdj hl
  · have hti : o.dst ≠ some t := fun e => by
      have := ht i o ho e
      rw [listed_get hlt, if_pos rfl] at this
      cases this
    have hold : a.eval (.tmp t) = a0.eval (.tmp t) := h.same t fun j oj hj hdj => by
      have h1 := ht j oj hj hdj
      rw [listed_get hlt] at h1
      split at h1
      · cases h1
      · exact h1
    cases hod : o.dst with
    | none => exact hold
    | some d' =>
      obtain ⟨hdn, _⟩ := hd d' hod
      rw [put_eval _ (by rw [h.ts]; exact Nat.lt_of_lt_of_le hdn hn), if_neg (fun e => hti (by rw [hod, e]))]
      exact hold
theorem wpAny_ghost {Γ : Type} {P : Program} {ops : Array Oper} {Q : Exit → Act → World → Prop} (V : Γ → Nat → Value) (γ0 : Γ) (a0 : Act) (W : Γ → Array Bool → World → Prop) (n : Nat) (hap : apartG ops n = true) (hn : n ≤ a0.tmps.size)
    (hstep : ∀ γ listed a w j o, RI ops (V γ) a0 (W γ) listed a w → ops[j]? = some o → listed.getD j true = false → (∀ e ∈ o.after, Region.binds .any e = true → listed.getD e.on false = true) →
      Oper.wp P o a w (fun a' w' => ∃ γ', (∀ i, listed.getD i false = true → V γ' i = V γ i) ∧ a' = a.put o.dst (V γ' j) ∧ W γ' (listed.setIfInBounds j true) w') Q)
    (hdone : ∀ γ listed a w, RI ops (V γ) a0 (W γ) listed a w → (∀ j, j < ops.size → listed.getD j false = true) → Q .normal a w)
    {w : World} (h0 : W γ0 (Array.replicate ops.size false) w) : wpAny P .any ops Q ops.size (Array.replicate ops.size false) a0 w := by
  have sp := apartG_spec hap
  have no : ∀ j, (Array.replicate ops.size false).getD j false = false := fun j => by
    rw [Array.getD_eq_getD_getElem?, Array.getElem?_replicate]
    split <;> rfl
  refine wpAny_inv (fun listed a w' => ∃ γ, RI ops (V γ) a0 (W γ) listed a w') (fun listed a w' i h hr => ?_) (fun listed a' w' h hr => ?_) _ _ _ _ ?_ ?_
  · obtain ⟨γ, h⟩ := h
    obtain ⟨hun, o, ho, hdep⟩ := mem_ready.1 hr
    obtain ⟨hg, _, hd⟩ := sp i o ho
    refine wpOp_step ho fun K hK => ?_
    rw [if_pos (by simp [Region.wanted, hg])]
    refine Oper.wp_mono (fun a' w'' hh => hK a' w'' ?_) (hstep γ listed a w' i o h ho hun hdep)
    obtain ⟨γ', hag, rfl, hw⟩ := hh
    have h' : RI ops (V γ') a0 (fun _ _ => True) listed a w' := ⟨h.ls, h.ts, h.df, fun j oj d hj hdj hl => (h.done j oj d hj hdj hl).trans (hag j hl).symm, h.same, trivial⟩
    exact ⟨γ', h'.next n hap hn ho hun hw⟩
  · obtain ⟨γ, h⟩ := h
    exact hdone γ _ _ _ h fun j hj => all_listed h.ls (fun i o ho => (sp i o ho).2.1) hr (j + 1) j (by omega) hj
  · unfold stillN
    exact Nat.le_trans (List.length_filter_le _ _) (by rw [List.length_range]; exact Nat.le_refl _)
  · exact ⟨γ0, Array.size_replicate, rfl, rfl, fun j o d _ _ hl => (by rw [no] at hl; cases hl), fun t _ => rfl, h0⟩
def dstAt (ops : Array Oper) (i : Nat) : Option Nat := (ops[i]?).bind fun o => o.dst
/-- all operations' values, written one after the other -/
def putAll (ops : Array Oper) (V : Nat → Value) (a0 : Act) : Nat → Act
  | 0 => a0
  | n + 1 => (putAll ops V a0 n).put (dstAt ops n) (V n)
theorem put_none (a : Act) (v : Value) : a.put none v = a := rfl
theorem putAll_size (ops : Array Oper) (V : Nat → Value) (a0 : Act) : ∀ n, (putAll ops V a0 n).tmps.size = a0.tmps.size
  | 0 => rfl
  | n + 1 => by rw [putAll, put_size, putAll_size ops V a0 n]
theorem putAll_defers (ops : Array Oper) (V : Nat → Value) (a0 : Act) : ∀ n, (putAll ops V a0 n).defers = a0.defers
  | 0 => rfl
  | n + 1 => by rw [putAll, put_defers, putAll_defers ops V a0 n]
theorem put_eval_ne {a : Act} {d : Option Nat} {t : Nat} (v : Value) (h : d ≠ some t) : (a.put d v).eval (.tmp t) = a.eval (.tmp t) := by
  cases d with
  | none => rfl
  | some d =>
    have hne : ¬ d = t := fun e => h (by rw [e])
    show ((a.tmps.setIfInBounds d v).getD t undef) = a.tmps.getD t undef
    simp [Array.getElem?_setIfInBounds_ne hne]
theorem putAll_none (ops : Array Oper) (V : Nat → Value) (a0 : Act) (t : Nat) : ∀ n, (∀ j, j < n → dstAt ops j ≠ some t) → (putAll ops V a0 n).eval (.tmp t) = a0.eval (.tmp t)
  | 0, _ => rfl
  | n + 1, h => by
    rw [putAll, put_eval_ne _ (h n (by omega))]
    exact putAll_none ops V a0 t n fun j hj => h j (by omega)
theorem putAll_some {ops : Array Oper} (V : Nat → Value) (a0 : Act) {t : Nat} (ht : t < a0.tmps.size) {i : Nat} (hi : dstAt ops i = some t) (hu : ∀ j, dstAt ops j = some t → j = i) : ∀ n, i < n → (putAll ops V a0 n).eval (.tmp t) = V i
  | 0, h => absurd h (by omega)
  | n + 1, h => by
    rw [putAll]
    by_cases hn : n = i
    · subst hn
      rw [hi, put_eval _ (by rw [putAll_size]; exact ht), if_pos rfl]
    · rw [put_eval_ne _ (fun e => hn (hu n e))]
      exact putAll_some V a0 ht hi hu n (by omega)
theorem act_ext {a b : Act} (hs : a.tmps.size = b.tmps.size) (hd : a.defers = b.defers) (h : ∀ t, a.eval (.tmp t) = b.eval (.tmp t)) : a = b := by
  obtain ⟨ta, da⟩ := a
  obtain ⟨tb, db⟩ := b
  obtain rfl : da = db := hd
  congr 1
  apply Array.ext hs
  intro i h1 h2
  have := h i
  change ta.getD i undef = tb.getD i undef at this
  rw [Array.getD_eq_getD_getElem?, Array.getD_eq_getD_getElem?, Array.getElem?_eq_getElem h1, Array.getElem?_eq_getElem h2] at this
  exact this
theorem done_putAll {ops : Array Oper} {V : Nat → Value} {a0 a : Act} {W : Array Bool → World → Prop} {listed : Array Bool} {w : World} (n : Nat) (hap : apartB ops n = true) (hn : n ≤ a0.tmps.size) (h : RI ops V a0 W listed a w) (hall : ∀ j, j < ops.size → listed.getD j false = true) : a = putAll ops V a0 ops.size := by
  have sp := apartB_spec hap
  refine act_ext (by rw [h.ts, putAll_size]) (by rw [h.df, putAll_defers]) fun t => ?_
  by_cases hex : ∃ i, dstAt ops i = some t
  · obtain ⟨i, hi⟩ := hex
    cases ho : ops[i]? with
    | none => rw [dstAt, ho] at hi; cases hi
    | some o =>
      have hd : o.dst = some t := by rw [dstAt, ho] at hi; exact hi
      have hlt := (Array.getElem?_eq_some_iff.1 ho).1
      obtain ⟨h1, h2⟩ := (sp i o ho).2.2 t hd
      rw [h.done i o t ho hd (hall i hlt), putAll_some V a0 (Nat.lt_of_lt_of_le h1 hn) hi (fun j hj => by
        cases hoj : ops[j]? with
        | none => rw [dstAt, hoj] at hj; cases hj
        | some oj => exact h2 j oj hoj (by rw [dstAt, hoj] at hj; exact hj)) _ hlt]
  · rw [putAll_none ops V a0 t _ fun j _ e => hex ⟨j, e⟩]
    exact h.same t fun j o ho hd => absurd ⟨j, by rw [dstAt, ho]; exact hd⟩ hex
theorem dep_listed {ops : Array Oper} {listed : Array Bool} {j i : Nat} {o : Oper} (ho : ops[j]? = some o) (hdep : ∀ e ∈ o.after, Region.binds .any e = true → listed.getD e.on false = true) (hd : hasDep ops j i = true) : listed.getD i false = true := by
  unfold hasDep at hd
  rw [ho] at hd
  obtain ⟨e, he, hb⟩ := Array.any_eq_true'.1 (show o.after.any _ = true from hd)
  simp only [Bool.and_eq_true, beq_iff_eq] at hb
  have hl := hdep e he hb.2
  rwa [hb.1] at hl
theorem wp_callE {P : Program} {o : Oper} {a : Act} {w : World} {K : Act → World → Prop} {Q : Exit → Act → World → Prop} (f : FuncId) (xs : Array Operand) (ts : Array TypeId) (ho : o.op = .call { callee := .value (.func f), args := xs, argTypes := ts }) (vs : Array Value) (hx : xs.map a.eval = vs)
    (hf : ∀ args w, (callFunc f args).run P w = .ok (.enter f args) w) (R : Value → World → Prop) (hc : Calls P f vs w fun e w' => ∃ v, e = .returned v ∧ R v w') (h : ∀ v w', R v w' → K (a.put o.dst v) w') : Oper.wp P o a w K Q := by
  unfold Oper.wp
  simp [execOp, ho, resolve, invoke, hx, evalF, Deferred.ofValue, hf, Oper.upon]
  refine hc.mono fun e w' he => ?_
  obtain ⟨v, rfl, hR⟩ := he
  exact h v w' hR
theorem done_putAllG {ops : Array Oper} {V : Nat → Value} {a0 a : Act} {W : Array Bool → World → Prop} {listed : Array Bool} {w : World} (n : Nat) (hap : apartG ops n = true) (hn : n ≤ a0.tmps.size) (h : RI ops V a0 W listed a w) (hall : ∀ j, j < ops.size → listed.getD j false = true) : a = putAll ops V a0 ops.size := by
  have sp := apartG_spec hap
  refine act_ext (by rw [h.ts, putAll_size]) (by rw [h.df, putAll_defers]) fun t => ?_
  by_cases hex : ∃ i, dstAt ops i = some t
  · obtain ⟨i, hi⟩ := hex
    cases ho : ops[i]? with
    | none => rw [dstAt, ho] at hi; cases hi
    | some o =>
      have hd : o.dst = some t := by rw [dstAt, ho] at hi; exact hi
      have hlt := (Array.getElem?_eq_some_iff.1 ho).1
      obtain ⟨h1, h2⟩ := (sp i o ho).2.2 t hd
      rw [h.done i o t ho hd (hall i hlt), putAll_some V a0 (Nat.lt_of_lt_of_le h1 hn) hi (fun j hj => by
        cases hoj : ops[j]? with
        | none => rw [dstAt, hoj] at hj; cases hj
        | some oj => exact h2 j oj hoj (by rw [dstAt, hoj] at hj; exact hj)) _ hlt]
  · rw [putAll_none ops V a0 t _ fun j _ e => hex ⟨j, e⟩]
    exact h.same t fun j o ho hd => absurd ⟨j, by rw [dstAt, ho]; exact hd⟩ hex
end Go.Proofs.YtfmhdkemigpjjaaDoor.Mp
