/- A region that draws its order, whose operations each yield a value that is known: by what holds throughout. -/
import Derived.Test.YtfmhdkemigpjjaaDoorWpAny
namespace Go.Proofs.YtfmhdkemigpjjaaDoor.Mp
open Go.ChangeShapes Go.WideShapes Go.ChangeAt Go.RowKit Go.Proofs.YtfmhdkemigpjjaaDoor.Base Go.Proofs.YtfmhdkemigpjjaaDoor.Byt
set_option linter.unusedVariables false

structure RI (ops : Array Oper) (V : Nat → Value) (a0 : Act) (W : Array Bool → World → Prop) (listed : Array Bool) (a : Act) (w : World) : Prop where
  ls : listed.size = ops.size
  ts : a.tmps.size = a0.tmps.size
  df : a.defers = a0.defers
  done : ∀ j o d, ops[j]? = some o → o.dst = some d → listed.getD j false = true → a.eval (.tmp d) = V j
  same : ∀ t, (∀ j o, ops[j]? = some o → o.dst = some t → listed.getD j false = false) → a.eval (.tmp t) = a0.eval (.tmp t)
  wd : W listed w
/-- each slot is one operation's; edges go back; no operation is guarded -/
def apartB (ops : Array Oper) (n : Nat) : Bool :=
  (ops.toList.zipIdx.all fun x => x.1.guard.isNone && (x.1.after.all fun e => decide (e.on < x.2)) && (match x.1.dst with
    | none => true
    | some d => decide (d < n) && ops.toList.zipIdx.all fun y => y.2 == x.2 || y.1.dst != some d))
theorem apartB_spec {ops : Array Oper} {n : Nat} (h : apartB ops n = true) : ∀ i o, ops[i]? = some o →
    o.guard = none ∧ (∀ e ∈ o.after, Region.binds .any e = true → e.on < i) ∧ (∀ d, o.dst = some d → d < n ∧ ∀ j oj, ops[j]? = some oj → oj.dst = some d → j = i) := by
  intro i o ho
  unfold apartB at h
  rw [List.all_eq_true] at h
  have hm : ∀ (j : Nat) (oj : Oper), ops[j]? = some oj → (oj, j) ∈ ops.toList.zipIdx := fun j oj hj => by
    rw [List.mem_iff_getElem?]
    exact ⟨j, by simp [hj]⟩
  have h1 := h (o, i) (hm i o ho)
  simp only [Bool.and_eq_true] at h1
  obtain ⟨⟨h2, h3⟩, h4⟩ := h1
  refine ⟨by simpa using h2, fun e he _ => by simpa using Array.all_eq_true_iff_forall_mem.1 h3 e he, fun d hd => ?_⟩
  rw [hd] at h4
  simp only [Bool.and_eq_true, decide_eq_true_eq] at h4
  refine ⟨h4.1, fun j oj hj hdj => ?_⟩
  have h5 := List.all_eq_true.1 h4.2 (oj, j) (hm j oj hj)
  simp only [Bool.or_eq_true, beq_iff_eq, bne_iff_ne] at h5
  rcases h5 with h5 | h5
  · exact h5
  · exact absurd hdj h5
theorem wpAny_vals {P : Program} {ops : Array Oper} {Q : Exit → Act → World → Prop} (V : Nat → Value) (a0 : Act) (W : Array Bool → World → Prop) (n : Nat) (hap : apartB ops n = true) (hn : n ≤ a0.tmps.size)
    (hstep : ∀ listed a w j o, RI ops V a0 W listed a w → ops[j]? = some o → listed.getD j true = false → (∀ e ∈ o.after, Region.binds .any e = true → listed.getD e.on false = true) →
      Oper.wp P o a w (fun a' w' => a' = a.put o.dst (V j) ∧ W (listed.setIfInBounds j true) w') Q)
    (hdone : ∀ listed a w, RI ops V a0 W listed a w → (∀ j, j < ops.size → listed.getD j false = true) → Q .normal a w)
    {w : World} (h0 : W (Array.replicate ops.size false) w) : wpAny P .any ops Q ops.size (Array.replicate ops.size false) a0 w := by
  have sp := apartB_spec hap
  have no : ∀ j, (Array.replicate ops.size false).getD j false = false := fun j => by
    rw [Array.getD_eq_getD_getElem?, Array.getElem?_replicate]
    split <;> rfl
  refine wpAny_inv (RI ops V a0 W) (fun listed a w' i h hr => ?_) (fun listed a' w' h hr => ?_) _ _ _ _ ?_ ?_
  · obtain ⟨hun, o, ho, hdep⟩ := mem_ready.1 hr
    have hlt := lt_of_unlisted hun
    obtain ⟨hg, _, hd⟩ := sp i o ho
    refine wpOp_step ho fun K hK => ?_
    rw [if_pos (by simp [Region.wanted, hg])]
    refine Oper.wp_mono (fun a' w'' hh => hK a' w'' ?_) (hstep listed a w' i o h ho hun hdep)
    obtain ⟨rfl, hw⟩ := hh
    refine ⟨by simpa using h.ls, by rw [put_size]; exact h.ts, by rw [put_defers]; exact h.df, fun j oj d hj hdj hl => ?_, fun t ht => ?_, hw⟩
    · cases hod : o.dst with
      | none =>
        have hji : j ≠ i := fun e => by
          subst e
          rw [ho] at hj
          cases hj
          rw [hod] at hdj
          cases hdj
        rw [listed_get hlt, if_neg hji] at hl
        exact h.done j oj d hj hdj hl
      | some d' =>
        obtain ⟨hdn, huni⟩ := hd d' hod
        have hsz : d' < a.tmps.size := by rw [h.ts]; exact Nat.lt_of_lt_of_le hdn hn
        rw [put_eval _ hsz]
        by_cases hdd : d = d'
        · have := huni j oj hj (by rw [← hdd]; exact hdj)
          rw [if_pos hdd, this]
        · rw [if_neg hdd]
          have hji : j ≠ i := fun e => by
            subst e
            rw [ho] at hj
            cases hj
            rw [hod] at hdj
            exact hdd (Option.some.inj hdj).symm
          rw [listed_get hlt, if_neg hji] at hl
          exact h.done j oj d hj hdj hl
    · have hti : o.dst ≠ some t := fun e => by
        have := ht i o ho e
        rw [listed_get hlt, if_pos rfl] at this
        cases this
      have hold : a.eval (.tmp t) = a0.eval (.tmp t) := h.same t fun j oj hj hdj => by
        have h1 := ht j oj hj hdj
        rw [listed_get hlt] at h1
        split at h1
        · cases h1
        · exact h1
      cases hod : o.dst with
      | none => exact hold
      | some d' =>
        obtain ⟨hdn, _⟩ := hd d' hod
        rw [put_eval _ (by rw [h.ts]; exact Nat.lt_of_lt_of_le hdn hn), if_neg (fun e => hti (by rw [hod, e]))]
        exact hold
  · exact hdone _ _ _ h fun j hj => all_listed h.ls (fun i o ho => (sp i o ho).2.1) hr (j + 1) j (by omega) hj
  · unfold stillN
    exact Nat.le_trans (List.length_filter_le _ _) (by rw [List.length_range]; exact Nat.le_refl _)
  · exact ⟨Array.size_replicate, rfl, rfl, fun j o d _ _ hl => (by rw [no] at hl; cases hl), fun t _ => rfl, h0⟩
/-- does operation j wait for operation i? -/
def hasDep (ops : Array Oper) (j i : Nat) : Bool := ((ops[j]?).map fun o => o.after.any fun e => e.on == i && Region.binds .any e).getD false
def freeB (ops : Array Oper) (t : Nat) : Bool := ops.toList.all fun o => o.dst != some t
section
variable {ops : Array Oper} {V : Nat → Value} {a0 a : Act} {W : Array Bool → World → Prop} {listed : Array Bool} {w : World}
theorem RI.get (h : RI ops V a0 W listed a w) {j i d : Nat} {o : Oper} (ho : ops[j]? = some o) (hdep : ∀ e ∈ o.after, Region.binds .any e = true → listed.getD e.on false = true) (hd : hasDep ops j i = true) (hdst : (ops[i]?).bind (·.dst) = some d) : a.eval (.tmp d) = V i := by
  unfold hasDep at hd
  rw [ho] at hd
  obtain ⟨e, he, hb⟩ := Array.any_eq_true'.1 (show o.after.any _ = true from hd)
  simp only [Bool.and_eq_true, beq_iff_eq] at hb
  have hl := hdep e he hb.2
  rw [hb.1] at hl
  cases hoi : ops[i]? with
  | none => rw [hoi] at hdst; cases hdst
  | some oi =>
    rw [hoi] at hdst
    exact h.done i oi d hoi hdst hl
theorem RI.old (h : RI ops V a0 W listed a w) {t : Nat} (hf : freeB ops t = true) : a.eval (.tmp t) = a0.eval (.tmp t) :=
  h.same t fun j o ho hd => by
    unfold freeB at hf
    rw [List.all_eq_true] at hf
    have := hf o (by rw [Array.mem_toList_iff]; exact Array.mem_of_getElem? ho)
    rw [hd] at this
    simp at this
end
/-- the regions of a function's text -/
def regionsOf : Code → List (Nat × Array Oper)
  | .region id ops _ => [(id, ops)]
  | .seq a b => regionsOf a ++ regionsOf b
  | .cond _ a b => regionsOf a ++ regionsOf b
  | .block _ c => regionsOf c
  | .loop c => regionsOf c
  | _ => []
def regionAt (f : Func) (id : Nat) : Array Oper :=
  match f.body with
  | some c => (((regionsOf c).find? fun x => x.1 == id).map (·.2)).getD #[]
  | none => #[]
/-! one operation, by its kind -/
section
variable {P : Program} {o : Oper} {a : Act} {w : World} {K : Act → World → Prop} {Q : Exit → Act → World → Prop}
theorem wp_move (x : Operand) (v : Value) (ho : o.op = .move x ∨ o.op = .assign x) (hx : a.eval x = v) (h : K (a.put o.dst v) w) : Oper.wp P o a w K Q := by
  unfold Oper.wp
  rcases ho with ho | ho
  · simp [execOp, ho, hx, Oper.upon_value]; exact h
  · simp [execOp, ho, hx, Oper.upon_value]; exact h
theorem wp_run (v : Value) (hr : (execOp a.eval o).run P w = .ok (.value v) w) (h : K (a.put o.dst v) w) : Oper.wp P o a w K Q := by
  unfold Oper.wp
  rw [hr, Oper.upon_value]
  exact h
theorem wp_look (t : TypeId) (m x : Operand) (ho : o.op = .lookup t m x false) (mv xv v : Value) (hm : a.eval m = mv) (hx : a.eval x = xv) (hr : (Instr.lookup t mv xv false).run P w = .ok v w) (h : K (a.put o.dst v) w) : Oper.wp P o a w K Q := by
  unfold Oper.wp
  simp [execOp, ho, hm, hx, hr, Result.andThen, Oper.upon_value]
  exact h
theorem evalF (a : Act) (f : FuncId) : a.eval (.func f) = .func (.func f) #[] #[] := rfl
theorem wp_call (f : FuncId) (xs : Array Operand) (ts : Array TypeId) (ho : o.op = .call { callee := .value (.func f), args := xs, argTypes := ts }) (vs : Array Value) (hx : xs.map a.eval = vs)
    (hf : ∀ args w, (callFunc f args).run P w = .ok (.enter f args) w) (v : Value) (R : World → Prop) (hc : Calls P f vs w fun e w' => e = .returned v ∧ R w') (h : ∀ w', R w' → K (a.put o.dst v) w') : Oper.wp P o a w K Q := by
  unfold Oper.wp
  simp [execOp, ho, resolve, invoke, hx, evalF, Deferred.ofValue, hf, Oper.upon]
  refine hc.mono fun e w' he => ?_
  obtain ⟨rfl, hR⟩ := he
  exact h w' hR
end
end Go.Proofs.YtfmhdkemigpjjaaDoor.Mp
