/- The document's own PutHead: its statement whose operations come in whatever order. -/
import Derived.Test.YtdnelijkhinpcabDoorRegionG
import Derived.Test.YtdnelijkhinpcabDoorRefReg
import Derived.Test.YtdnelijkhinpcabDoorRefPut
namespace Go.Proofs.YtdnelijkhinpcabDoor.Head
open Go.ChangeShapes Go.WideShapes Go.ChangeAt Go.RowKit Go.Proofs.YtdnelijkhinpcabDoor.Base Go.Proofs.YtdnelijkhinpcabDoor.Byt Go.Proofs.YtdnelijkhinpcabDoor.Hp Go.Proofs.YtdnelijkhinpcabDoor.Mp Go.Proofs.YtdnelijkhinpcabDoor.Fp Go.Proofs.YtdnelijkhinpcabDoor.Field Go.Lib
set_option linter.unusedVariables false
set_option maxRecDepth 100000

/-- what PutField leaves: its bytes, wherever they are -/
def PutS (r : Option (List Int)) (v : Value) (y : Bool) (w : World) : Prop :=
  (∃ l p c, r = some l ∧ y = true ∧ v = .slice p l.length c ∧ l.length ≤ c ∧ BAt w p l.length (bytesOf l)) ∨ (r = none ∧ y = false ∧ v = .slice none 0 0)
theorem rput_s (n wide : Int) (w : World) (w0 : (Lit.int .i64 n).wf = true) (w1 : (Lit.int .i64 wide).wf = true) :
    Calls Tryd.prog 10 #[.int .i64 n, .int .i64 wide] w fun e w' => ∃ v y, e = .returned (.tuple #[v, .bool y]) ∧ PutS (putF n wide) v y w' ∧ Kept noneB w w' := by
  refine (rput_any n wide w w0 w1).mono ?_
  rintro e w' ⟨hb, (⟨l, v, hl, rfl, hown⟩ | ⟨hl, rfl⟩)⟩
  · obtain ⟨p, c, rfl, hc, _, hbat, _⟩ := bat_of_own hown (putF_bd hl)
    exact ⟨_, true, rfl, Or.inl ⟨l, p, c, hl, rfl, rfl, hc, hbat⟩, Kept.of_below hb _⟩
  · exact ⟨_, false, rfl, Or.inr ⟨hl, rfl, rfl⟩, Kept.of_below hb _⟩
theorem wp_callE {P : Program} {o : Oper} {a : Act} {w : World} {K : Act → World → Prop} {Q : Exit → Act → World → Prop} (f : FuncId) (xs : Array Operand) (ts : Array TypeId) (ho : o.op = .call { callee := .value (.func f), args := xs, argTypes := ts }) (vs : Array Value) (hx : xs.map a.eval = vs)
    (hf : ∀ args w, (callFunc f args).run P w = .ok (.enter f args) w) (R : Value → World → Prop) (hc : Calls P f vs w fun e w' => ∃ v, e = .returned v ∧ R v w') (h : ∀ v w', R v w' → K (a.put o.dst v) w') : Oper.wp P o a w K Q := by
  unfold Oper.wp
  simp [execOp, ho, resolve, invoke, hx, evalF, Deferred.ofValue, hf, Oper.upon]
  refine hc.mono fun e w' he => ?_
  obtain ⟨v, rfl, hR⟩ := he
  exact h v w' hR
theorem done_putAllG {ops : Array Oper} {V : Nat → Value} {a0 a : Act} {W : Array Bool → World → Prop} {listed : Array Bool} {w : World} (n : Nat) (hap : apartG ops n = true) (hn : n ≤ a0.tmps.size) (h : RI ops V a0 W listed a w) (hall : ∀ j, j < ops.size → listed.getD j false = true) : a = putAll ops V a0 ops.size := by
  have sp := apartG_spec hap
  refine act_ext (by rw [h.ts, putAll_size]) (by rw [h.df, putAll_defers]) fun t => ?_
  by_cases hex : ∃ i, dstAt ops i = some t
  · obtain ⟨i, hi⟩ := hex
    cases ho : ops[i]? with
    | none => rw [dstAt, ho] at hi; cases hi
    | some o =>
      have hd : o.dst = some t := by rw [dstAt, ho] at hi; exact hi
      have hlt := (Array.getElem?_eq_some_iff.1 ho).1
      obtain ⟨h1, h2⟩ := (sp i o ho).2.2 t hd
      rw [h.done i o t ho hd (hall i hlt), putAll_some V a0 (Nat.lt_of_lt_of_le h1 hn) hi (fun j hj => by
        cases hoj : ops[j]? with
        | none => rw [dstAt, hoj] at hj; cases hj
        | some oj => exact h2 j oj hoj (by rw [dstAt, hoj] at hj; exact hj)) _ hlt]
  · rw [putAll_none ops V a0 t _ fun j _ e => hex ⟨j, e⟩]
    exact h.same t fun j o ho hd => absurd ⟨j, by rw [dstAt, ho]; exact hd⟩ hex
noncomputable def rputOps : Array Oper := regionAt Tryd.f8 18
def pV2 (A C : Value) (k : Int) (pa pc : Addr) (x z : Int) (vy : Value × Bool) : Nat → Value
  | 0 => A | 1 => .int .i64 k | 2 => .pointer (some pa) | 3 => .int .i64 x | 4 => C | 5 => .int .i64 k | 6 => .pointer (some pc) | 7 => .int .i64 z | 8 => .tuple #[vy.1, .bool vy.2] | 9 => .tuple #[vy.1, .bool vy.2] | 10 => vy.1 | 11 => .bool vy.2 | 12 => vy.1 | 13 => .bool vy.2 | _ => undef
theorem rput_size : rputOps.size = 14 := rfl
theorem rput_apart : apartG rputOps 152 = true := by kernel_rfl
theorem tdst0 : dstAt rputOps 0 = some 95 := rfl
theorem top0 : ∃ o, rputOps[0]? = some o ∧ o.op = .move (.tmp 10) ∧ o.dst = some 95 := ⟨_, rfl, rfl, rfl⟩
theorem tdst1 : dstAt rputOps 1 = some 96 := rfl
theorem top1 : ∃ o, rputOps[1]? = some o ∧ o.op = .move (.tmp 13) ∧ o.dst = some 96 := ⟨_, rfl, rfl, rfl⟩
theorem tdst2 : dstAt rputOps 2 = some 97 := rfl
theorem top2 : ∃ o, rputOps[2]? = some o ∧ o.op = .indexAddr 36 (.tmp 95) (.tmp 96) ∧ o.dst = some 97 := ⟨_, rfl, rfl, rfl⟩
theorem tdst3 : dstAt rputOps 3 = some 98 := rfl
theorem top3 : ∃ o, rputOps[3]? = some o ∧ o.op = .load 3 (.tmp 97) ∧ o.dst = some 98 := ⟨_, rfl, rfl, rfl⟩
theorem tdst4 : dstAt rputOps 4 = some 99 := rfl
theorem top4 : ∃ o, rputOps[4]? = some o ∧ o.op = .move (.tmp 12) ∧ o.dst = some 99 := ⟨_, rfl, rfl, rfl⟩
theorem tdst5 : dstAt rputOps 5 = some 100 := rfl
theorem top5 : ∃ o, rputOps[5]? = some o ∧ o.op = .move (.tmp 13) ∧ o.dst = some 100 := ⟨_, rfl, rfl, rfl⟩
theorem tdst6 : dstAt rputOps 6 = some 101 := rfl
theorem top6 : ∃ o, rputOps[6]? = some o ∧ o.op = .indexAddr 36 (.tmp 99) (.tmp 100) ∧ o.dst = some 101 := ⟨_, rfl, rfl, rfl⟩
theorem tdst7 : dstAt rputOps 7 = some 102 := rfl
theorem top7 : ∃ o, rputOps[7]? = some o ∧ o.op = .load 3 (.tmp 101) ∧ o.dst = some 102 := ⟨_, rfl, rfl, rfl⟩
theorem tdst8 : dstAt rputOps 8 = some 103 := rfl
theorem top8 : ∃ o, rputOps[8]? = some o ∧ o.op = .call { callee := .value (.func 10), args := #[.tmp 98, .tmp 102], argTypes := #[3, 3] } ∧ o.dst = some 103 := ⟨_, rfl, rfl, rfl⟩
theorem tdst9 : dstAt rputOps 9 = some 94 := rfl
theorem top9 : ∃ o, rputOps[9]? = some o ∧ o.op = .move (.tmp 103) ∧ o.dst = some 94 := ⟨_, rfl, rfl, rfl⟩
theorem tdst10 : dstAt rputOps 10 = some 104 := rfl
theorem top10 : ∃ o, rputOps[10]? = some o ∧ o.op = .extract (.tmp 94) 0 ∧ o.dst = some 104 := ⟨_, rfl, rfl, rfl⟩
theorem tdst11 : dstAt rputOps 11 = some 105 := rfl
theorem top11 : ∃ o, rputOps[11]? = some o ∧ o.op = .extract (.tmp 94) 1 ∧ o.dst = some 105 := ⟨_, rfl, rfl, rfl⟩
theorem tdst12 : dstAt rputOps 12 = some 14 := rfl
theorem top12 : ∃ o, rputOps[12]? = some o ∧ o.op = .assign (.tmp 104) ∧ o.dst = some 14 := ⟨_, rfl, rfl, rfl⟩
theorem tdst13 : dstAt rputOps 13 = some 15 := rfl
theorem top13 : ∃ o, rputOps[13]? = some o ∧ o.op = .assign (.tmp 105) ∧ o.dst = some 15 := ⟨_, rfl, rfl, rfl⟩
theorem rput_behind : ∀ j, 8 < j → j < 14 → hasDep rputOps j 8 = true ∨ hasDep rputOps j 9 = true ∨ hasDep rputOps j 10 = true ∨ hasDep rputOps j 11 = true := by
  intro j h1 h2
  rcases (show j = 9 ∨ j = 10 ∨ j = 11 ∨ j = 12 ∨ j = 13 by omega) with rfl | rfl | rfl | rfl | rfl
  · exact Or.inl (by kernel_rfl)
  · exact Or.inr (Or.inl (by kernel_rfl))
  · exact Or.inr (Or.inl (by kernel_rfl))
  · exact Or.inr (Or.inr (Or.inl (by kernel_rfl)))
  · exact Or.inr (Or.inr (Or.inr (by kernel_rfl)))
set_option maxHeartbeats 1000000 in
theorem rput_region {Q' : Exit → Act → World → Prop} {a0 : Act} {w3 : World} (A C : Value) (k : Int) (pa pc : Addr) (x z : Int) (R : Value → Bool → World → Prop)
    (hsz : 152 ≤ a0.tmps.size) (h10 : a0.eval (.tmp 10) = A) (h12 : a0.eval (.tmp 12) = C) (h13 : a0.eval (.tmp 13) = .int .i64 k)
    (hia : ∀ w, (Instr.indexAt 36 A (.int .i64 k)).run Tryd.prog w = .ok (.pointer (some pa)) w)
    (hic : ∀ w, (Instr.indexAt 36 C (.int .i64 k)).run Tryd.prog w = .ok (.pointer (some pc)) w)
    (hla : ∀ w, Kept noneB w3 w → (Instr.loadAt 3 (.pointer (some pa))).run Tryd.prog w = .ok (.int .i64 x) w)
    (hlc : ∀ w, Kept noneB w3 w → (Instr.loadAt 3 (.pointer (some pc))).run Tryd.prog w = .ok (.int .i64 z) w)
    (hcall : ∀ w, Kept noneB w3 w → Calls Tryd.prog 10 #[.int .i64 x, .int .i64 z] w fun e w' => ∃ v y, e = .returned (.tuple #[v, .bool y]) ∧ R v y w' ∧ Kept noneB w w')
    (hQ : ∀ v y w', R v y w' → Kept noneB w3 w' → Q' .normal ((((((((((((((a0.put (some 95) (A)).put (some 96) (.int .i64 k)).put (some 97) (.pointer (some pa))).put (some 98) (.int .i64 x)).put (some 99) (C)).put (some 100) (.int .i64 k)).put (some 101) (.pointer (some pc))).put (some 102) (.int .i64 z)).put (some 103) (.tuple #[v, .bool y])).put (some 94) (.tuple #[v, .bool y])).put (some 104) (v)).put (some 105) (.bool y)).put (some 14) (v)).put (some 15) (.bool y)) w') :
    wpAny Tryd.prog .any rputOps Q' rputOps.size (Array.replicate rputOps.size false) a0 w3.drew := by
  have no : ∀ j, (Array.replicate rputOps.size false).getD j false = false := fun j => by
    rw [Array.getD_eq_getD_getElem?, Array.getElem?_replicate]
    split <;> rfl
  refine wpAny_ghost (Γ := Value × Bool) (pV2 A C k pa pc x z) (undef, false) a0 (fun vy listed w => Kept noneB w3 w ∧ (listed.getD 8 false = true → R vy.1 vy.2 w) ∧ (∀ j, 8 < j → j < 14 → listed.getD j false = true → listed.getD 8 false = true)) 152 rput_apart hsz ?_ ?_
    ⟨(Kept.refl _ w3).drew, fun h => (by rw [no] at h; cases h), fun j _ _ h => (by rw [no] at h; cases h)⟩
  · intro vy listed a w j o h ho hun hdep
    have hlt := lt_of_unlisted hun
    obtain ⟨hk, hh1, hh2⟩ := h.wd
    have hj14 : j < 14 := by
      have := (Array.getElem?_eq_some_iff.1 ho).1
      rwa [rput_size] at this
    have keep : j ≠ 8 → ∃ γ', (∀ i, listed.getD i false = true → pV2 A C k pa pc x z γ' i = pV2 A C k pa pc x z vy i) ∧ a.put o.dst (pV2 A C k pa pc x z vy j) = a.put o.dst (pV2 A C k pa pc x z γ' j) ∧ (Kept noneB w3 w ∧ ((listed.setIfInBounds j true).getD 8 false = true → R γ'.1 γ'.2 w) ∧ (∀ j', 8 < j' → j' < 14 → (listed.setIfInBounds j true).getD j' false = true → (listed.setIfInBounds j true).getD 8 false = true)) := fun hj => by
      refine ⟨vy, fun _ _ => rfl, rfl, hk, ?_, fun j' h1 h2 h3 => ?_⟩
      · rw [listed_get hlt, if_neg (Ne.symm hj)]
        exact hh1
      · rw [listed_get hlt, if_neg (Ne.symm hj)]
        rw [listed_get hlt] at h3
        by_cases hjj : j' = j
        · subst hjj
          rcases rput_behind j' h1 h2 with hd | hd | hd | hd
          · exact dep_listed ho hdep hd
          · exact hh2 9 (by omega) (by omega) (dep_listed ho hdep hd)
          · exact hh2 10 (by omega) (by omega) (dep_listed ho hdep hd)
          · exact hh2 11 (by omega) (by omega) (dep_listed ho hdep hd)
        · rw [if_neg hjj] at h3
          exact hh2 j' h1 h2 h3
    have same : ∀ {j' : Nat} {o' : Oper}, rputOps[j']? = some o' → j = j' → o' = o := fun {j' o'} h' e => by subst e; exact Option.some.inj (h'.symm.trans ho)
    rcases (show j = 0 ∨ j = 1 ∨ j = 2 ∨ j = 3 ∨ j = 4 ∨ j = 5 ∨ j = 6 ∨ j = 7 ∨ j = 8 ∨ j = 9 ∨ j = 10 ∨ j = 11 ∨ j = 12 ∨ j = 13 by omega) with rfl | rfl | rfl | rfl | rfl | rfl | rfl | rfl | rfl | rfl | rfl | rfl | rfl | rfl
    · obtain ⟨o', ho', hop, hdst⟩ := top0
      obtain rfl := same ho' rfl
      exact wp_move _ _ (Or.inl hop) ((h.old (t := 10) (by kernel_rfl)).trans h10) (keep (by decide))
    · obtain ⟨o', ho', hop, hdst⟩ := top1
      obtain rfl := same ho' rfl
      exact wp_move _ _ (Or.inl hop) ((h.old (t := 13) (by kernel_rfl)).trans h13) (keep (by decide))
    · obtain ⟨o', ho', hop, hdst⟩ := top2
      obtain rfl := same ho' rfl
      have e0 : a.eval (.tmp 95) = A := (h.get ho hdep (i := 0) (d := 95) (by kernel_rfl) rfl)
      have e1 : a.eval (.tmp 96) = .int .i64 k := (h.get ho hdep (i := 1) (d := 96) (by kernel_rfl) rfl)
      refine wp_run _ ?_ (keep (by decide))
      have q := hia w
      simp [execOp, hop, e0, e1, q, Result.andThen, pV2]
    · obtain ⟨o', ho', hop, hdst⟩ := top3
      obtain rfl := same ho' rfl
      have e : a.eval (.tmp 97) = .pointer (some pa) := (h.get ho hdep (i := 2) (d := 97) (by kernel_rfl) rfl)
      refine wp_run _ ?_ (keep (by decide))
      have q := hla w hk
      simp [execOp, hop, e, q, Result.andThen, pV2]
    · obtain ⟨o', ho', hop, hdst⟩ := top4
      obtain rfl := same ho' rfl
      exact wp_move _ _ (Or.inl hop) ((h.old (t := 12) (by kernel_rfl)).trans h12) (keep (by decide))
    · obtain ⟨o', ho', hop, hdst⟩ := top5
      obtain rfl := same ho' rfl
      exact wp_move _ _ (Or.inl hop) ((h.old (t := 13) (by kernel_rfl)).trans h13) (keep (by decide))
    · obtain ⟨o', ho', hop, hdst⟩ := top6
      obtain rfl := same ho' rfl
      have e0 : a.eval (.tmp 99) = C := (h.get ho hdep (i := 4) (d := 99) (by kernel_rfl) rfl)
      have e1 : a.eval (.tmp 100) = .int .i64 k := (h.get ho hdep (i := 5) (d := 100) (by kernel_rfl) rfl)
      refine wp_run _ ?_ (keep (by decide))
      have q := hic w
      simp [execOp, hop, e0, e1, q, Result.andThen, pV2]
    · obtain ⟨o', ho', hop, hdst⟩ := top7
      obtain rfl := same ho' rfl
      have e : a.eval (.tmp 101) = .pointer (some pc) := (h.get ho hdep (i := 6) (d := 101) (by kernel_rfl) rfl)
      refine wp_run _ ?_ (keep (by decide))
      have q := hlc w hk
      simp [execOp, hop, e, q, Result.andThen, pV2]
    · obtain ⟨o', ho', hop, hdst⟩ := top8
      obtain rfl := same ho' rfl
      have e0 : a.eval (.tmp 98) = .int .i64 x := (h.get ho hdep (i := 3) (d := 98) (by kernel_rfl) rfl)
      have e1 : a.eval (.tmp 102) = .int .i64 z := (h.get ho hdep (i := 7) (d := 102) (by kernel_rfl) rfl)
      have hno : ∀ j', 8 < j' → j' < 14 → listed.getD j' false = true → False := fun j' h1 h2 h3 => by
        have h4 := hh2 j' h1 h2 h3
        rw [getD_flip hun] at h4
        cases h4
      refine wp_callE _ _ _ hop #[.int .i64 x, .int .i64 z] (by simp [e0, e1]) (enters_of Tryd.func10 (by kernel_rfl) rfl) (fun v w' => ∃ u y, v = .tuple #[u, .bool y] ∧ R u y w' ∧ Kept noneB w w') ((hcall w hk).mono fun e w' ⟨u, y, he, hr, hk'⟩ => ⟨_, he, u, y, rfl, hr, hk'⟩) (fun v w' ⟨u, y, hv, hr, hk'⟩ => ⟨(u, y), fun i hi => ?_, by rw [hv]; rfl, hk.trans hk', fun _ => hr, fun j' h1 h2 h3 => by rw [listed_get hlt, if_pos rfl]⟩)
      have hi8 : i < 8 := by
        rcases Nat.lt_trichotomy i 8 with h1 | h1 | h1
        · exact h1
        · rw [h1, getD_flip hun] at hi; cases hi
        · by_cases h2 : i < 14
          · exact (hno i h1 h2 hi).elim
          · exfalso
            have hs := h.ls
            rw [rput_size] at hs
            rw [Array.getD_eq_getD_getElem?, Array.getElem?_eq_none (by omega)] at hi
            cases hi
      rcases (show i = 0 ∨ i = 1 ∨ i = 2 ∨ i = 3 ∨ i = 4 ∨ i = 5 ∨ i = 6 ∨ i = 7 by omega) with rfl | rfl | rfl | rfl | rfl | rfl | rfl | rfl <;> rfl
    · obtain ⟨o', ho', hop, hdst⟩ := top9
      obtain rfl := same ho' rfl
      have e : a.eval (.tmp 103) = .tuple #[vy.1, .bool vy.2] := (h.get ho hdep (i := 8) (d := 103) (by kernel_rfl) rfl)
      exact wp_move _ _ (Or.inl hop) e (keep (by decide))
    · obtain ⟨o', ho', hop, hdst⟩ := top10
      obtain rfl := same ho' rfl
      have e : a.eval (.tmp 94) = .tuple #[vy.1, .bool vy.2] := (h.get ho hdep (i := 9) (d := 94) (by kernel_rfl) rfl)
      refine wp_run _ ?_ (keep (by decide))
      generalize a.eval = ev at e ⊢
      simp [go_sem, execOp, hop, e, pV2]
    · obtain ⟨o', ho', hop, hdst⟩ := top11
      obtain rfl := same ho' rfl
      have e : a.eval (.tmp 94) = .tuple #[vy.1, .bool vy.2] := (h.get ho hdep (i := 9) (d := 94) (by kernel_rfl) rfl)
      refine wp_run _ ?_ (keep (by decide))
      generalize a.eval = ev at e ⊢
      simp [go_sem, execOp, hop, e, pV2]
    · obtain ⟨o', ho', hop, hdst⟩ := top12
      obtain rfl := same ho' rfl
      have e : a.eval (.tmp 104) = vy.1 := (h.get ho hdep (i := 10) (d := 104) (by kernel_rfl) rfl)
      exact wp_move _ _ (Or.inr hop) e (keep (by decide))
    · obtain ⟨o', ho', hop, hdst⟩ := top13
      obtain rfl := same ho' rfl
      have e : a.eval (.tmp 105) = .bool vy.2 := (h.get ho hdep (i := 11) (d := 105) (by kernel_rfl) rfl)
      exact wp_move _ _ (Or.inr hop) e (keep (by decide))
  · intro vy listed a w h hall
    obtain ⟨v, y⟩ := vy
    obtain ⟨hk, hh, _⟩ := h.wd
    have hR := hh (hall 8 (by rw [rput_size]; omega))
    rw [done_putAllG 152 rput_apart hsz h hall, rput_size]
    simp only [putAll, tdst0, tdst1, tdst2, tdst3, tdst4, tdst5, tdst6, tdst7, tdst8, tdst9, tdst10, tdst11, tdst12, tdst13]
    exact hQ v y w hR hk
end Go.Proofs.YtdnelijkhinpcabDoor.Head
