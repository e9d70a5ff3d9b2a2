/- The document's own Head: its two statements whose operations come in whatever order. -/
import Derived.Test.YtefgljapmncncaaDoorHeadReg
import Derived.Test.YtefgljapmncncaaDoorRegion
import Derived.Shelf.Abstract
namespace Go.Proofs.YtefgljapmncncaaDoor.Head
open Go.ChangeShapes Go.WideShapes Go.ChangeAt Go.RowKit Go.Proofs.YtefgljapmncncaaDoor.Base Go.Proofs.YtefgljapmncncaaDoor.Byt Go.Proofs.YtefgljapmncncaaDoor.Hp Go.Proofs.YtefgljapmncncaaDoor.Mp Go.Lib
set_option linter.unusedVariables false
set_option maxRecDepth 100000

def dstAt (ops : Array Oper) (i : Nat) : Option Nat := (ops[i]?).bind fun o => o.dst
/-- all operations' values, written one after the other -/
def putAll (ops : Array Oper) (V : Nat → Value) (a0 : Act) : Nat → Act
  | 0 => a0
  | n + 1 => (putAll ops V a0 n).put (dstAt ops n) (V n)
theorem put_none (a : Act) (v : Value) : a.put none v = a := rfl
theorem putAll_size (ops : Array Oper) (V : Nat → Value) (a0 : Act) : ∀ n, (putAll ops V a0 n).tmps.size = a0.tmps.size
  | 0 => rfl
  | n + 1 => by rw [putAll, put_size, putAll_size ops V a0 n]
theorem putAll_defers (ops : Array Oper) (V : Nat → Value) (a0 : Act) : ∀ n, (putAll ops V a0 n).defers = a0.defers
  | 0 => rfl
  | n + 1 => by rw [putAll, put_defers, putAll_defers ops V a0 n]
theorem put_eval_ne {a : Act} {d : Option Nat} {t : Nat} (v : Value) (h : d ≠ some t) : (a.put d v).eval (.tmp t) = a.eval (.tmp t) := by
  cases d with
  | none => rfl
  | some d =>
    have hne : ¬ d = t := fun e => h (by rw [e])
    show ((a.tmps.setIfInBounds d v).getD t undef) = a.tmps.getD t undef
    simp [Array.getElem?_setIfInBounds_ne hne]
theorem putAll_none (ops : Array Oper) (V : Nat → Value) (a0 : Act) (t : Nat) : ∀ n, (∀ j, j < n → dstAt ops j ≠ some t) → (putAll ops V a0 n).eval (.tmp t) = a0.eval (.tmp t)
  | 0, _ => rfl
  | n + 1, h => by
    rw [putAll, put_eval_ne _ (h n (by omega))]
    exact putAll_none ops V a0 t n fun j hj => h j (by omega)
theorem putAll_some {ops : Array Oper} (V : Nat → Value) (a0 : Act) {t : Nat} (ht : t < a0.tmps.size) {i : Nat} (hi : dstAt ops i = some t) (hu : ∀ j, dstAt ops j = some t → j = i) : ∀ n, i < n → (putAll ops V a0 n).eval (.tmp t) = V i
  | 0, h => absurd h (by omega)
  | n + 1, h => by
    rw [putAll]
    by_cases hn : n = i
    · subst hn
      rw [hi, put_eval _ (by rw [putAll_size]; exact ht), if_pos rfl]
    · rw [put_eval_ne _ (fun e => hn (hu n e))]
      exact putAll_some V a0 ht hi hu n (by omega)
theorem act_ext {a b : Act} (hs : a.tmps.size = b.tmps.size) (hd : a.defers = b.defers) (h : ∀ t, a.eval (.tmp t) = b.eval (.tmp t)) : a = b := by
  obtain ⟨ta, da⟩ := a
  obtain ⟨tb, db⟩ := b
  obtain rfl : da = db := hd
  congr 1
  apply Array.ext hs
  intro i h1 h2
  have := h i
  change ta.getD i undef = tb.getD i undef at this
  rw [Array.getD_eq_getD_getElem?, Array.getD_eq_getD_getElem?, Array.getElem?_eq_getElem h1, Array.getElem?_eq_getElem h2] at this
  exact this
theorem done_putAll {ops : Array Oper} {V : Nat → Value} {a0 a : Act} {W : Array Bool → World → Prop} {listed : Array Bool} {w : World} (n : Nat) (hap : apartB ops n = true) (hn : n ≤ a0.tmps.size) (h : RI ops V a0 W listed a w) (hall : ∀ j, j < ops.size → listed.getD j false = true) : a = putAll ops V a0 ops.size := by
  have sp := apartB_spec hap
  refine act_ext (by rw [h.ts, putAll_size]) (by rw [h.df, putAll_defers]) fun t => ?_
  by_cases hex : ∃ i, dstAt ops i = some t
  · obtain ⟨i, hi⟩ := hex
    cases ho : ops[i]? with
    | none => rw [dstAt, ho] at hi; cases hi
    | some o =>
      have hd : o.dst = some t := by rw [dstAt, ho] at hi; exact hi
      have hlt := (Array.getElem?_eq_some_iff.1 ho).1
      obtain ⟨h1, h2⟩ := (sp i o ho).2.2 t hd
      rw [h.done i o t ho hd (hall i hlt), putAll_some V a0 (Nat.lt_of_lt_of_le h1 hn) hi (fun j hj => by
        cases hoj : ops[j]? with
        | none => rw [dstAt, hoj] at hj; cases hj
        | some oj => exact h2 j oj hoj (by rw [dstAt, hoj] at hj; exact hj)) _ hlt]
  · rw [putAll_none ops V a0 t _ fun j _ e => hex ⟨j, e⟩]
    exact h.same t fun j o ho hd => absurd ⟨j, by rw [dstAt, ho]; exact hd⟩ hex
theorem slice_at (b o c l h : Nat) (hl : l ≤ h) (h5 : h ≤ 512) (hc : 512 ≤ c) (hl5 : l < 512) (w : World) :
    (Instr.sliceAt 22 (.slice (some ⟨b, o, none⟩) 512 c) (some (.int .i64 (l : Int))) (some (.int .i64 (h : Int))) none).run Tryd.prog w = .ok (.slice (some ⟨b, o + l, none⟩) (h - l) (c - l)) w := by
  have fl := Tryd.underlying22
  have h1 : (l : Int) ≤ h := by omega
  have h2 : (h : Int) ≤ c := by omega
  have h3 : ¬ c = l := by omega
  simp [go_sem, Instr.sliceAt, Instr.slice, Instr.sliceBounds, Result.andThen, h1, h2, h3, Addr.add]
theorem slice_to (b o c h : Nat) (h5 : h ≤ 512) (hc : 512 ≤ c) (w : World) :
    (Instr.sliceAt 22 (.slice (some ⟨b, o, none⟩) 512 c) none (some (.int .i64 (h : Int))) none).run Tryd.prog w = .ok (.slice (some ⟨b, o, none⟩) h c) w := by
  have fl := Tryd.underlying22
  have h2 : (h : Int) ≤ c := by omega
  simp [go_sem, Instr.sliceAt, Instr.slice, Instr.sliceBounds, Result.andThen, h2, Addr.add]
noncomputable def refOps : Array Oper := regionAt Tryd.f11 9
/-- what each operation yields -/
def rV (S S1 S2 : Value) (pt : Addr) (mg x0 x1 : ByteArray) (gnu : Bool) (kd : Int) (g : Nat) : Nat → Value
  | 0 => .string mg | 1 => .bool gnu | 2 => S | 3 => .pointer (some pt) | 4 => .int .u8 kd | 5 => S | 6 => S1 | 7 => .string x0 | 8 => S | 9 => S2 | 10 => .string x1
  | 11 => .agg #[.string x0, .string x1, .int .u8 kd, .int .i64 0, .int .i64 0, .int .i64 0, .int .i64 0, .int .i64 0, .bool gnu] | 12 => .pointer (some ⟨g, 0, none⟩) | _ => undef
theorem ref_size : refOps.size = 14 := rfl
theorem ref_apart : apartB refOps 118 = true := by kernel_rfl
theorem rdst0 : dstAt refOps 0 = some 43 := rfl
theorem rop0 : ∃ o, refOps[0]? = some o ∧ o.op = .move (.tmp 6) ∧ o.dst = some 43 := ⟨_, rfl, rfl, rfl⟩
theorem rdst1 : dstAt refOps 1 = some 44 := rfl
theorem rop1 : ∃ o, refOps[1]? = some o ∧ o.op = .binOp .eql 9 (.tmp 43) (.const (.string ⟨#[117, 115, 116, 97, 114, 32, 32, 0]⟩)) 9 ∧ o.dst = some 44 := ⟨_, rfl, rfl, rfl⟩
theorem rdst2 : dstAt refOps 2 = some 45 := rfl
theorem rop2 : ∃ o, refOps[2]? = some o ∧ o.op = .move (.tmp 0) ∧ o.dst = some 45 := ⟨_, rfl, rfl, rfl⟩
theorem rdst3 : dstAt refOps 3 = some 46 := rfl
theorem rop3 : ∃ o, refOps[3]? = some o ∧ o.op = .indexAddr 22 (.tmp 45) (.const (.int .i64 156)) ∧ o.dst = some 46 := ⟨_, rfl, rfl, rfl⟩
theorem rdst4 : dstAt refOps 4 = some 47 := rfl
theorem rop4 : ∃ o, refOps[4]? = some o ∧ o.op = .load 5 (.tmp 46) ∧ o.dst = some 47 := ⟨_, rfl, rfl, rfl⟩
theorem rdst5 : dstAt refOps 5 = some 48 := rfl
theorem rop5 : ∃ o, refOps[5]? = some o ∧ o.op = .move (.tmp 0) ∧ o.dst = some 48 := ⟨_, rfl, rfl, rfl⟩
theorem rdst6 : dstAt refOps 6 = some 49 := rfl
theorem rop6 : ∃ o, refOps[6]? = some o ∧ o.op = .slice 22 (.tmp 48) none (some (.const (.int .i64 100))) none ∧ o.dst = some 49 := ⟨_, rfl, rfl, rfl⟩
theorem rdst7 : dstAt refOps 7 = some 50 := rfl
theorem rop7 : ∃ o, refOps[7]? = some o ∧ o.op = .call { callee := .value (.func 27), args := #[.tmp 49], argTypes := #[22] } ∧ o.dst = some 50 := ⟨_, rfl, rfl, rfl⟩
theorem rdst8 : dstAt refOps 8 = some 51 := rfl
theorem rop8 : ∃ o, refOps[8]? = some o ∧ o.op = .move (.tmp 0) ∧ o.dst = some 51 := ⟨_, rfl, rfl, rfl⟩
theorem rdst9 : dstAt refOps 9 = some 52 := rfl
theorem rop9 : ∃ o, refOps[9]? = some o ∧ o.op = .slice 22 (.tmp 51) (some (.const (.int .i64 157))) (some (.const (.int .i64 257))) none ∧ o.dst = some 52 := ⟨_, rfl, rfl, rfl⟩
theorem rdst10 : dstAt refOps 10 = some 53 := rfl
theorem rop10 : ∃ o, refOps[10]? = some o ∧ o.op = .call { callee := .value (.func 27), args := #[.tmp 52], argTypes := #[22] } ∧ o.dst = some 53 := ⟨_, rfl, rfl, rfl⟩
theorem rdst11 : dstAt refOps 11 = some 54 := rfl
theorem rop11 : ∃ o, refOps[11]? = some o ∧ o.op = .build 27 #[(5, .tmp 44), (2, .tmp 47), (0, .tmp 50), (1, .tmp 53)] ∧ o.dst = some 54 := ⟨_, rfl, rfl, rfl⟩
theorem rdst12 : dstAt refOps 12 = some 7 := rfl
theorem rop12 : ∃ o, refOps[12]? = some o ∧ o.op = .alloc 27 ∧ o.dst = some 7 := ⟨_, rfl, rfl, rfl⟩
theorem rdst13 : dstAt refOps 13 = none := rfl
theorem rop13 : ∃ o, refOps[13]? = some o ∧ o.op = .store 27 (.tmp 7) (.tmp 54) ∧ o.dst = none := ⟨_, rfl, rfl, rfl⟩
theorem dep_listed {ops : Array Oper} {listed : Array Bool} {j i : Nat} {o : Oper} (ho : ops[j]? = some o) (hdep : ∀ e ∈ o.after, Region.binds .any e = true → listed.getD e.on false = true) (hd : hasDep ops j i = true) : listed.getD i false = true := by
  unfold hasDep at hd
  rw [ho] at hd
  obtain ⟨e, he, hb⟩ := Array.any_eq_true'.1 (show o.after.any _ = true from hd)
  simp only [Bool.and_eq_true, beq_iff_eq] at hb
  have hl := hdep e he hb.2
  rwa [hb.1] at hl
theorem r_build_part (w : World) (n l : ByteArray) (k : Int) (g : Bool) : (Instr.build 27 #[(5, .bool g), (2, .int .u8 k), (0, .string n), (1, .string l)]).run Tryd.prog w = .ok (.agg #[.string n, .string l, .int .u8 k, .int .i64 0, .int .i64 0, .int .i64 0, .int .i64 0, .int .i64 0, .bool g]) w := by kernel_rfl
theorem alloc_head (w : World) : (Instr.alloc 27 true (.tuple #[])).run Tryd.prog w = .ok (.pointer (some ⟨w.heap.size, 0, none⟩)) (w.alloc (.cells zeroCs 27)) := by kernel_rfl
set_option maxHeartbeats 1000000 in
theorem ref_region {Q' : Exit → Act → World → Prop} {a0 : Act} {w3 : World} (g : Nat) (S S1 S2 : Value) (pt : Addr) (mg x0 x1 : ByteArray) (gnu : Bool) (kd : Int)
    (hsz : 118 ≤ a0.tmps.size) (h0 : a0.eval (.tmp 0) = S) (h6 : a0.eval (.tmp 6) = .string mg) (hg : g = w3.heap.size)
    (hix : ∀ w, (Instr.indexAt 22 S (.int .i64 156)).run Tryd.prog w = .ok (.pointer (some pt)) w)
    (hld : ∀ w, Kept noneB w3 w → (Instr.loadAt 5 (.pointer (some pt))).run Tryd.prog w = .ok (.int .u8 kd) w)
    (hs1 : ∀ w, (Instr.sliceAt 22 S none (some (.int .i64 100)) none).run Tryd.prog w = .ok S1 w)
    (hs2 : ∀ w, (Instr.sliceAt 22 S (some (.int .i64 157)) (some (.int .i64 257)) none).run Tryd.prog w = .ok S2 w)
    (hu1 : ∀ w, Kept noneB w3 w → Calls Tryd.prog 27 #[S1] w fun e w' => e = .returned (.string x0) ∧ w = w')
    (hu2 : ∀ w, Kept noneB w3 w → Calls Tryd.prog 27 #[S2] w fun e w' => e = .returned (.string x1) ∧ w = w')
    (hgn : (mg.toList == [117, 115, 116, 97, 114, 32, 32, 0]) = gnu)
    (hQ : ∀ w', w'.heap[g]? = some (.cells #[.string x0, .string x1, .int .u8 kd, .int .i64 0, .int .i64 0, .int .i64 0, .int .i64 0, .int .i64 0, .bool gnu] 27 (0, 0)) → Kept noneB w3 w' → Q' .normal (((((((((((((a0.put (some 43) (.string mg)).put (some 44) (.bool gnu)).put (some 45) (S)).put (some 46) (.pointer (some pt))).put (some 47) (.int .u8 kd)).put (some 48) (S)).put (some 49) (S1)).put (some 50) (.string x0)).put (some 51) (S)).put (some 52) (S2)).put (some 53) (.string x1)).put (some 54) (.agg #[.string x0, .string x1, .int .u8 kd, .int .i64 0, .int .i64 0, .int .i64 0, .int .i64 0, .int .i64 0, .bool gnu])).put (some 7) (.pointer (some ⟨g, 0, none⟩))) w') :
    wpAny Tryd.prog .any refOps Q' refOps.size (Array.replicate refOps.size false) a0 w3.drew := by
  have no : ∀ j, (Array.replicate refOps.size false).getD j false = false := fun j => by
    rw [Array.getD_eq_getD_getElem?, Array.getElem?_replicate]
    split <;> rfl
  obtain ⟨C, hC⟩ : ∃ C : Array Value, C = #[.string x0, .string x1, .int .u8 kd, .int .i64 0, .int .i64 0, .int .i64 0, .int .i64 0, .int .i64 0, .bool gnu] := ⟨_, rfl⟩
  refine wpAny_vals (rV S S1 S2 pt mg x0 x1 gnu kd g) a0 (fun listed w => Kept noneB w3 w ∧ (listed.getD 12 false = false → w.heap.size = g) ∧ (listed.getD 12 false = true → w.heap[g]? = some (.cells (if listed.getD 13 false = true then C else zeroCs) 27 (0, 0))) ∧ (listed.getD 13 false = true → listed.getD 12 false = true)) 118 ref_apart hsz ?_ ?_
    ⟨(Kept.refl _ w3).drew, fun _ => hg.symm, fun h => (by rw [no] at h; cases h), fun h => (by rw [no] at h; cases h)⟩
  · intro listed a w j o h ho hun hdep
    have hlt := lt_of_unlisted hun
    obtain ⟨hk, hh1, hh2, hh3⟩ := h.wd
    have keep : j ≠ 12 → j ≠ 13 → Kept noneB w3 w ∧ ((listed.setIfInBounds j true).getD 12 false = false → w.heap.size = g) ∧ ((listed.setIfInBounds j true).getD 12 false = true → w.heap[g]? = some (.cells (if (listed.setIfInBounds j true).getD 13 false = true then C else zeroCs) 27 (0, 0))) ∧ ((listed.setIfInBounds j true).getD 13 false = true → (listed.setIfInBounds j true).getD 12 false = true) := fun hj hj' => by
      rw [listed_get hlt, if_neg (Ne.symm hj), listed_get hlt, if_neg (Ne.symm hj')]
      exact ⟨hk, hh1, hh2, hh3⟩
    have hj14 : j < 14 := by
      have := (Array.getElem?_eq_some_iff.1 ho).1
      rwa [ref_size] at this
    have same : ∀ {j' : Nat} {o' : Oper}, refOps[j']? = some o' → j = j' → o' = o := fun {j' o'} h' e => by subst e; exact Option.some.inj (h'.symm.trans ho)
    rcases (show j = 0 ∨ j = 1 ∨ j = 2 ∨ j = 3 ∨ j = 4 ∨ j = 5 ∨ j = 6 ∨ j = 7 ∨ j = 8 ∨ j = 9 ∨ j = 10 ∨ j = 11 ∨ j = 12 ∨ j = 13 by omega) with rfl | rfl | rfl | rfl | rfl | rfl | rfl | rfl | rfl | rfl | rfl | rfl | rfl | rfl
    · obtain ⟨o', ho', hop, hdst⟩ := rop0
      obtain rfl := same ho' rfl
      exact wp_move _ _ (Or.inl hop) ((h.old (t := 6) (by kernel_rfl)).trans h6) ⟨rfl, (keep (by decide) (by decide))⟩
    · obtain ⟨o', ho', hop, hdst⟩ := rop1
      obtain rfl := same ho' rfl
      have e : a.eval (.tmp 43) = .string mg := (h.get ho hdep (i := 0) (d := 43) (by kernel_rfl) rfl)
      refine wp_run (.bool gnu) ?_ ⟨rfl, (keep (by decide) (by decide))⟩
      have ec : a.eval (.const (.string ⟨#[117, 115, 116, 97, 114, 32, 32, 0]⟩)) = .string ⟨#[117, 115, 116, 97, 114, 32, 32, 0]⟩ := rfl
      generalize a.eval = ev at e ec ⊢
      simp [go_sem, execOp, hop, e, ec, hgn]
    · obtain ⟨o', ho', hop, hdst⟩ := rop2
      obtain rfl := same ho' rfl
      exact wp_move _ _ (Or.inl hop) ((h.old (t := 0) (by kernel_rfl)).trans h0) ⟨rfl, (keep (by decide) (by decide))⟩
    · obtain ⟨o', ho', hop, hdst⟩ := rop3
      obtain rfl := same ho' rfl
      have e : a.eval (.tmp 45) = S := (h.get ho hdep (i := 2) (d := 45) (by kernel_rfl) rfl)
      refine wp_run _ ?_ ⟨rfl, (keep (by decide) (by decide))⟩
      have q := hix w
      simp [execOp, hop, e, evalC, q, Result.andThen, rV]
    · obtain ⟨o', ho', hop, hdst⟩ := rop4
      obtain rfl := same ho' rfl
      have e : a.eval (.tmp 46) = .pointer (some pt) := (h.get ho hdep (i := 3) (d := 46) (by kernel_rfl) rfl)
      refine wp_run _ ?_ ⟨rfl, (keep (by decide) (by decide))⟩
      have q := hld w hk
      simp [execOp, hop, e, q, Result.andThen, rV]
    · obtain ⟨o', ho', hop, hdst⟩ := rop5
      obtain rfl := same ho' rfl
      exact wp_move _ _ (Or.inl hop) ((h.old (t := 0) (by kernel_rfl)).trans h0) ⟨rfl, (keep (by decide) (by decide))⟩
    · obtain ⟨o', ho', hop, hdst⟩ := rop6
      obtain rfl := same ho' rfl
      have e : a.eval (.tmp 48) = S := (h.get ho hdep (i := 5) (d := 48) (by kernel_rfl) rfl)
      refine wp_run _ ?_ ⟨rfl, (keep (by decide) (by decide))⟩
      have q := hs1 w
      simp [execOp, hop, e, evalC, q, Result.andThen, rV]
    · obtain ⟨o', ho', hop, hdst⟩ := rop7
      obtain rfl := same ho' rfl
      have e0 : a.eval (.tmp 49) = S1 := (h.get ho hdep (i := 6) (d := 49) (by kernel_rfl) rfl)
      exact wp_call _ _ _ hop #[S1] (by simp [e0]) (enters_of Tryd.func27 (by kernel_rfl) rfl) (.string x0) (fun w' => w = w') (hu1 w hk) (fun w' hw => by subst hw; exact ⟨rfl, (keep (by decide) (by decide))⟩)
    · obtain ⟨o', ho', hop, hdst⟩ := rop8
      obtain rfl := same ho' rfl
      exact wp_move _ _ (Or.inl hop) ((h.old (t := 0) (by kernel_rfl)).trans h0) ⟨rfl, (keep (by decide) (by decide))⟩
    · obtain ⟨o', ho', hop, hdst⟩ := rop9
      obtain rfl := same ho' rfl
      have e : a.eval (.tmp 51) = S := (h.get ho hdep (i := 8) (d := 51) (by kernel_rfl) rfl)
      refine wp_run _ ?_ ⟨rfl, (keep (by decide) (by decide))⟩
      have q := hs2 w
      simp [execOp, hop, e, evalC, q, Result.andThen, rV]
    · obtain ⟨o', ho', hop, hdst⟩ := rop10
      obtain rfl := same ho' rfl
      have e0 : a.eval (.tmp 52) = S2 := (h.get ho hdep (i := 9) (d := 52) (by kernel_rfl) rfl)
      exact wp_call _ _ _ hop #[S2] (by simp [e0]) (enters_of Tryd.func27 (by kernel_rfl) rfl) (.string x1) (fun w' => w = w') (hu2 w hk) (fun w' hw => by subst hw; exact ⟨rfl, (keep (by decide) (by decide))⟩)
    · obtain ⟨o', ho', hop, hdst⟩ := rop11
      obtain rfl := same ho' rfl
      have e0 : a.eval (.tmp 44) = .bool gnu := (h.get ho hdep (i := 1) (d := 44) (by kernel_rfl) rfl)
      have e1 : a.eval (.tmp 47) = .int .u8 kd := (h.get ho hdep (i := 4) (d := 47) (by kernel_rfl) rfl)
      have e2 : a.eval (.tmp 50) = .string x0 := (h.get ho hdep (i := 7) (d := 50) (by kernel_rfl) rfl)
      have e3 : a.eval (.tmp 53) = .string x1 := (h.get ho hdep (i := 10) (d := 53) (by kernel_rfl) rfl)
      refine wp_run _ ?_ ⟨rfl, (keep (by decide) (by decide))⟩
      have b := r_build_part w x0 x1 kd gnu
      simp [execOp, hop, e0, e1, e2, e3, b, Result.andThen, rV]
    · obtain ⟨o', ho', hop, hdst⟩ := rop12
      obtain rfl := same ho' rfl
      have q := alloc_head w
      rw [hh1 (getD_flip hun)] at q
      have hno13 : listed.getD 13 false = false := by
        cases hx : listed.getD 13 false with
        | false => rfl
        | true =>
          have h1 := hh3 hx
          rw [getD_flip hun] at h1
          cases h1
      have hr : (execOp a.eval o').run Tryd.prog w = .ok (.value (.pointer (some ⟨g, 0, none⟩))) (w.alloc (.cells zeroCs 27)) := by simp [execOp, hop, q, Result.andThen]
      unfold Oper.wp
      rw [hr, Oper.upon_value]
      refine ⟨rfl, hk.alloc _, fun hx => ?_, fun _ => ?_, fun _ => by rw [listed_get hlt, if_pos rfl]⟩
      · rw [listed_get hlt, if_pos rfl] at hx
        cases hx
      · rw [listed_get hlt, if_neg (show ¬ (13 = 12) by decide), hno13, if_neg (by decide), ← hh1 (getD_flip hun)]
        exact heap_alloc_new w _
    · obtain ⟨o', ho', hop, hdst⟩ := rop13
      obtain rfl := same ho' rfl
      have e0 : a.eval (.tmp 7) = .pointer (some ⟨g, 0, none⟩) := (h.get ho hdep (i := 12) (d := 7) (by kernel_rfl) rfl)
      have e1 : a.eval (.tmp 54) = rV S S1 S2 pt mg x0 x1 gnu kd g 11 := (h.get ho hdep (i := 11) (d := 54) (by kernel_rfl) rfl)
      have l12 : listed.getD 12 false = true := dep_listed ho hdep (by kernel_rfl)
      have hz := hh2 l12
      rw [if_neg (by rw [getD_flip hun]; decide)] at hz
      refine wp_store9 _ _ hop g e0 x0 x1 kd 0 0 0 0 0 gnu e1 hz (fun w' hw' hk' => ⟨rfl, ?_, fun hx => ?_, fun _ => ?_, fun _ => by rw [listed_get hlt, if_neg (by decide)]; exact l12⟩)
      · exact hk.then hk' (fun i hi => Or.inl (by
          have h1 : i = g := hi
          rw [h1, hg]
          exact Nat.le_refl _))
      · rw [listed_get hlt, if_neg (by decide), l12] at hx
        cases hx
      · rw [listed_get hlt, if_pos rfl, if_pos rfl, hC]
        exact hw'
  · intro listed a w h hall
    have all : ∀ j, j < 14 → listed.getD j false = true := fun j hj => hall j (by rw [ref_size]; exact hj)
    obtain ⟨hk, _, hh, _⟩ := h.wd
    have hh := hh (all 12 (by omega))
    rw [all 13 (by omega), if_pos rfl] at hh
    rw [hC] at hh
    rw [done_putAll 118 ref_apart hsz h hall, ref_size]
    simp only [putAll, put_none, rdst0, rdst1, rdst2, rdst3, rdst4, rdst5, rdst6, rdst7, rdst8, rdst9, rdst10, rdst11, rdst12, rdst13]
    exact hQ w hh hk
noncomputable def refOps2 : Array Oper := regionAt Tryd.f11 16
def rV2 (S S1 S2 S3 S4 S5 : Value) (g : Nat) : Nat → Value
  | 0 => S | 1 => S1 | 2 => S | 3 => S2 | 4 => S | 5 => S3 | 6 => S | 7 => S4 | 8 => S | 9 => S5 | 10 => .slice (some ⟨g, 0, none⟩) 5 5 | 11 => .slice (some ⟨g, 0, none⟩) 5 5 | _ => undef
theorem ref2_size : refOps2.size = 12 := rfl
theorem ref2_apart : apartB refOps2 118 = true := by kernel_rfl
theorem qdst0 : dstAt refOps2 0 = some 75 := rfl
theorem qop0 : ∃ o, refOps2[0]? = some o ∧ o.op = .move (.tmp 0) ∧ o.dst = some 75 := ⟨_, rfl, rfl, rfl⟩
theorem qdst1 : dstAt refOps2 1 = some 76 := rfl
theorem qop1 : ∃ o, refOps2[1]? = some o ∧ o.op = .slice 22 (.tmp 75) (some (.const (.int .i64 100))) (some (.const (.int .i64 108))) none ∧ o.dst = some 76 := ⟨_, rfl, rfl, rfl⟩
theorem qdst2 : dstAt refOps2 2 = some 77 := rfl
theorem qop2 : ∃ o, refOps2[2]? = some o ∧ o.op = .move (.tmp 0) ∧ o.dst = some 77 := ⟨_, rfl, rfl, rfl⟩
theorem qdst3 : dstAt refOps2 3 = some 78 := rfl
theorem qop3 : ∃ o, refOps2[3]? = some o ∧ o.op = .slice 22 (.tmp 77) (some (.const (.int .i64 108))) (some (.const (.int .i64 116))) none ∧ o.dst = some 78 := ⟨_, rfl, rfl, rfl⟩
theorem qdst4 : dstAt refOps2 4 = some 79 := rfl
theorem qop4 : ∃ o, refOps2[4]? = some o ∧ o.op = .move (.tmp 0) ∧ o.dst = some 79 := ⟨_, rfl, rfl, rfl⟩
theorem qdst5 : dstAt refOps2 5 = some 80 := rfl
theorem qop5 : ∃ o, refOps2[5]? = some o ∧ o.op = .slice 22 (.tmp 79) (some (.const (.int .i64 116))) (some (.const (.int .i64 124))) none ∧ o.dst = some 80 := ⟨_, rfl, rfl, rfl⟩
theorem qdst6 : dstAt refOps2 6 = some 81 := rfl
theorem qop6 : ∃ o, refOps2[6]? = some o ∧ o.op = .move (.tmp 0) ∧ o.dst = some 81 := ⟨_, rfl, rfl, rfl⟩
theorem qdst7 : dstAt refOps2 7 = some 82 := rfl
theorem qop7 : ∃ o, refOps2[7]? = some o ∧ o.op = .slice 22 (.tmp 81) (some (.const (.int .i64 136))) (some (.const (.int .i64 148))) none ∧ o.dst = some 82 := ⟨_, rfl, rfl, rfl⟩
theorem qdst8 : dstAt refOps2 8 = some 83 := rfl
theorem qop8 : ∃ o, refOps2[8]? = some o ∧ o.op = .move (.tmp 0) ∧ o.dst = some 83 := ⟨_, rfl, rfl, rfl⟩
theorem qdst9 : dstAt refOps2 9 = some 84 := rfl
theorem qop9 : ∃ o, refOps2[9]? = some o ∧ o.op = .slice 22 (.tmp 83) (some (.const (.int .i64 124))) (some (.const (.int .i64 136))) none ∧ o.dst = some 84 := ⟨_, rfl, rfl, rfl⟩
theorem qdst10 : dstAt refOps2 10 = some 85 := rfl
theorem qop10 : ∃ o, refOps2[10]? = some o ∧ o.op = .buildSlice 60 5 #[(0, .tmp 76), (1, .tmp 78), (2, .tmp 80), (3, .tmp 82), (4, .tmp 84)] ∧ o.dst = some 85 := ⟨_, rfl, rfl, rfl⟩
theorem qdst11 : dstAt refOps2 11 = some 10 := rfl
theorem qop11 : ∃ o, refOps2[11]? = some o ∧ o.op = .assign (.tmp 85) ∧ o.dst = some 10 := ⟨_, rfl, rfl, rfl⟩
theorem build5 (w : World) (p1 p2 p3 p4 p5 : Option Addr) (n1 c1 n2 c2 n3 c3 n4 c4 n5 c5 : Nat) : (Instr.buildSlice 60 5 #[(0, .slice p1 n1 c1), (1, .slice p2 n2 c2), (2, .slice p3 n3 c3), (3, .slice p4 n4 c4), (4, .slice p5 n5 c5)]).run Tryd.prog w = .ok (.slice (some ⟨w.heap.size, 0, none⟩) 5 5) (w.alloc (.cells #[.slice p1 n1 c1, .slice p2 n2 c2, .slice p3 n3 c3, .slice p4 n4 c4, .slice p5 n5 c5] 22)) := by kernel_rfl
set_option maxHeartbeats 1000000 in
theorem ref_region2 {Q' : Exit → Act → World → Prop} {a0 : Act} {w3 : World} (g : Nat) (S S1 S2 S3 S4 S5 : Value)
    (hsz : 118 ≤ a0.tmps.size) (h0 : a0.eval (.tmp 0) = S) (hg : g = w3.heap.size)
    (hs1 : ∀ w, (Instr.sliceAt 22 S (some (.int .i64 100)) (some (.int .i64 108)) none).run Tryd.prog w = .ok S1 w)
    (hs2 : ∀ w, (Instr.sliceAt 22 S (some (.int .i64 108)) (some (.int .i64 116)) none).run Tryd.prog w = .ok S2 w)
    (hs3 : ∀ w, (Instr.sliceAt 22 S (some (.int .i64 116)) (some (.int .i64 124)) none).run Tryd.prog w = .ok S3 w)
    (hs4 : ∀ w, (Instr.sliceAt 22 S (some (.int .i64 136)) (some (.int .i64 148)) none).run Tryd.prog w = .ok S4 w)
    (hs5 : ∀ w, (Instr.sliceAt 22 S (some (.int .i64 124)) (some (.int .i64 136)) none).run Tryd.prog w = .ok S5 w)
    (hb : ∀ w, (Instr.buildSlice 60 5 #[(0, S1), (1, S2), (2, S3), (3, S4), (4, S5)]).run Tryd.prog w = .ok (.slice (some ⟨w.heap.size, 0, none⟩) 5 5) (w.alloc (.cells #[S1, S2, S3, S4, S5] 22)))
    (hQ : ∀ w', w'.heap[g]? = some (.cells #[S1, S2, S3, S4, S5] 22 (0, 0)) → Kept noneB w3 w' → Q' .normal ((((((((((((a0.put (some 75) (S)).put (some 76) (S1)).put (some 77) (S)).put (some 78) (S2)).put (some 79) (S)).put (some 80) (S3)).put (some 81) (S)).put (some 82) (S4)).put (some 83) (S)).put (some 84) (S5)).put (some 85) (.slice (some ⟨g, 0, none⟩) 5 5)).put (some 10) (.slice (some ⟨g, 0, none⟩) 5 5)) w') :
    wpAny Tryd.prog .any refOps2 Q' refOps2.size (Array.replicate refOps2.size false) a0 w3.drew := by
  have no : ∀ j, (Array.replicate refOps2.size false).getD j false = false := fun j => by
    rw [Array.getD_eq_getD_getElem?, Array.getElem?_replicate]
    split <;> rfl
  obtain ⟨C, hC⟩ : ∃ C : Array Value, C = #[S1, S2, S3, S4, S5] := ⟨_, rfl⟩
  rw [← hC] at hQ hb
  refine wpAny_vals (rV2 S S1 S2 S3 S4 S5 g) a0 (fun listed w => Kept noneB w3 w ∧ (listed.getD 10 false = false → w.heap.size = g) ∧ (listed.getD 10 false = true → w.heap[g]? = some (.cells C 22 (0, 0)))) 118 ref2_apart hsz ?_ ?_
    ⟨(Kept.refl _ w3).drew, fun _ => hg.symm, fun h => (by rw [no] at h; cases h)⟩
  · intro listed a w j o h ho hun hdep
    have hlt := lt_of_unlisted hun
    obtain ⟨hk, hh1, hh2⟩ := h.wd
    have keep : j ≠ 10 → Kept noneB w3 w ∧ ((listed.setIfInBounds j true).getD 10 false = false → w.heap.size = g) ∧ ((listed.setIfInBounds j true).getD 10 false = true → w.heap[g]? = some (.cells C 22 (0, 0))) := fun hj => by
      rw [listed_get hlt, if_neg (Ne.symm hj)]
      exact ⟨hk, hh1, hh2⟩
    have hj12 : j < 12 := by
      have := (Array.getElem?_eq_some_iff.1 ho).1
      rwa [ref2_size] at this
    have same : ∀ {j' : Nat} {o' : Oper}, refOps2[j']? = some o' → j = j' → o' = o := fun {j' o'} h' e => by subst e; exact Option.some.inj (h'.symm.trans ho)
    rcases (show j = 0 ∨ j = 1 ∨ j = 2 ∨ j = 3 ∨ j = 4 ∨ j = 5 ∨ j = 6 ∨ j = 7 ∨ j = 8 ∨ j = 9 ∨ j = 10 ∨ j = 11 by omega) with rfl | rfl | rfl | rfl | rfl | rfl | rfl | rfl | rfl | rfl | rfl | rfl
    · obtain ⟨o', ho', hop, hdst⟩ := qop0
      obtain rfl := same ho' rfl
      exact wp_move _ _ (Or.inl hop) ((h.old (t := 0) (by kernel_rfl)).trans h0) ⟨rfl, (keep (by decide))⟩
    · obtain ⟨o', ho', hop, hdst⟩ := qop1
      obtain rfl := same ho' rfl
      have e : a.eval (.tmp 75) = S := (h.get ho hdep (i := 0) (d := 75) (by kernel_rfl) rfl)
      refine wp_run _ ?_ ⟨rfl, (keep (by decide))⟩
      have q := hs1 w
      simp [execOp, hop, e, evalC, q, Result.andThen, rV2]
    · obtain ⟨o', ho', hop, hdst⟩ := qop2
      obtain rfl := same ho' rfl
      exact wp_move _ _ (Or.inl hop) ((h.old (t := 0) (by kernel_rfl)).trans h0) ⟨rfl, (keep (by decide))⟩
    · obtain ⟨o', ho', hop, hdst⟩ := qop3
      obtain rfl := same ho' rfl
      have e : a.eval (.tmp 77) = S := (h.get ho hdep (i := 2) (d := 77) (by kernel_rfl) rfl)
      refine wp_run _ ?_ ⟨rfl, (keep (by decide))⟩
      have q := hs2 w
      simp [execOp, hop, e, evalC, q, Result.andThen, rV2]
    · obtain ⟨o', ho', hop, hdst⟩ := qop4
      obtain rfl := same ho' rfl
      exact wp_move _ _ (Or.inl hop) ((h.old (t := 0) (by kernel_rfl)).trans h0) ⟨rfl, (keep (by decide))⟩
    · obtain ⟨o', ho', hop, hdst⟩ := qop5
      obtain rfl := same ho' rfl
      have e : a.eval (.tmp 79) = S := (h.get ho hdep (i := 4) (d := 79) (by kernel_rfl) rfl)
      refine wp_run _ ?_ ⟨rfl, (keep (by decide))⟩
      have q := hs3 w
      simp [execOp, hop, e, evalC, q, Result.andThen, rV2]
    · obtain ⟨o', ho', hop, hdst⟩ := qop6
      obtain rfl := same ho' rfl
      exact wp_move _ _ (Or.inl hop) ((h.old (t := 0) (by kernel_rfl)).trans h0) ⟨rfl, (keep (by decide))⟩
    · obtain ⟨o', ho', hop, hdst⟩ := qop7
      obtain rfl := same ho' rfl
      have e : a.eval (.tmp 81) = S := (h.get ho hdep (i := 6) (d := 81) (by kernel_rfl) rfl)
      refine wp_run _ ?_ ⟨rfl, (keep (by decide))⟩
      have q := hs4 w
      simp [execOp, hop, e, evalC, q, Result.andThen, rV2]
    · obtain ⟨o', ho', hop, hdst⟩ := qop8
      obtain rfl := same ho' rfl
      exact wp_move _ _ (Or.inl hop) ((h.old (t := 0) (by kernel_rfl)).trans h0) ⟨rfl, (keep (by decide))⟩
    · obtain ⟨o', ho', hop, hdst⟩ := qop9
      obtain rfl := same ho' rfl
      have e : a.eval (.tmp 83) = S := (h.get ho hdep (i := 8) (d := 83) (by kernel_rfl) rfl)
      refine wp_run _ ?_ ⟨rfl, (keep (by decide))⟩
      have q := hs5 w
      simp [execOp, hop, e, evalC, q, Result.andThen, rV2]
    · obtain ⟨o', ho', hop, hdst⟩ := qop10
      obtain rfl := same ho' rfl
      have e0 : a.eval (.tmp 76) = S1 := (h.get ho hdep (i := 1) (d := 76) (by kernel_rfl) rfl)
      have e1 : a.eval (.tmp 78) = S2 := (h.get ho hdep (i := 3) (d := 78) (by kernel_rfl) rfl)
      have e2 : a.eval (.tmp 80) = S3 := (h.get ho hdep (i := 5) (d := 80) (by kernel_rfl) rfl)
      have e3 : a.eval (.tmp 82) = S4 := (h.get ho hdep (i := 7) (d := 82) (by kernel_rfl) rfl)
      have e4 : a.eval (.tmp 84) = S5 := (h.get ho hdep (i := 9) (d := 84) (by kernel_rfl) rfl)
      have q := hb w
      rw [hh1 (getD_flip hun)] at q
      have hr : (execOp a.eval o').run Tryd.prog w = .ok (.value (.slice (some ⟨g, 0, none⟩) 5 5)) (w.alloc (.cells C 22)) := by simp [execOp, hop, e0, e1, e2, e3, e4, q, Result.andThen]
      unfold Oper.wp
      rw [hr, Oper.upon_value]
      refine ⟨rfl, hk.alloc _, fun hx => ?_, fun _ => ?_⟩
      · rw [listed_get hlt, if_pos rfl] at hx
        cases hx
      · rw [← hh1 (getD_flip hun)]
        exact heap_alloc_new w _
    · obtain ⟨o', ho', hop, hdst⟩ := qop11
      obtain rfl := same ho' rfl
      have e : a.eval (.tmp 85) = .slice (some ⟨g, 0, none⟩) 5 5 := (h.get ho hdep (i := 10) (d := 85) (by kernel_rfl) rfl)
      exact wp_move _ _ (Or.inr hop) e ⟨rfl, (keep (by decide))⟩
  · intro listed a w h hall
    have all : ∀ j, j < 12 → listed.getD j false = true := fun j hj => hall j (by rw [ref2_size]; exact hj)
    obtain ⟨hk, _, hh⟩ := h.wd
    have hh := hh (all 10 (by omega))
    rw [done_putAll 118 ref2_apart hsz h hall, ref2_size]
    simp only [putAll, qdst0, qdst1, qdst2, qdst3, qdst4, qdst5, qdst6, qdst7, qdst8, qdst9, qdst10, qdst11]
    exact hQ w hh hk
end Go.Proofs.YtefgljapmncncaaDoor.Head
