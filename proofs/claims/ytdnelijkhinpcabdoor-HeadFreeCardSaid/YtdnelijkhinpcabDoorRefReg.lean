/- The document's own Head: its two statements whose operations come in whatever order. -/
import Derived.Test.YtdnelijkhinpcabDoorHeadReg
import Derived.Test.YtdnelijkhinpcabDoorRegion
import Derived.Shelf.Abstract
namespace Go.Proofs.YtdnelijkhinpcabDoor.Head
open Go.ChangeShapes Go.WideShapes Go.ChangeAt Go.RowKit Go.Proofs.YtdnelijkhinpcabDoor.Base Go.Proofs.YtdnelijkhinpcabDoor.Byt Go.Proofs.YtdnelijkhinpcabDoor.Hp Go.Proofs.YtdnelijkhinpcabDoor.Mp Go.Lib
set_option linter.unusedVariables false
set_option maxRecDepth 100000

def dstAt (ops : Array Oper) (i : Nat) : Option Nat := (ops[i]?).bind fun o => o.dst
/-- all operations' values, written one after the other -/
def putAll (ops : Array Oper) (V : Nat → Value) (a0 : Act) : Nat → Act
  | 0 => a0
  | n + 1 => (putAll ops V a0 n).put (dstAt ops n) (V n)
theorem put_none (a : Act) (v : Value) : a.put none v = a := rfl
theorem putAll_size (ops : Array Oper) (V : Nat → Value) (a0 : Act) : ∀ n, (putAll ops V a0 n).tmps.size = a0.tmps.size
  | 0 => rfl
  | n + 1 => by rw [putAll, put_size, putAll_size ops V a0 n]
theorem putAll_defers (ops : Array Oper) (V : Nat → Value) (a0 : Act) : ∀ n, (putAll ops V a0 n).defers = a0.defers
  | 0 => rfl
  | n + 1 => by rw [putAll, put_defers, putAll_defers ops V a0 n]
theorem put_eval_ne {a : Act} {d : Option Nat} {t : Nat} (v : Value) (h : d ≠ some t) : (a.put d v).eval (.tmp t) = a.eval (.tmp t) := by
  cases d with
  | none => rfl
  | some d =>
    have hne : ¬ d = t := fun e => h (by rw [e])
    show ((a.tmps.setIfInBounds d v).getD t undef) = a.tmps.getD t undef
    simp [Array.getElem?_setIfInBounds_ne hne]
theorem putAll_none (ops : Array Oper) (V : Nat → Value) (a0 : Act) (t : Nat) : ∀ n, (∀ j, j < n → dstAt ops j ≠ some t) → (putAll ops V a0 n).eval (.tmp t) = a0.eval (.tmp t)
  | 0, _ => rfl
  | n + 1, h => by
    rw [putAll, put_eval_ne _ (h n (by omega))]
    exact putAll_none ops V a0 t n fun j hj => h j (by omega)
theorem putAll_some {ops : Array Oper} (V : Nat → Value) (a0 : Act) {t : Nat} (ht : t < a0.tmps.size) {i : Nat} (hi : dstAt ops i = some t) (hu : ∀ j, dstAt ops j = some t → j = i) : ∀ n, i < n → (putAll ops V a0 n).eval (.tmp t) = V i
  | 0, h => absurd h (by omega)
  | n + 1, h => by
    rw [putAll]
    by_cases hn : n = i
    · subst hn
      rw [hi, put_eval _ (by rw [putAll_size]; exact ht), if_pos rfl]
    · rw [put_eval_ne _ (fun e => hn (hu n e))]
      exact putAll_some V a0 ht hi hu n (by omega)
theorem act_ext {a b : Act} (hs : a.tmps.size = b.tmps.size) (hd : a.defers = b.defers) (h : ∀ t, a.eval (.tmp t) = b.eval (.tmp t)) : a = b := by
  obtain ⟨ta, da⟩ := a
  obtain ⟨tb, db⟩ := b
  obtain rfl : da = db := hd
  congr 1
  apply Array.ext hs
  intro i h1 h2
  have := h i
  change ta.getD i undef = tb.getD i undef at this
  rw [Array.getD_eq_getD_getElem?, Array.getD_eq_getD_getElem?, Array.getElem?_eq_getElem h1, Array.getElem?_eq_getElem h2] at this
  exact this
theorem done_putAll {ops : Array Oper} {V : Nat → Value} {a0 a : Act} {W : Array Bool → World → Prop} {listed : Array Bool} {w : World} (n : Nat) (hap : apartB ops n = true) (hn : n ≤ a0.tmps.size) (h : RI ops V a0 W listed a w) (hall : ∀ j, j < ops.size → listed.getD j false = true) : a = putAll ops V a0 ops.size := by
  have sp := apartB_spec hap
  refine act_ext (by rw [h.ts, putAll_size]) (by rw [h.df, putAll_defers]) fun t => ?_
  by_cases hex : ∃ i, dstAt ops i = some t
  · obtain ⟨i, hi⟩ := hex
    cases ho : ops[i]? with
    | none => rw [dstAt, ho] at hi; cases hi
    | some o =>
      have hd : o.dst = some t := by rw [dstAt, ho] at hi; exact hi
      have hlt := (Array.getElem?_eq_some_iff.1 ho).1
      obtain ⟨h1, h2⟩ := (sp i o ho).2.2 t hd
      rw [h.done i o t ho hd (hall i hlt), putAll_some V a0 (Nat.lt_of_lt_of_le h1 hn) hi (fun j hj => by
        cases hoj : ops[j]? with
        | none => rw [dstAt, hoj] at hj; cases hj
        | some oj => exact h2 j oj hoj (by rw [dstAt, hoj] at hj; exact hj)) _ hlt]
  · rw [putAll_none ops V a0 t _ fun j _ e => hex ⟨j, e⟩]
    exact h.same t fun j o ho hd => absurd ⟨j, by rw [dstAt, ho]; exact hd⟩ hex
theorem slice_at (b o c l h : Nat) (hl : l ≤ h) (h5 : h ≤ 512) (hc : 512 ≤ c) (hl5 : l < 512) (w : World) :
    (Instr.sliceAt 27 (.slice (some ⟨b, o, none⟩) 512 c) (some (.int .i64 (l : Int))) (some (.int .i64 (h : Int))) none).run Tryd.prog w = .ok (.slice (some ⟨b, o + l, none⟩) (h - l) (c - l)) w := by
  have fl := Tryd.underlying27
  have h1 : (l : Int) ≤ h := by omega
  have h2 : (h : Int) ≤ c := by omega
  have h3 : ¬ c = l := by omega
  simp [go_sem, Instr.sliceAt, Instr.slice, Instr.sliceBounds, Result.andThen, h1, h2, h3, Addr.add]
theorem slice_to (b o c h : Nat) (h5 : h ≤ 512) (hc : 512 ≤ c) (w : World) :
    (Instr.sliceAt 27 (.slice (some ⟨b, o, none⟩) 512 c) none (some (.int .i64 (h : Int))) none).run Tryd.prog w = .ok (.slice (some ⟨b, o, none⟩) h c) w := by
  have fl := Tryd.underlying27
  have h2 : (h : Int) ≤ c := by omega
  simp [go_sem, Instr.sliceAt, Instr.slice, Instr.sliceBounds, Result.andThen, h2, Addr.add]
/-- what each operation yields -/
def rV (S S1 S2 : Value) (pt : Addr) (mg x0 x1 : ByteArray) (gnu : Bool) (kd : Int) (g : Nat) : Nat → Value
  | 0 => .string mg | 1 => .bool gnu | 2 => S | 3 => .pointer (some pt) | 4 => .int .u8 kd | 5 => S | 6 => S1 | 7 => .string x0 | 8 => S | 9 => S2 | 10 => .string x1
  | 11 => .agg #[.string x0, .string x1, .int .u8 kd, .int .i64 0, .int .i64 0, .int .i64 0, .int .i64 0, .int .i64 0, .bool gnu] | 12 => .pointer (some ⟨g, 0, none⟩) | _ => undef
theorem dep_listed {ops : Array Oper} {listed : Array Bool} {j i : Nat} {o : Oper} (ho : ops[j]? = some o) (hdep : ∀ e ∈ o.after, Region.binds .any e = true → listed.getD e.on false = true) (hd : hasDep ops j i = true) : listed.getD i false = true := by
  unfold hasDep at hd
  rw [ho] at hd
  obtain ⟨e, he, hb⟩ := Array.any_eq_true'.1 (show o.after.any _ = true from hd)
  simp only [Bool.and_eq_true, beq_iff_eq] at hb
  have hl := hdep e he hb.2
  rwa [hb.1] at hl
theorem r_build_part (w : World) (n l : ByteArray) (k : Int) (g : Bool) : (Instr.build 25 #[(5, .bool g), (2, .int .u8 k), (0, .string n), (1, .string l)]).run Tryd.prog w = .ok (.agg #[.string n, .string l, .int .u8 k, .int .i64 0, .int .i64 0, .int .i64 0, .int .i64 0, .int .i64 0, .bool g]) w := by kernel_rfl
theorem alloc_head (w : World) : (Instr.alloc 25 true (.tuple #[])).run Tryd.prog w = .ok (.pointer (some ⟨w.heap.size, 0, none⟩)) (w.alloc (.cells zeroCs 25)) := by kernel_rfl
def rV2 (S S1 S2 S3 S4 S5 : Value) (g : Nat) : Nat → Value
  | 0 => S | 1 => S1 | 2 => S | 3 => S2 | 4 => S | 5 => S3 | 6 => S | 7 => S4 | 8 => S | 9 => S5 | 10 => .slice (some ⟨g, 0, none⟩) 5 5 | 11 => .slice (some ⟨g, 0, none⟩) 5 5 | _ => undef
end Go.Proofs.YtdnelijkhinpcabDoor.Head
