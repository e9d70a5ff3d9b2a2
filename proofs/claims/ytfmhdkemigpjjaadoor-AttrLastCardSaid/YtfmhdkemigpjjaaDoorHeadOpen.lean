/- An argument that is a head, opened: its fields in the walk's words. -/
import Derived.Test.YtfmhdkemigpjjaaDoorHeadV
import Derived.OpenShut
import Derived.SizedLaws
namespace Go.Proofs.YtfmhdkemigpjjaaDoor.Head
open Go.ChangeShapes Go.WideShapes Go.ChangeAt Go.RowKit Go.Proofs.YtfmhdkemigpjjaaDoor.Base Go.Proofs.YtfmhdkemigpjjaaDoor.Byt Go.Proofs.YtfmhdkemigpjjaaDoor.Txt Go.Proofs.YtfmhdkemigpjjaaDoor.Hp Go.Lib
set_option linter.unusedVariables false
set_option maxRecDepth 100000

theorem list9 {α : Type} (l : List α) (h : l.length = 9) : ∃ a b c d e f g i j, l = [a, b, c, d, e, f, g, i, j] := by
  match l, h with
  | [a, b, c, d, e, f, g, i, j], _ => exact ⟨a, b, c, d, e, f, g, i, j, rfl⟩
theorem list4 {α : Type} (l : List α) (h : l.length = 4) : ∃ a b c d, l = [a, b, c, d] := by
  match l, h with
  | [a, b, c, d], _ => exact ⟨a, b, c, d, rfl⟩
theorem list6 {α : Type} (l : List α) (h : l.length = 6) : ∃ a b c d e f, l = [a, b, c, d, e, f] := by
  match l, h with
  | [a, b, c, d, e, f], _ => exact ⟨a, b, c, d, e, f, rfl⟩
theorem cells9 : Tryd.prog.cellsOf 25 = 9 := by kernel_rfl
theorem cellsM : Tryd.prog.cellsOf 23 = 4 := by kernel_rfl
theorem cellsS : Tryd.prog.cellsOf 9 = 1 := by kernel_rfl
theorem cellsI : Tryd.prog.cellsOf 3 = 1 := by kernel_rfl
theorem cellsU : Tryd.prog.cellsOf 5 = 1 := by kernel_rfl
theorem cellsB : Tryd.prog.cellsOf 4 = 1 := by kernel_rfl
section
variable {H : Type} {enc : TypeId × Value → H} {w : World} {base : Nat} {held : Bool} {spare : Nat → Bool}
theorem head_open {v : Value} {d : DataW H} {ps : List MemPlace} (h : DataW.Trod enc Tryd.prog w base spare held 25 v d ps) :
    ∃ hv : HeadV, v = .agg (headC hv) ∧ (∀ i, (Lit.int .i64 (numH hv i)).wf = true) ∧ ∃ r, d = .agg (.lit (.string hv.name) :: .lit (.string hv.link) :: r) := by
  obtain ⟨fuel, hf⟩ := h
  obtain ⟨xs, n, rfl, hx, hl, hxl, hall⟩ := DataW.trod_struct Tryd.underlying25 hf
  rw [cells9] at hl
  obtain ⟨cs, rfl⟩ : ∃ cs, v = .agg cs := by
    cases v <;> first | exact ⟨_, rfl⟩ | (simp [Value.cells] at hl)
  obtain ⟨a, b, c, e, f, g, i, j, k, hcs⟩ := list9 cs.toList (by simpa [Value.cells] using hl)
  obtain ⟨x0, x1, x2, x3, x4, x5, rfl⟩ := list6 xs (by simpa using hxl)
  have hcells : (Value.agg cs).cells.toList = [a, b, c, e, f, g, i, j, k] := hcs
  rw [hcells] at hall
  have h0 := hall 0 _ rfl
  have h1 := hall 1 _ rfl
  have h2 := hall 2 _ rfl
  have h3 := hall 3 _ rfl
  have h4 := hall 4 _ rfl
  have h5 := hall 5 _ rfl
  simp only [List.getElem_toArray, List.getElem_cons_zero, List.getElem_cons_succ, cellsM, cellsS, cellsI, cellsU, cellsB, List.drop_zero, List.drop_succ_cons, List.take_succ_cons, List.take_zero, List.getElem?_cons_zero, List.getElem?_cons_succ] at h0 h1 h2 h3 h4 h5
  obtain ⟨s0, e0, rfl, z0⟩ := DataW.trod_string Tryd.underlying9 h0
  obtain ⟨s1, e1, rfl, z1⟩ := DataW.trod_string Tryd.underlying9 h1
  obtain ⟨k2, e2, rfl, z2⟩ := DataW.trod_int Tryd.underlying5 h2
  obtain ⟨ys, n', rfl, hy, hl', hyl, hall'⟩ := DataW.trod_struct Tryd.underlying23 h3
  obtain ⟨k4, e4, rfl, z4⟩ := DataW.trod_int Tryd.underlying3 h4
  obtain ⟨k5, e5, rfl⟩ := DataW.trod_bool Tryd.underlying4 h5
  obtain ⟨y0, y1, y2, y3, rfl⟩ := list4 ys (by simpa using hyl)
  have g0 := hall' 0 _ rfl
  have g1 := hall' 1 _ rfl
  have g2 := hall' 2 _ rfl
  have g3 := hall' 3 _ rfl
  simp only [List.getElem_toArray, List.getElem_cons_zero, List.getElem_cons_succ, cellsI, List.drop_zero, List.drop_succ_cons, List.take_succ_cons, List.take_zero, List.getElem?_cons_zero, List.getElem?_cons_succ] at g0 g1 g2 g3
  obtain ⟨m0, f0, rfl, q0⟩ := DataW.trod_int Tryd.underlying3 g0
  obtain ⟨m1, f1, rfl, q1⟩ := DataW.trod_int Tryd.underlying3 g1
  obtain ⟨m2, f2, rfl, q2⟩ := DataW.trod_int Tryd.underlying3 g2
  obtain ⟨m3, f3, rfl, q3⟩ := DataW.trod_int Tryd.underlying3 g3
  simp only [List.cons.injEq, and_true] at e0 e1 e2 e4 e5 f0 f1 f2 f3
  subst e0 e1 e2 e4 e5 f0 f1 f2 f3
  obtain ⟨k0, k1⟩ := wf8 z2
  refine ⟨⟨s0.data.toList, s1.data.toList, UInt8.ofNat k2.toNat, m0, m1, m2, m3, k4, k5⟩, ?_, fun i => ?_, ?_⟩
  · congr 1
    apply Array.toList_inj.1
    rw [hcs]
    unfold headC
    rw [str_of, str_of, show ((UInt8.ofNat k2.toNat).toNat : Int) = k2 by rw [UInt8.toNat_ofNat']; omega]
  · unfold numH
    split
    · exact q0
    · exact q1
    · exact q2
    · exact z4
    · exact q3
    · decide
  · simp only [Prod.mk.injEq] at hx
    rw [hx.1]
    exact ⟨_, rfl⟩
/-- how long its texts are -/
theorem head_sized {ts : List TypeId} {ds : List (DataW H)} (hz : (DataW.weightsEach Tryd.prog ts ds).all (· ≤ reachBytes) = true) {j : Nat} {a b : List UInt8} {r : List (DataW H)}
    (ht : ts[j]? = some 25) (hd : ds[j]? = some (.agg (.lit (.string a) :: .lit (.string b) :: r))) : a.length ≤ 140737488351232 ∧ b.length ≤ 140737488351232 := by
  have h := List.all_eq_true.1 hz
  have e : (DataW.agg (.lit (.string a) :: .lit (.string b) :: r) : DataW H).weights Tryd.prog 25 = DataW.weightsEach Tryd.prog [9, 9, 5, 23, 3, 4] (.lit (.string a) :: .lit (.string b) :: r) := by
    simp only [DataW.weights, Tryd.underlying25]
    rfl
  have h1 := h a.length (DataW.weights_mem_each ht hd _ (by rw [e]; simp [DataW.weightsEach, DataW.weights]))
  have h2 := h b.length (DataW.weights_mem_each ht hd _ (by rw [e]; simp [DataW.weightsEach, DataW.weights]))
  simp [reachBytes] at h1 h2
  exact ⟨of_decide_eq_true h1, of_decide_eq_true h2⟩
end
end Go.Proofs.YtfmhdkemigpjjaaDoor.Head
