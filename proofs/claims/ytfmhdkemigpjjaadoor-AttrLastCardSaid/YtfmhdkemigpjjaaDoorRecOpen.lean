/- Arguments opened: a record, a list of records, in the walk's words. -/
import Derived.Test.YtfmhdkemigpjjaaDoorRecRow
import Derived.Deep.SlicePairs
import Derived.OpenShut
import Derived.SizedLaws
namespace Go.Proofs.YtfmhdkemigpjjaaDoor.Rec
open Go.ChangeShapes Go.WideShapes Go.ChangeAt Go.RowKit Go.Deep Go.Proofs.YtfmhdkemigpjjaaDoor.Base Go.Proofs.YtfmhdkemigpjjaaDoor.Byt Go.Proofs.YtfmhdkemigpjjaaDoor.Txt Go.Lib
set_option linter.unusedVariables false
set_option maxRecDepth 100000

theorem rcells : Tryd.prog.cellsOf 43 = 2 := by kernel_rfl
theorem rcellsS : Tryd.prog.cellsOf 9 = 1 := by kernel_rfl
theorem list_two {α : Type} (l : List α) (h : l.length = 2) : ∃ a b, l = [a, b] := by
  match l, h with
  | [a, b], _ => exact ⟨a, b, rfl⟩
section
variable {H : Type} {enc : TypeId × Value → H} {w : World} {base : Nat} {held : Bool} {spare : Nat → Bool}
theorem rec_open {v : Value} {d : DataW H} {ps : List MemPlace} (h : DataW.Trod enc Tryd.prog w base spare held 43 v d ps) :
    ∃ k x : List UInt8, v = .agg #[.string (str k), .string (str x)] ∧ d = .agg [.lit (.string k), .lit (.string x)] := by
  obtain ⟨fuel, hf⟩ := h
  obtain ⟨xs, n, rfl, hx, hl, hxl, hall⟩ := DataW.trod_struct Tryd.underlying43 hf
  rw [rcells] at hl
  obtain ⟨cs, rfl⟩ : ∃ cs, v = .agg cs := by
    cases v <;> first | exact ⟨_, rfl⟩ | (simp [Value.cells] at hl)
  obtain ⟨a, b, hcs⟩ := list_two cs.toList (by simpa [Value.cells] using hl)
  obtain ⟨x0, x1, rfl⟩ := list_two xs (by simpa using hxl)
  have hcells : (Value.agg cs).cells.toList = [a, b] := hcs
  rw [hcells] at hall
  have h0 := hall 0 _ rfl
  have h1 := hall 1 _ rfl
  simp only [List.getElem_toArray, List.getElem_cons_zero, List.getElem_cons_succ, rcellsS, List.drop_zero, List.drop_succ_cons, List.take_succ_cons, List.take_zero, List.getElem?_cons_zero, List.getElem?_cons_succ] at h0 h1
  obtain ⟨s0, e0, rfl, z0⟩ := DataW.trod_string Tryd.underlying9 h0
  obtain ⟨s1, e1, rfl, z1⟩ := DataW.trod_string Tryd.underlying9 h1
  simp only [List.cons.injEq, and_true] at e0 e1
  subst e0 e1
  refine ⟨s0.data.toList, s1.data.toList, ?_, ?_⟩
  · congr 1
    apply Array.toList_inj.1
    rw [hcs, str_of, str_of]
  · simp only [Prod.mk.injEq] at hx
    rw [hx.1]
    rfl
theorem weights_rec (k x : List UInt8) : (DataW.agg [.lit (.string k), .lit (.string x)] : DataW H).weights Tryd.prog 43 = [k.length, x.length] := by
  simp only [DataW.weights, Tryd.underlying43]
  rfl
theorem rec_sized {ts : List TypeId} {ds : List (DataW H)} (hz : (DataW.weightsEach Tryd.prog ts ds).all (· ≤ reachBytes) = true) {j : Nat} {k x : List UInt8}
    (ht : ts[j]? = some 43) (hd : ds[j]? = some (.agg [.lit (.string k), .lit (.string x)])) : k.length ≤ 140737488351232 ∧ x.length ≤ 140737488351232 := by
  have h := List.all_eq_true.1 hz
  have h1 := h k.length (DataW.weights_mem_each ht hd _ (by rw [weights_rec]; simp))
  have h2 := h x.length (DataW.weights_mem_each ht hd _ (by rw [weights_rec]; simp))
  simp [reachBytes] at h1 h2
  exact ⟨of_decide_eq_true h1, of_decide_eq_true h2⟩
theorem weights_all {P : Program} {e : TypeId} {l : List (DataW H)} {d : DataW H} (hd : d ∈ l) {n : Nat} (hn : n ∈ d.weights P e) : n ∈ DataW.weightsAll P e l := by
  induction l with
  | nil => cases hd
  | cons a l ih =>
    simp only [DataW.weightsAll, List.mem_append]
    rcases List.mem_cons.1 hd with rfl | h
    · exact .inl hn
    · exact .inr (ih h)
theorem recs_open {a : Option Addr} {len cap : Nat} {d : DataW H} {ps : List MemPlace} {ts : List TypeId} {ds : List (DataW H)} (hz : (DataW.weightsEach Tryd.prog ts ds).all (· ≤ reachBytes) = true) {j : Nat} (ht : ts[j]? = some 27) (hd : ds[j]? = some d)
    (h : DataW.Trod enc Tryd.prog w base (fun _ => true) held 27 (.slice a len cap) d ps) :
    ∃ rs, RecsAt w a len rs ∧ len ≤ cap ∧ cap ≤ maxLen ∧ (∀ r ∈ rs, r.1.length ≤ 140737488351232 ∧ r.2.length ≤ 140737488351232) ∧ cap * 32 ≤ 140737488351232 := by
  obtain ⟨fuel, hf⟩ := h
  rcases open_slice_pairs Tryd.underlying27 Tryd.underlying43 rcells rfl rfl rcellsS rcellsS hf with ⟨hcs, _⟩ | ⟨x, l, c, m, n, V0, V1, D0, D1, P0, P1, hcs, _, hl, hm, hmm, hdd, hc⟩
  · simp [Value.cells] at hcs
    obtain ⟨rfl, rfl, rfl⟩ := hcs
    exact ⟨[], ⟨rfl, fun h => absurd h (by omega)⟩, by omega, by omega, by simp, by omega⟩
  · simp [Value.cells] at hcs
    obtain ⟨rfl, rfl, rfl⟩ := hcs
    simp only [if_true] at hmm
    subst hmm
    simp only [Prod.mk.injEq] at hdd
    obtain ⟨hdd, _⟩ := hdd
    obtain ⟨K, hK⟩ := choose_lt (p := fun i (b : List UInt8) => V0 i = .string (str b) ∧ D0 i = .lit (.string b)) (fun i hi' => by
      obtain ⟨b, h1, h2, _⟩ := DataW.trod_string Tryd.underlying9 (hc i hi').2.2.1
      refine ⟨b.data.toList, ?_, ?_⟩
      · rw [str_of]; simpa using h1
      · have h3 := h2
        simp at h3
        exact h3.1)
    obtain ⟨X, hX⟩ := choose_lt (p := fun i (b : List UInt8) => V1 i = .string (str b) ∧ D1 i = .lit (.string b)) (fun i hi' => by
      obtain ⟨b, h1, h2, _⟩ := DataW.trod_string Tryd.underlying9 (hc i hi').2.2.2
      refine ⟨b.data.toList, ?_, ?_⟩
      · rw [str_of]; simpa using h1
      · have h3 := h2
        simp at h3
        exact h3.1)
    have hw := List.all_eq_true.1 hz
    have hget : ∀ i, i < len → ((List.range len).map fun i => (K i, X i)).getD i ([], []) = (K i, X i) := fun i hi => by
      simp [List.getD, hi]
    refine ⟨(List.range len).map fun i => (K i, X i), ⟨by simp, fun h0 => ?_⟩, hl, hm, fun r hr => ?_, ?_⟩
    · have hx : x = ⟨x.block, x.off, none⟩ := by
        obtain ⟨b, o, s⟩ := x
        have hs : s = none := by simpa [Addr.add] using World.cell?_spot (hc 0 (by omega)).1
        rw [hs]
      refine ⟨x.block, x.off, by rw [← hx], ?_, fun i hi => ?_⟩
      · have := (hc 0 (by omega)).1
        rw [hx, add_plain] at this
        have := World.block_lt_of_cell? _ _ this
        exact this
      · have h1 := (hc i (by omega)).1
        have h2 := (hc i (by omega)).2.1
        rw [hx, add_plain] at h1 h2
        rw [(hK i (by omega)).1] at h1
        rw [(hX i (by omega)).1] at h2
        rw [hget i hi, Nat.mul_comm]
        exact ⟨h1, by rw [Nat.add_assoc]; exact h2⟩
    · obtain ⟨i, hi, rfl⟩ := List.mem_map.1 hr
      have hi' : i < len := List.mem_range.1 hi
      have hmem : (DataW.agg [D0 i, D1 i] : DataW H) ∈ (List.range len).map fun i => .agg [D0 i, D1 i] := List.mem_map.2 ⟨i, hi, rfl⟩
      have e1 : (DataW.agg [D0 i, D1 i] : DataW H).weights Tryd.prog 43 = [(K i).length, (X i).length] := by
        rw [(hK i (by omega)).2, (hX i (by omega)).2, weights_rec]
      have hin : ∀ z ∈ [(K i).length, (X i).length], z ∈ d.weights Tryd.prog 27 := fun z hz' => by
        rw [hdd]
        simp only [DataW.weights, Tryd.underlying27, List.mem_cons, List.mem_append]
        exact .inr (.inl (weights_all hmem (by rw [e1]; exact hz')))
      have h1 := hw _ (DataW.weights_mem_each ht hd _ (hin (K i).length (by simp)))
      have h2 := hw _ (DataW.weights_mem_each ht hd _ (hin (X i).length (by simp)))
      simp [reachBytes] at h1 h2
      exact ⟨of_decide_eq_true h1, of_decide_eq_true h2⟩
    · rw [hdd] at hd
      have hr := sized_slice hz ht hd Tryd.underlying27
      rw [(by kernel_rfl : Tryd.prog.bytesOf 43 = 32)] at hr
      simp only [List.length_map, List.length_range, reachBytes] at hr
      omega
end
end Go.Proofs.YtfmhdkemigpjjaaDoor.Rec
