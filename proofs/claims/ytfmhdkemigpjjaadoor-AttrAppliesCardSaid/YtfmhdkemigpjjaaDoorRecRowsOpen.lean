/- An argument that is a list of lists of records, opened. -/
import Derived.Test.YtfmhdkemigpjjaaDoorRecOpen
namespace Go.Proofs.YtfmhdkemigpjjaaDoor.Rec
open Go.ChangeShapes Go.WideShapes Go.ChangeAt Go.RowKit Go.Deep Go.Proofs.YtfmhdkemigpjjaaDoor.Base Go.Proofs.YtfmhdkemigpjjaaDoor.Byt Go.Proofs.YtfmhdkemigpjjaaDoor.Txt Go.Lib
set_option linter.unusedVariables false
set_option maxRecDepth 100000

/-- the list of lists of records at p: the i-th lies at A i, has M i records, and these are R i -/
def RowsAt (w : World) (p : Option Addr) (n : Nat) (A : Nat → Option Addr) (M C : Nat → Nat) (R : Nat → List (List UInt8 × List UInt8)) : Prop :=
  0 < n → ∃ b o, p = some ⟨b, o, none⟩ ∧ b < w.heap.size ∧ ∀ i, i < n → w.cell? ⟨b, o + i, none⟩ = some (.slice (A i) (M i) (C i)) ∧ RecsAt w (A i) (M i) (R i)
theorem RowsAt.below {w w' : World} {p : Option Addr} {n : Nat} {A : Nat → Option Addr} {M C : Nat → Nat} {R : Nat → List (List UInt8 × List UInt8)} (h : RowsAt w p n A M C R) (hb : Below w.heap.size w w') : RowsAt w' p n A M C R := fun h0 => by
  obtain ⟨b, o, hp, hbw, hc⟩ := h h0
  exact ⟨b, o, hp, Nat.lt_of_lt_of_le hbw hb.size, fun i hi => ⟨by rw [hb.cell (p := ⟨b, o + i, none⟩) hbw]; exact (hc i hi).1, (hc i hi).2.below hb⟩⟩
section
variable {H : Type} {enc : TypeId × Value → H} {w : World} {base : Nat} {held : Bool} {spare : Nat → Bool}
theorem recs_openW {a : Option Addr} {len cap : Nat} {d : DataW H} {ps : List MemPlace} (hw : ∀ z ∈ d.weights Tryd.prog 27, z ≤ reachBytes)
    (h : DataW.Trod enc Tryd.prog w base (fun _ => true) held 27 (.slice a len cap) d ps) :
    ∃ rs, RecsAt w a len rs ∧ len ≤ cap ∧ cap ≤ maxLen ∧ (∀ r ∈ rs, r.1.length ≤ 140737488351232 ∧ r.2.length ≤ 140737488351232) ∧ cap * 32 ≤ 140737488351232 := by
  obtain ⟨fuel, hf⟩ := h
  rcases open_slice_pairs Tryd.underlying27 Tryd.underlying43 rcells rfl rfl rcellsS rcellsS hf with ⟨hcs, _⟩ | ⟨x, l, c, m, n, V0, V1, D0, D1, P0, P1, hcs, _, hl, hm, hmm, hdd, hc⟩
  · simp [Value.cells] at hcs
    obtain ⟨rfl, rfl, rfl⟩ := hcs
    exact ⟨[], ⟨rfl, fun h => absurd h (by omega)⟩, by omega, by omega, by simp, by omega⟩
  · simp [Value.cells] at hcs
    obtain ⟨rfl, rfl, rfl⟩ := hcs
    simp only [if_true] at hmm
    subst hmm
    simp only [Prod.mk.injEq] at hdd
    obtain ⟨hdd, _⟩ := hdd
    obtain ⟨K, hK⟩ := choose_lt (p := fun i (b : List UInt8) => V0 i = .string (str b) ∧ D0 i = .lit (.string b)) (fun i hi' => by
      obtain ⟨b, h1, h2, _⟩ := DataW.trod_string Tryd.underlying9 (hc i hi').2.2.1
      refine ⟨b.data.toList, ?_, ?_⟩
      · rw [str_of]; simpa using h1
      · have h3 := h2
        simp at h3
        exact h3.1)
    obtain ⟨X, hX⟩ := choose_lt (p := fun i (b : List UInt8) => V1 i = .string (str b) ∧ D1 i = .lit (.string b)) (fun i hi' => by
      obtain ⟨b, h1, h2, _⟩ := DataW.trod_string Tryd.underlying9 (hc i hi').2.2.2
      refine ⟨b.data.toList, ?_, ?_⟩
      · rw [str_of]; simpa using h1
      · have h3 := h2
        simp at h3
        exact h3.1)
    have hget : ∀ i, i < len → ((List.range len).map fun i => (K i, X i)).getD i ([], []) = (K i, X i) := fun i hi => by
      simp [List.getD, hi]
    refine ⟨(List.range len).map fun i => (K i, X i), ⟨by simp, fun h0 => ?_⟩, hl, hm, fun r hr => ?_, ?_⟩
    · have hx : x = ⟨x.block, x.off, none⟩ := by
        obtain ⟨b, o, s⟩ := x
        have hs : s = none := by simpa [Addr.add] using World.cell?_spot (hc 0 (by omega)).1
        rw [hs]
      refine ⟨x.block, x.off, by rw [← hx], ?_, fun i hi => ?_⟩
      · have := (hc 0 (by omega)).1
        rw [hx, add_plain] at this
        have := World.block_lt_of_cell? _ _ this
        exact this
      · have h1 := (hc i (by omega)).1
        have h2 := (hc i (by omega)).2.1
        rw [hx, add_plain] at h1 h2
        rw [(hK i (by omega)).1] at h1
        rw [(hX i (by omega)).1] at h2
        rw [hget i hi, Nat.mul_comm]
        exact ⟨h1, by rw [Nat.add_assoc]; exact h2⟩
    · obtain ⟨i, hi, rfl⟩ := List.mem_map.1 hr
      have hi' : i < len := List.mem_range.1 hi
      have hmem : (DataW.agg [D0 i, D1 i] : DataW H) ∈ (List.range len).map fun i => .agg [D0 i, D1 i] := List.mem_map.2 ⟨i, hi, rfl⟩
      have e1 : (DataW.agg [D0 i, D1 i] : DataW H).weights Tryd.prog 43 = [(K i).length, (X i).length] := by
        rw [(hK i (by omega)).2, (hX i (by omega)).2, weights_rec]
      have hin : ∀ z ∈ [(K i).length, (X i).length], z ∈ d.weights Tryd.prog 27 := fun z hz' => by
        rw [hdd]
        simp only [DataW.weights, Tryd.underlying27, List.mem_cons, List.mem_append]
        exact .inr (.inl (weights_all hmem (by rw [e1]; exact hz')))
      have h1 := hw _ (hin (K i).length (by simp))
      have h2 := hw _ (hin (X i).length (by simp))
      simp only [reachBytes] at h1 h2
      exact ⟨by simp only; omega, by simp only; omega⟩
    · have hin : m * 32 ∈ d.weights Tryd.prog 27 := by
        rw [hdd]
        simp only [DataW.weights, Tryd.underlying27, List.mem_cons, List.mem_append, List.length_map, List.length_range]
        refine .inl ?_
        rw [(by kernel_rfl : Tryd.prog.bytesOf 43 = 32)]
        congr 1
        omega
      have h1 := hw _ hin
      simp only [reachBytes] at h1
      omega
theorem recRows_open {a : Option Addr} {len cap : Nat} {d : DataW H} {ps : List MemPlace} {ts : List TypeId} {ds : List (DataW H)} (hz : (DataW.weightsEach Tryd.prog ts ds).all (· ≤ reachBytes) = true) {j : Nat} (ht : ts[j]? = some 26) (hd : ds[j]? = some d)
    (h : DataW.Trod enc Tryd.prog w base (fun _ => true) held 26 (.slice a len cap) d ps) :
    ∃ A M C R, RowsAt w a len A M C R ∧ len ≤ cap ∧ cap ≤ maxLen ∧ ∀ i, i < len → M i ≤ C i ∧ C i ≤ maxLen ∧ C i * 32 ≤ 140737488351232 ∧ ∀ r ∈ R i, r.1.length ≤ 140737488351232 ∧ r.2.length ≤ 140737488351232 := by
  obtain ⟨fuel, hf⟩ := h
  rcases open_slice Tryd.underlying26 hf with ⟨hcs, _⟩ | ⟨x, l, c, m, n, D, Pl, hcs, hb, hl, hm, hmm, hdd, hx⟩
  · simp [Value.cells] at hcs
    obtain ⟨rfl, rfl, rfl⟩ := hcs
    exact ⟨fun _ => none, fun _ => 0, fun _ => 0, fun _ => [], fun h => absurd h (by omega), by omega, by omega, fun i hi => absurd hi (by omega)⟩
  · simp [Value.cells] at hcs
    obtain ⟨rfl, rfl, rfl⟩ := hcs
    simp only [if_true] at hmm
    subst hmm
    simp only [Prod.mk.injEq] at hdd
    obtain ⟨hdd, _⟩ := hdd
    have hw := List.all_eq_true.1 hz
    have key : ∀ i, i < len → ∃ q : Option Addr × Nat × Nat × List (List UInt8 × List UInt8), w.cell? (x.add i) = some (.slice q.1 q.2.1 q.2.2.1) ∧ RecsAt w q.1 q.2.1 q.2.2.2 ∧ q.2.1 ≤ q.2.2.1 ∧ q.2.2.1 ≤ maxLen ∧ (∀ r ∈ q.2.2.2, r.1.length ≤ 140737488351232 ∧ r.2.length ≤ 140737488351232) ∧ q.2.2.1 * 32 ≤ 140737488351232 := fun i hi => by
      obtain ⟨cs', h1, h2⟩ := hx i (by omega)
      rw [(by kernel_rfl : Tryd.prog.cellsOf 27 = 1), Nat.mul_one] at h1
      obtain ⟨_, hlen, hcell⟩ := World.cells?_some h1
      obtain ⟨v, rfl⟩ : ∃ v, cs' = [v] := by
        match cs', hlen with
        | [v], _ => exact ⟨v, rfl⟩
      have hv : ∃ p l c, v = .slice p l c := by
        rcases open_slice Tryd.underlying27 h2 with ⟨hc, _⟩ | ⟨_, _, _, _, _, _, _, hc, _⟩
        · exact ⟨none, 0, 0, by simpa using hc⟩
        · exact ⟨_, _, _, by simpa using hc⟩
      obtain ⟨p, l, c, rfl⟩ := hv
      have hmem : D i ∈ (List.range len).map D := List.mem_map.2 ⟨i, List.mem_range.2 hi, rfl⟩
      obtain ⟨rs, g1, g2, g3, g4, g5⟩ := recs_openW (enc := enc) (a := p) (len := l) (cap := c) (d := D i) (ps := Pl i) (base := base) (held := held) (w := w) (fun z hzz => by
        have hin : z ∈ d.weights Tryd.prog 26 := by
          rw [hdd]
          simp only [DataW.weights, Tryd.underlying26, List.mem_cons, List.mem_append]
          exact .inr (.inl (weights_all hmem hzz))
        have := hw _ (DataW.weights_mem_each ht hd _ hin)
        exact of_decide_eq_true this) ⟨_, h2⟩
      have e0 := hcell 0 (by omega)
      exact ⟨(p, l, c, rs), by simpa [add_add] using e0, g1, g2, g3, g4, g5⟩
    obtain ⟨q, hq⟩ := choose_lt key
    refine ⟨fun i => (q i).1, fun i => (q i).2.1, fun i => (q i).2.2.1, fun i => (q i).2.2.2, fun h0 => ?_, hl, hm, fun i hi => ⟨(hq i hi).2.2.1, (hq i hi).2.2.2.1, (hq i hi).2.2.2.2.2, (hq i hi).2.2.2.2.1⟩⟩
    have hx0 : x = ⟨x.block, x.off, none⟩ := by
      obtain ⟨b, o, s⟩ := x
      have hs : s = none := by simpa [Addr.add] using World.cell?_spot (hq 0 (by omega)).1
      rw [hs]
    refine ⟨x.block, x.off, by rw [← hx0], ?_, fun i hi => ⟨?_, (hq i hi).2.1⟩⟩
    · have := (hq 0 (by omega)).1
      rw [hx0, add_plain] at this
      have := World.block_lt_of_cell? _ _ this
      exact this
    · have := (hq i hi).1
      rw [hx0, add_plain] at this
      exact this
end
end Go.Proofs.YtfmhdkemigpjjaaDoor.Rec
