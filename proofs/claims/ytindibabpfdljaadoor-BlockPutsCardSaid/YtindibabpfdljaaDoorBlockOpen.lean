/- Arguments opened: lists of asks, of bools, of byte slices, in the walk's words. -/
import Derived.Test.YtindibabpfdljaaDoorBlockRes
import Derived.Deep.SlicePairs
import Derived.Deep.Grids
import Derived.Deep.Matrix
namespace Go.Proofs.YtindibabpfdljaaDoor.Block
open Go.ChangeShapes Go.WideShapes Go.ChangeAt Go.RowKit Go.Deep Go.Proofs.YtindibabpfdljaaDoor.Base Go.Proofs.YtindibabpfdljaaDoor.Byt Go.Lib
set_option linter.unusedVariables false

section
variable {H : Type} {enc : TypeId × Value → H} {P : Program} {w : World} {base : Nat} {held : Bool}
theorem plain_of {b : Addr} {v : Value} (h : w.cell? (b.add 0) = some v) : b = ⟨b.block, b.off, none⟩ := by
  obtain ⟨b, o, s⟩ := b
  have hs : s = none := by simpa [Addr.add] using World.cell?_spot h
  rw [hs]
theorem asks_open {t e : TypeId} {f0 f1 : Field} {a : Option Addr} {len cap : Nat} {d : DataW H} {ps : List MemPlace} (ht : P.underlying t = some (.slice e)) (he : P.underlying e = some (.struct #[f0, f1]))
    (ce : P.cellsOf e = 2) (o0 : f0.offset = 0) (o1 : f1.offset = 1) (c0 : P.cellsOf f0.type = 1) (c1 : P.cellsOf f1.type = 1) (hb : P.underlying f0.type = some .bool) (hi : P.underlying f1.type = some (.int .i64))
    (h : DataW.Trod enc P w base (fun _ => true) held t (.slice a len cap) d ps) : ∃ V U, AAt w a len V U ∧ len ≤ cap ∧ cap ≤ maxLen := by
  obtain ⟨fuel, hf⟩ := h
  rcases open_slice_pairs ht he ce o0 o1 c0 c1 hf with ⟨hcs, _⟩ | ⟨x, l, c, m, n, V0, V1, D0, D1, P0, P1, hcs, _, hl, hm, hmm, _, hc⟩
  · simp [Value.cells] at hcs
    obtain ⟨rfl, rfl, rfl⟩ := hcs
    exact ⟨fun _ => false, fun _ => 0, fun h => absurd h (by omega), by omega, by omega⟩
  · simp [Value.cells] at hcs
    obtain ⟨rfl, rfl, rfl⟩ := hcs
    simp only [if_true] at hmm
    subst hmm
    obtain ⟨B, hB⟩ := choose_lt (p := fun i b => V0 i = .bool b) (fun i hi' => by
      obtain ⟨b, h1, _⟩ := DataW.trod_bool hb (hc i hi').2.2.1
      exact ⟨b, by simpa using h1⟩)
    obtain ⟨Z, hZ⟩ := choose_lt (p := fun i z => V1 i = .int .i64 z ∧ (Lit.int .i64 z).wf = true) (fun i hi' => by
      obtain ⟨z, h1, _, h2⟩ := DataW.trod_int hi (hc i hi').2.2.2
      exact ⟨z, by simpa using h1, h2⟩)
    refine ⟨B, Z, fun h0 => ?_, hl, hm⟩
    have hx := plain_of (show w.cell? (x.add 0) = _ by simpa using (hc 0 (by omega)).1)
    refine ⟨x.block, x.off, by rw [← hx], ?_, fun i hi' => ?_⟩
    · have := (hc 0 (by omega)).1
      rw [hx, add_plain] at this
      have := World.block_lt_of_cell? _ _ this
      exact this
    · have h1 := (hc i (by omega)).1
      have h2 := (hc i (by omega)).2.1
      rw [hx, add_plain] at h1 h2
      rw [hB i (by omega)] at h1
      rw [(hZ i (by omega)).1] at h2
      exact ⟨h1, by rw [Nat.add_assoc]; exact h2, (hZ i (by omega)).2⟩
/-- the bools at p -/
def TAt (w : World) (p : Option Addr) (n : Nat) (T : Nat → Bool) : Prop :=
  0 < n → ∃ b o, p = some ⟨b, o, none⟩ ∧ b < w.heap.size ∧ ∀ i, i < n → w.cell? ⟨b, o + i, none⟩ = some (.bool (T i))
theorem bools_open {t e : TypeId} {a : Option Addr} {len cap : Nat} {d : DataW H} {ps : List MemPlace} (ht : P.underlying t = some (.slice e)) (he : P.underlying e = some .bool) (ce : P.cellsOf e = 1)
    (h : DataW.Trod enc P w base (fun _ => true) held t (.slice a len cap) d ps) : ∃ T, TAt w a len T ∧ len ≤ cap ∧ cap ≤ maxLen := by
  obtain ⟨fuel, hf⟩ := h
  rcases open_bools ht he ce hf with ⟨hcs, _⟩ | ⟨x, l, c, B, hcs, _, hl, hm, _, hc⟩
  · simp [Value.cells] at hcs
    obtain ⟨rfl, rfl, rfl⟩ := hcs
    exact ⟨fun _ => false, fun h => absurd h (by omega), by omega, by omega⟩
  · simp [Value.cells] at hcs
    obtain ⟨rfl, rfl, rfl⟩ := hcs
    refine ⟨B, fun h0 => ?_, hl, hm⟩
    have hx := plain_of (hc 0 (by omega))
    refine ⟨x.block, x.off, by rw [← hx], ?_, fun i hi' => ?_⟩
    · have := hc 0 (by omega)
      rw [hx, add_plain] at this
      have := World.block_lt_of_cell? _ _ this
      exact this
    · have h1 := hc i (by omega)
      rw [hx, add_plain] at h1
      exact h1
theorem byteRows_open {t e q : TypeId} {a : Option Addr} {len cap : Nat} {d : DataW H} {ps : List MemPlace} (ht : P.underlying t = some (.slice e)) (he : P.underlying e = some (.slice q)) (hq : P.underlying q = some (.int .u8)) (ce : P.cellsOf e = 1) (cq : P.cellsOf q = 1)
    (h : DataW.Trod enc P w base (fun _ => true) held t (.slice a len cap) d ps) : ∃ A M C Bs, LAt w a len A M C Bs ∧ (∀ i, i < len → M i ≤ C i ∧ C i ≤ maxLen) ∧ len ≤ cap ∧ cap ≤ maxLen := by
  obtain ⟨fuel, hf⟩ := h
  rcases open_int_rows ht he hq ce cq hf with ⟨hcs, _⟩ | ⟨x, l, c, A, L, C, Z, hcs, _, hl, hm, _, hc⟩
  · simp [Value.cells] at hcs
    obtain ⟨rfl, rfl, rfl⟩ := hcs
    exact ⟨fun _ => none, fun _ => 0, fun _ => 0, fun _ => [], fun h => absurd h (by omega), fun i hi => absurd hi (by omega), by omega, by omega⟩
  · simp [Value.cells] at hcs
    obtain ⟨rfl, rfl, rfl⟩ := hcs
    refine ⟨A, L, C, fun i => bytesOf ((Z i).take (L i)), fun h0 => ?_, fun i hi => ⟨(hc i (by omega)).2.1, (hc i (by omega)).2.2.1⟩, hl, hm⟩
    have hx := plain_of (hc 0 (by omega)).1
    refine ⟨x.block, x.off, by rw [← hx], ?_, fun i hi' => ?_⟩
    · have := (hc 0 (by omega)).1
      rw [hx, add_plain] at this
      have := World.block_lt_of_cell? _ _ this
      exact this
    · obtain ⟨h1, h2, h3, h4, h5, h6, h7⟩ := hc i (by omega)
      rw [hx, add_plain] at h1
      have hrow : IsRow .u8 w (A i) (L i) (C i) (Z i) := by
        rcases hA : A i with _ | y
        · have hC := h6 hA
          have hL : L i = 0 := by omega
          have hZ : Z i = [] := List.eq_nil_of_length_eq_zero (by omega)
          exact Or.inl ⟨rfl, hL, hC, hZ⟩
        · exact Or.inr ⟨y, rfl, h2, h3, h4, fun j hj => (h7 y hA).2 j (by omega), h5⟩
      obtain ⟨g1, g2, _, _⟩ := bat_of_row hrow
      exact ⟨h1, g1, g2⟩
end
end Go.Proofs.YtindibabpfdljaaDoor.Block
