/- What a source answers, as functions of its bytes and its place; lists of asks. -/
import Derived.Test.YtindibabpfdljaaDoorBlockLaws
namespace Go.Proofs.YtindibabpfdljaaDoor.Block
open Go.ChangeShapes Go.WideShapes Go.ChangeAt Go.RowKit Go.Proofs.YtindibabpfdljaaDoor.Base Go.Proofs.YtindibabpfdljaaDoor.Byt Go.Proofs.YtindibabpfdljaaDoor.Num Go.Lib
set_option linter.unusedVariables false

/-- error, bytes, and the place behind -/
def blkR (bs : List UInt8) (a : Nat) : Int × List UInt8 × Nat :=
  if a = bs.length then (14, [], a) else if a + 512 ≤ bs.length then (0, (bs.drop a).take 512, a + 512) else (2, [], bs.length)
def bodR (bs : List UInt8) (a : Nat) (n : Int) : Int × List UInt8 × Nat :=
  if 0 ≤ n ∧ n ≤ 4611686018427387904 then (if a + padN n.toNat ≤ bs.length then (0, (bs.drop a).take n.toNat, a + padN n.toNat) else (2, [], bs.length)) else (4, [], a)
def ResPost (w : World) (g : Nat) (S : Sv) (E : Int) (X : List UInt8) (a' : Nat) (e : Ending) (w' : World) : Prop :=
  ∃ (p : Option Addr) (m c t' : Nat), e = .returned (.tuple #[.slice p m c, .int .i64 E]) ∧ X.length = m ∧ BAt w' p m X ∧ (∀ x, p = some x → w.heap.size ≤ x.block) ∧ Src w' g S a' t' ∧ Kept (oneB g) w w'
theorem block_res (w : World) (g a t : Nat) (S : Sv) (h : Src w g S a t) (ho : S.off g) :
    Calls Tryd.prog 10 #[.pointer (some ⟨g, 0, none⟩)] w (ResPost w g S (blkR S.bs a).1 (blkR S.bs a).2.1 (blkR S.bs a).2.2) := by
  refine (block_any w g a t S h ho).mono ?_
  intro e w' h'
  have hl := h.len
  unfold blkR
  rcases h' with ⟨h1, rfl, ⟨t', h2⟩, h3⟩ | ⟨h0, ⟨h1, v, rfl, h2, ⟨t', h3⟩, h4⟩ | ⟨h1, rfl, ⟨t', h3⟩, h4⟩⟩
  · rw [if_pos (by omega)]
    exact ⟨none, 0, 0, t', rfl, rfl, fun hh => absurd hh (by omega), (fun x hx => by cases hx), h2, h3⟩
  · rw [if_neg (by omega), if_pos (by omega)]
    obtain ⟨p, c, rfl, _, _, h5, h6, h7⟩ := h2.slice
    exact ⟨p, 512, c, t', rfl, h6, h5, fun x hx => (h7 x hx).1, h3, h4⟩
  · rw [if_neg (by omega), if_neg (by omega)]
    exact ⟨none, 0, 0, t', rfl, rfl, fun hh => absurd hh (by omega), (fun x hx => by cases hx), by rw [hl]; exact h3, h4⟩
theorem body_res (w : World) (g a t : Nat) (S : Sv) (h : Src w g S a t) (ho : S.off g) (n : Int) :
    Calls Tryd.prog 11 #[.pointer (some ⟨g, 0, none⟩), .int .i64 n] w (ResPost w g S (bodR S.bs a n).1 (bodR S.bs a n).2.1 (bodR S.bs a n).2.2) := by
  have hl := h.len
  by_cases hn : 0 ≤ n ∧ n ≤ 4611686018427387904
  · obtain ⟨k, rfl⟩ : ∃ k : Nat, n = k := ⟨n.toNat, by omega⟩
    refine (body_any w g a t S h ho k (by omega)).mono ?_
    intro e w' h'
    unfold bodR
    rw [if_pos hn, Int.toNat_natCast]
    rcases h' with ⟨h1, p, rfl, h2, h3, ⟨t', h4⟩, h5⟩ | ⟨h1, rfl, ⟨t', h3⟩, h4⟩
    · rw [if_pos (by omega)]
      have hk : ((S.bs.drop a).take k).length = k := by rw [List.length_take, List.length_drop, hl]; have := padN_ge k; omega
      exact ⟨p, k, k, t', rfl, hk, h2, h3, h4, h5⟩
    · rw [if_neg (by omega)]
      exact ⟨none, 0, 0, t', rfl, rfl, fun hh => absurd hh (by omega), (fun x hx => by cases hx), by rw [hl]; exact h3, h4⟩
  · refine (body_wrong w g a t S h n hn).mono ?_
    rintro e w' ⟨rfl, h2, h3⟩
    unfold bodR
    rw [if_neg hn]
    exact ⟨none, 0, 0, t, rfl, rfl, fun hh => absurd hh (by omega), (fun x hx => by cases hx), h2, h3.of_none _⟩
theorem blkR_le (bs : List UInt8) (a : Nat) (h : a ≤ bs.length) : (blkR bs a).2.2 ≤ bs.length := by
  unfold blkR
  split
  · exact h
  · split
    · assumption
    · exact Nat.le_refl _
theorem bodR_le (bs : List UInt8) (a : Nat) (n : Int) (h : a ≤ bs.length) : (bodR bs a n).2.2 ≤ bs.length := by
  unfold bodR
  split
  · split
    · assumption
    · exact Nat.le_refl _
  · exact h

/-- the asks at p: the i-th is V i, of U i bytes -/
def AAt (w : World) (p : Option Addr) (n : Nat) (V : Nat → Bool) (U : Nat → Int) : Prop :=
  0 < n → ∃ b o, p = some ⟨b, o, none⟩ ∧ b < w.heap.size ∧ ∀ i, i < n → w.cell? ⟨b, o + i * 2, none⟩ = some (.bool (V i)) ∧ w.cell? ⟨b, o + i * 2 + 1, none⟩ = some (.int .i64 (U i)) ∧ (Lit.int .i64 (U i)).wf = true
theorem AAt.kept {T : Nat → Prop} {w w' : World} {p : Option Addr} {n : Nat} {V : Nat → Bool} {U : Nat → Int} (h : AAt w p n V U) (hk : Kept T w w') (hn : 0 < n → ∀ a, p = some a → ¬ T a.block) : AAt w' p n V U := fun h0 => by
  obtain ⟨b, o, rfl, hbw, hc⟩ := h h0
  have hb := hk.block b hbw (hn h0 _ rfl)
  exact ⟨b, o, rfl, Nat.lt_of_lt_of_le hbw hk.size, fun i hi => ⟨by rw [World.cell?_of_block hb]; exact (hc i hi).1, by rw [World.cell?_of_block hb]; exact (hc i hi).2.1, (hc i hi).2.2⟩⟩
/-- what a source leads to lies in no block g -/
def Sv.apart (S : Sv) (g : Nat) : Prop := (∀ x, S.p = some x → x.block ≠ g) ∧ (∀ x, S.q = some x → x.block ≠ g)
theorem Src.kept1 {w w' : World} {g a t g' : Nat} {S : Sv} (h : Src w g S a t) (hk : Kept (oneB g') w w') (hg : g ≠ g') (hap : S.apart g') : Src w' g S a t :=
  h.kept hk hg (fun _ x hx => hap.1 x hx) (fun _ x hx => hap.2 x hx)
end Go.Proofs.YtindibabpfdljaaDoor.Block
