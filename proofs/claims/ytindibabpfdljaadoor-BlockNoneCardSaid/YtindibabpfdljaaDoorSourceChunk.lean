/- Layer block's sources: reader.chunk and reader.piece. -/
import Derived.Test.YtindibabpfdljaaDoorSource
import Derived.BigRegion
namespace Go.Proofs.YtindibabpfdljaaDoor.Block
open Go.ChangeShapes Go.WideShapes Go.ChangeAt Go.RowKit Go.Proofs.YtindibabpfdljaaDoor.Base Go.Proofs.YtindibabpfdljaaDoor.Byt Go.Lib
set_option linter.unusedVariables false

theorem chunk_none (w : World) (g a t : Nat) (S : Sv) (h : Src w g S a t) (hm0 : S.m = 0) (n : Int) :
    Calls Tryd.prog 32 #[.pointer (some ⟨g, 0, none⟩), .int .i64 n] w fun e w' => e = .returned (.int .i64 n) ∧ w = w' := by
  have h2 := h.c2
  rw [hm0] at h2
  clear h hm0
  go_enter Tryd.func32, Tryd.ntmps32
  go_wp2
  go_ret
  exact ⟨rfl, rfl⟩
def ChunkPost (w : World) (g a : Nat) (S : Sv) (n : Int) (e : Ending) (w' : World) : Prop :=
  ∃ (k : Int) (t' : Nat), e = .returned (.int .i64 k) ∧ 1 ≤ k ∧ k ≤ n ∧ Src w' g S a t' ∧ Kept (oneB g) w w'
theorem chunkPost_end {w : World} {g a t m : Nat} {S : Sv} {n k : Int} (H : Src w g S a t) (HO : S.off g) (hm : S.m = m) (hm0 : 0 < m) (h1 : 1 ≤ k) (h2 : k ≤ n) :
    ChunkPost w g a S n (.returned (.int .i64 k)) (w.setCell ⟨g, 3, none⟩ (.int .i64 (((t : Int) + 1) % (m : Int)))).drew.drew := by
  have e : (((t : Int) + 1) % (m : Int)) = (((t + 1) % m : Nat) : Int) := by simp
  rw [e]
  refine ⟨k, (t + 1) % m, rfl, h1, h2, ?_, ?_⟩
  · exact (H.turn_ HO _ (fun _ => by rw [hm]; exact Nat.mod_lt _ hm0) (fun h => by omega)).kept0 (((Kept.refl _ _).drew).drew)
  · exact (((Kept.refl (oneB g) w).setCell (Or.inr (show oneB g g from rfl)) _).drew).drew
set_option maxHeartbeats 800000 in
theorem chunk_some (w : World) (g a t : Nat) (S : Sv) (h : Src w g S a t) (ho : S.off g) (hm0 : 0 < S.m) (n : Int) (hn : 1 ≤ n) :
    Calls Tryd.prog 32 #[.pointer (some ⟨g, 0, none⟩), .int .i64 n] w (ChunkPost w g a S n) := by
  have h2 := h.c2
  have h3 := h.c3
  have f3 := cells_frozen h.blk 3
  obtain ⟨b, o, hq, hb, hc⟩ := h.iat hm0
  have ht := h.turn hm0
  have hcell := hc t ht
  have hdm := h.dm
  have hmd := h.md
  unfold maxLen at hdm
  obtain ⟨z, hz⟩ : ∃ z, z = S.zs.getD t 0 := ⟨_, rfl⟩
  rw [← hz] at hcell
  rw [hq] at h2
  have H := Lib.hid h
  have HO := Lib.hid ho
  have HM := Lib.hid hm0
  obtain ⟨m, hm⟩ : ∃ m, S.m = m := ⟨_, rfl⟩
  have HMM := Lib.hid hm
  rw [hm] at h2 ht hmd hm0
  clear h ho hc hb hz hq hm
  go_enter Tryd.func32, Tryd.ntmps32
  go_wp2
  go_region
  all_goals go_wp2
  all_goals go_region
  all_goals go_wp2
  all_goals go_ret
  all_goals exact chunkPost_end H.out HO.out HMM.out hm0 (by omega) (by omega)
theorem chunk_any (w : World) (g a t : Nat) (S : Sv) (h : Src w g S a t) (ho : S.off g) (n : Int) (hn : 1 ≤ n) :
    Calls Tryd.prog 32 #[.pointer (some ⟨g, 0, none⟩), .int .i64 n] w (ChunkPost w g a S n) := by
  rcases Nat.eq_zero_or_pos S.m with h0 | h0
  · refine (chunk_none w g a t S h h0 n).mono ?_
    rintro e w' ⟨rfl, rfl⟩
    exact ⟨n, t, rfl, hn, Int.le_refl _, h, Kept.refl _ _⟩
  · exact chunk_some w g a t S h ho h0 n hn

def PiecePost (w : World) (g a : Nat) (S : Sv) (n : Int) (e : Ending) (w' : World) : Prop :=
  ∃ (p : Option Addr) (k c t' : Nat), e = .returned (.slice p k c) ∧ a + k ≤ S.n ∧ (k : Int) ≤ n ∧ (a < S.n → 0 < k) ∧ k ≤ c ∧ BAt w' p k ((S.bs.drop a).take k) ∧ Src w' g S (a + k) t' ∧ Kept (oneB g) w w'
theorem left_bat {w : World} {g a t : Nat} {S : Sv} (h : Src w g S a t) : ∃ p, leftVal S a = .slice p (S.n - a) (S.c - a) ∧ BAt w p (S.n - a) (S.bs.drop a) ∧ (0 < S.n - a → ∀ x, p = some x → x.block ≠ g) :=
  ⟨_, rfl, h.bat.drop h.le h.nc h.len, fun h0 x hx => by
    rw [if_neg (by have := h.nc; omega)] at hx
    obtain ⟨y, hy, rfl⟩ := Option.map_eq_some_iff.1 hx
    have := h.offp (by omega) y hy
    unfold Addr.add
    split <;> exact this⟩
set_option maxHeartbeats 800000 in
theorem piece_any (w : World) (g a t : Nat) (S : Sv) (h : Src w g S a t) (ho : S.off g) (n : Int) (hn : 1 ≤ n) :
    Calls Tryd.prog 25 #[.pointer (some ⟨g, 0, none⟩), .int .i64 n] w (PiecePost w g a S n) := by
  have hle := h.le
  have hnc := h.nc
  have hcm := h.cm
  unfold maxLen at hcm
  obtain ⟨l, hl⟩ : ∃ l, l = S.n - a := ⟨_, rfl⟩
  obtain ⟨d, hd⟩ : ∃ d, d = S.c - a := ⟨_, rfl⟩
  have hld : l ≤ d := by omega
  have hdm : d ≤ 9223372036854775807 := by omega
  have hlm : a + l ≤ 9223372036854775807 := by omega
  have HL := Lib.hid hl
  have HD := Lib.hid hd
  have H := Lib.hid h
  have HO := Lib.hid ho
  have HLE := Lib.hid hle
  clear h ho hl hd hle hnc hcm
  go_enter Tryd.func25, Tryd.ntmps25
  go_wp2_with fail
  refine (left_any _ g a t S H.out).mono ?_
  rintro e w1 ⟨rfl, hs1, hk1⟩
  obtain ⟨p, hp, hb1, hoff⟩ := left_bat hs1
  have HOFF := Lib.hid hoff
  rw [hp, ← HL.out, ← HD.out]
  rw [← HL.out] at hb1
  have HS1 := Lib.hid hs1
  have HK1 := Lib.hid hk1
  have HB1 := Lib.hid hb1
  clear hs1 hk1 hb1 hp hoff
  go_wp2_with fail
  refine (chunk_any _ g a t S HS1.out HO.out n hn).mono ?_
  rintro e w2 ⟨k, t2, rfl, hk, hkn, hs2, hk2⟩
  have c1 := hs2.c1
  have f1 := cells_frozen hs2.blk 1
  have HS2 := Lib.hid hs2
  have HK2 := Lib.hid hk2
  clear hs2 hk2
  obtain ⟨m, rfl⟩ : ∃ m : Nat, k = m := ⟨k.toNat, by omega⟩
  have fin : ∀ j : Nat, 1 ≤ m → j ≤ l → (j : Int) ≤ n → (0 < l → 0 < j) → PiecePost w g a S n (.returned (.slice p j d)) (w2.setCell ⟨g, 1, none⟩ (.int .i64 ((a : Int) + (j : Int)))) := by
    intro j _ hj hjn hj0
    have e : ((a : Int) + (j : Int)) = ((a + j : Nat) : Int) := by simp
    rw [e]
    have hoff : 0 < j → ∀ x, p = some x → x.block ≠ g := fun h0 => HOFF.out (by have := HL.out; omega)
    have HLo := HL.out
    have hb2 := (HB1.out.take hj).kept HK2.out hoff
    have hk3 : Kept (oneB g) w2 (w2.setCell ⟨g, 1, none⟩ (.int .i64 ((a + j : Nat) : Int))) := (Kept.refl (oneB g) w2).setCell (Or.inr (show oneB g g from rfl)) _
    refine ⟨p, j, d, t2, rfl, ?_, hjn, fun h0 => hj0 (by omega), by omega, hb2.kept hk3 hoff, HS2.out.at_ HO.out _ ?_, ((HK1.out.of_none _).trans HK2.out).trans hk3⟩
    · have := HLE.out; omega
    · have := HLE.out; omega
  have FIN := Lib.hid fin
  clear fin
  go_wp2
  all_goals go_ret
  · exact FIN.out l (by omega) (Nat.le_refl _) (by omega) (fun h => h)
  · exact FIN.out m (by omega) (by omega) (by omega) (by omega)
end Go.Proofs.YtindibabpfdljaaDoor.Block
