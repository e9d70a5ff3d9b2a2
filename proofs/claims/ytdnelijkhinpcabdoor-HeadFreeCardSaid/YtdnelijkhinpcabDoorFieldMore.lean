/- More plain mathematics of layer field: a number that fits in some bytes fits in more; a field's first byte. -/
import Derived.Test.YtdnelijkhinpcabDoorFieldPlain
namespace Go.Proofs.YtdnelijkhinpcabDoor.Fp
open Go.Lib
theorem restD_div (base : Int) : ∀ (k : Nat) (n : Int), restD base k (n / base) = restD base k n / base
  | 0, _ => rfl
  | k + 1, n => restD_div base k (n / base)
theorem restD_more (base : Int) (k : Nat) (n : Int) (h : restD base k n = 0) : restD base (k + 1) n = 0 := by
  rw [restD, restD_div, h, Int.zero_ediv]
theorem putF_more {n wide : Int} {l : List Int} (h : putF n wide = some l) (hw : wide ≤ 99) : ∃ l', putF n (wide + 1) = some l' := by
  obtain ⟨_, h2, h3, h0, h1⟩ := putF_length h
  unfold putF at h ⊢
  rw [if_pos ⟨h0, h1, h2, h3⟩] at h
  rw [if_pos ⟨h0, h1, by omega, by omega⟩, show (wide + 1 - 1).toNat = (wide - 1).toNat + 1 by omega]
  split at h
  · rename_i hr
    rw [if_pos (restD_more 8 _ n hr)]
    exact ⟨_, rfl⟩
  · split at h
    · rename_i hr
      split
      · exact ⟨_, rfl⟩
      · rw [if_pos (restD_more 256 _ n hr)]
        exact ⟨_, rfl⟩
    · cases h
theorem putF_head {n wide : Int} {l : List Int} (h : putF n wide = some l) : ∃ x t, l = x :: t ∧ (x = 128 ∨ 48 ≤ x ∧ x < 56) := by
  obtain ⟨_, h2, h3, h0, h1⟩ := putF_length h
  unfold putF at h
  rw [if_pos ⟨h0, h1, h2, h3⟩] at h
  split at h
  · cases h
    cases hd : putD 8 48 (wide - 1).toNat n with
    | nil =>
      have := putD_length 8 48 (wide - 1).toNat n
      rw [hd] at this
      simp at this
      omega
    | cons x t =>
      have := putD_bd 8 48 (by omega) (wide - 1).toNat n x (by rw [hd]; exact List.mem_cons_self ..)
      exact ⟨x, t ++ [0], rfl, .inr (by omega)⟩
  · split at h
    · cases h
      exact ⟨128, _, rfl, .inl rfl⟩
    · cases h
/-- octal digits have room -/
theorem putF_octal {n wide : Int} {l : List Int} (h : putF n wide = some l) (hr : restD 8 (wide - 1).toNat n = 0) : l = putD 8 48 (wide - 1).toNat n ++ [0] := by
  obtain ⟨_, h2, h3, h0, h1⟩ := putF_length h
  unfold putF at h
  rw [if_pos ⟨h0, h1, h2, h3⟩, if_pos hr] at h
  exact (Option.some.inj h).symm
theorem putF_fits {n wide : Int} (h0 : 0 ≤ n) (h1 : n ≤ 4611686018427387904) (h2 : 2 ≤ wide) (h3 : wide ≤ 100) (hr : restD 8 (wide - 1).toNat n = 0) : putF n wide = some (putD 8 48 (wide - 1).toNat n ++ [0]) := by
  rw [putF, if_pos ⟨h0, h1, h2, h3⟩, if_pos hr]
theorem putF_wide {n wide : Int} {l : List Int} (h : putF n wide = some l) (hr : restD 8 (wide - 1).toNat n ≠ 0) : ∃ t, l = 128 :: t := by
  obtain ⟨_, h2, h3, h0, h1⟩ := putF_length h
  unfold putF at h
  rw [if_pos ⟨h0, h1, h2, h3⟩, if_neg hr] at h
  split at h
  · cases h; exact ⟨_, rfl⟩
  · cases h
theorem restD_shift (k : Nat) (n : Int) : restD 8 k n = n / 2 ^ (3 * k) := by
  induction k with
  | zero => simp [restD]
  | succ k ih =>
    rw [restD, restD_div, ih, Int.ediv_ediv_of_nonneg (Int.le_of_lt (Int.pow_pos (by omega)))]
    congr 1
    rw [show 3 * (k + 1) = 3 * k + 3 by omega, Int.pow_add]
    rfl
end Go.Proofs.YtdnelijkhinpcabDoor.Fp
