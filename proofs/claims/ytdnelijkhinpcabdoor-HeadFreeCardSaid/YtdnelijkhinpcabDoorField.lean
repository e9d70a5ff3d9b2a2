/- The functions of layer field by contracts: number. -/
import Derived.Test.YtdnelijkhinpcabDoorNum
import Derived.Test.YtdnelijkhinpcabDoorFieldPlain
import Derived.Test.YtdnelijkhinpcabDoorByt
namespace Go.Proofs.YtdnelijkhinpcabDoor.Field
open Go.ChangeShapes Go.WideShapes Go.ChangeAt Go.RowKit Go.Proofs.YtdnelijkhinpcabDoor.Base Go.Proofs.YtdnelijkhinpcabDoor.Num Go.Proofs.YtdnelijkhinpcabDoor.Fp Go.Proofs.YtdnelijkhinpcabDoor.Byt
set_option linter.unusedVariables false

theorem v_some (x : Int) : valO (some x) = x := rfl
theorem o_some (x : Int) : okO (some x) = true := rfl
theorem v_none : valO none = 0 := rfl
theorem o_none : okO none = false := rfl
set_option maxHeartbeats 800000 in
theorem number_any (base zero : Int) (p : Option Addr) (n c : Nat) (bs : List UInt8) (w : World) (hb0 : 2 ≤ base) (hb1 : base ≤ 256) (hz0 : 0 ≤ zero) (hz1 : zero + base ≤ 256)
    (hn : bs.length = n) (hm : n ≤ maxLen) (h : BAt w p n bs) :
    Calls Tryd.prog 34 #[.int .i64 base, .int .u8 zero, .slice p n c] w fun e w' => e = .returned (.tuple #[.int .i64 (valI (digF base zero bs 0)), .bool (okI (digF base zero bs 0))]) ∧ Below w.heap.size w w' := by
  unfold maxLen at hm
  have HN := Lib.hid hn
  have H := Lib.hid h
  clear hn h
  go_enter Tryd.func34, Tryd.ntmps34
  go_wp2
  go_loopw [8, 16] (fun s i wr => ∃ (k : Nat) (s0 : Int), k ≤ n ∧ 0 ≤ s0 ∧ s0 ≤ 4611686018427387904 ∧ i = .int .i64 k ∧ s = .int .i64 s0 ∧ Hid (digF base zero (bs.drop k) s0 = digF base zero bs 0) ∧ Below w.heap.size w wr) (fun _ i _ => n - (intOf i).toNat)
  case atStart => exact ⟨0, 0, Nat.zero_le _, by omega, by decide, rfl, rfl, Lib.hid rfl, Below.refl _ _⟩
  case round =>
    obtain ⟨k, s0, hk, hs0, hs1, rfl, rfl, hr, hbel⟩ := hrel
    by_cases hlt : k < n
    · obtain ⟨b, o, rfl, hbw, hcell⟩ := H.out.cell hlt
      have hc := hcell k hlt
      clear hcell
      obtain ⟨x, hx⟩ : ∃ x : Int, x = ((bs.getD k 0).toNat : Int) := ⟨_, rfl⟩
      rw [← hx] at hc
      have hxb := u8_bd (bs.getD k 0)
      rw [← hx] at hxb
      have HX := Lib.hid hx
      clear hx
      obtain ⟨hx0, hx1⟩ := hxb
      rw [← hbel.cell hbw] at hc
      by_cases hd : base ≤ (x - zero) % 256
      · have E : Hid (digF base zero bs 0 = none) := Lib.hid (by
          rw [← hr.out]; exact digF_stop base zero bs k s0 (by rw [HN.out]; exact hlt) (by rw [← HX.out]; omega))
        go_wp2
        go_ret2
        rw [E.out]
        exact ⟨rfl, hbel⟩
      · have hzx : zero ≤ x ∧ x < zero + base := by omega
        have hdx : Hid ((x - zero) % 256 = x - zero) := Lib.hid (by omega)
        have hd0 : 0 ≤ x - zero ∧ x - zero ≤ 255 := by omega
        obtain ⟨hd0, hd1⟩ := hd0
        have hp0 : 0 ≤ s0 * base := Int.mul_nonneg hs0 (by omega)
        by_cases hp : s0 * base ≤ 4611686018427387904
        · have EM : Hid (mulF s0 base = some (s0 * base)) := Lib.hid (by rw [mulF, if_pos ⟨hs0, hs1, by omega, by omega, hp⟩])
          go_wp2_with fail
          refine (mul_any _ _ _).mono ?_
          rintro e w1 ⟨rfl, rfl⟩
          rw [EM.out, v_some, o_some]
          by_cases hq : s0 * base + (x - zero) ≤ 4611686018427387904
          · have ES : Hid (sumF [s0 * base, x - zero] 0 = some (s0 * base + (x - zero))) := Lib.hid (by rw [sumF_two, if_pos ⟨hp0, hp, hd0, hq⟩])
            go_wp2_with fail
            refine (add_two _ _ _).mono ?_
            rintro e w2 ⟨rfl, rfl⟩
            rw [ES.out, v_some, o_some]
            go_wp2
            go_roundw
            case rel => exact ⟨k + 1, s0 * base + (x - zero), by omega, by omega, hq, by go_num, rfl, Lib.hid (by rw [← hr.out, digF_step base zero bs k s0 (by rw [HN.out]; exact hlt) (by rw [← HX.out]; have := hdx.out; omega), ← HX.out]), hbel.alloc hbel.size _⟩
            case measure => simp [intOf]; omega
          · have ES : Hid (sumF [s0 * base, x - zero] 0 = none) := Lib.hid (by rw [sumF_two, if_neg (by omega)])
            have E : Hid (digF base zero bs 0 = none) := Lib.hid (by
              rw [← hr.out]; exact digF_stop base zero bs k s0 (by rw [HN.out]; exact hlt) (by rw [← HX.out]; have := hdx.out; omega))
            go_wp2_with fail
            refine (add_two _ _ _).mono ?_
            rintro e w2 ⟨rfl, rfl⟩
            rw [ES.out, v_none, o_none]
            go_wp2
            go_ret2
            rw [E.out]
            exact ⟨rfl, hbel.alloc hbel.size _⟩
        · have EM : Hid (mulF s0 base = none) := Lib.hid (by rw [mulF, if_neg (by omega)])
          have E : Hid (digF base zero bs 0 = none) := Lib.hid (by
            rw [← hr.out]; exact digF_stop base zero bs k s0 (by rw [HN.out]; exact hlt) (by rw [← HX.out]; have := hdx.out; omega))
          go_wp2_with fail
          refine (mul_any _ _ _).mono ?_
          rintro e w1 ⟨rfl, rfl⟩
          rw [EM.out, v_none, o_none]
          go_wp2
          go_ret2
          rw [E.out]
          exact ⟨rfl, hbel⟩
    · have hkl : Hid (k = n) := Lib.hid (by omega)
      go_wp2
      go_ret2
      have E : digF base zero bs 0 = some s0 := by rw [← hr.out, hkl.out, ← HN.out, List.drop_length]; rfl
      rw [E]
      exact ⟨rfl, hbel⟩
end Go.Proofs.YtdnelijkhinpcabDoor.Field
