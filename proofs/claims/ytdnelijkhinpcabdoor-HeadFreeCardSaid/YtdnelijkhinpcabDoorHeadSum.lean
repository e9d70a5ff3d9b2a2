/- Sums of bytes: head.total, parts.sum, and the document's own Sum. -/
import Derived.Test.YtdnelijkhinpcabDoorBlank
namespace Go.Proofs.YtdnelijkhinpcabDoor.Head
open Go.ChangeShapes Go.WideShapes Go.ChangeAt Go.RowKit Go.Proofs.YtdnelijkhinpcabDoor.Base Go.Proofs.YtdnelijkhinpcabDoor.Byt Go.Proofs.YtdnelijkhinpcabDoor.Hp Go.Proofs.YtdnelijkhinpcabDoor.Mp Go.Lib
set_option linter.unusedVariables false
set_option maxRecDepth 100000

theorem plain0 (bs : List UInt8) : (0 : Int) = (plainTo bs 0 : Nat) := by rw [plainTo]; rfl
theorem sum0 (bs : List UInt8) : (0 : Int) = (sumTo bs 0 : Nat) := by rw [sumTo]; rfl
theorem total_any (p : Option Addr) (n c : Nat) (bs : List UInt8) (w : World) (hm : n ≤ 140737488351232) (h : BAt w p n bs) :
    Calls Tryd.prog 29 #[.slice p n c] w fun e w' => e = .returned (.int .i64 (plainTo bs n : Nat)) ∧ w = w' := by
  have H := Lib.hid h
  clear h
  go_enter Tryd.func29, Tryd.ntmps29
  go_wp2
  go_loop [3, 8] (fun s i => ∃ (k : Nat) (m : Int), k ≤ n ∧ 0 ≤ m ∧ m ≤ 255 * k ∧ i = .int .i64 k ∧ s = .int .i64 m ∧ Hid (m = (plainTo bs k : Nat))) (fun _ i => n - (RowKit.intOf i).toNat)
  case atStart => exact ⟨0, 0, Nat.zero_le _, by omega, by omega, rfl, rfl, Lib.hid (plain0 bs)⟩
  case round =>
    obtain ⟨k, m, hk, h0, h1, rfl, rfl, hr⟩ := hrel
    by_cases hlt : k < n
    · obtain ⟨b, o, rfl, hbw, hcell⟩ := H.out.cell hlt
      have hc := hcell k hlt
      clear hcell
      obtain ⟨x, hx⟩ : ∃ x : Int, x = ((bs.getD k 0).toNat : Int) := ⟨_, rfl⟩
      rw [← hx] at hc
      have hxb := u8_bd (bs.getD k 0)
      rw [← hx] at hxb
      have HX := Lib.hid hx
      clear hx
      obtain ⟨hx0, hx1⟩ := hxb
      go_wp2
      go_round
      case rel => exact ⟨k + 1, m + x, by omega, by omega, by omega, by go_num, rfl, Lib.hid (by rw [hr.out, HX.out, plainTo]; omega)⟩
      case measure => simp [RowKit.intOf]; omega
    · have hkl : Hid (k = n) := Lib.hid (by omega)
      go_wp2
      go_ret
      rw [hr.out, hkl.out]
      exact ⟨rfl, rfl⟩
theorem sum_any (lo B : Nat) (r : Nat → Nat) (own : Nat → List UInt8) (p : Option Addr) (n c : Nat) (bs : List UInt8) (w : World) (hm : n ≤ 140737488351232) (h : BAt w p n bs) (hP : PartsAt w lo B r own) :
    Calls Tryd.prog 19 #[.map (some B), .slice p n c] w fun e w' => e = .returned (.int .i64 ((plainTo bs n : Nat) - (plainTo (own 6) 8 : Nat) + 256)) ∧ w = w' := by
  have H := Lib.hid h
  have fl := field_own
  have HP := Lib.hid hP
  have lk : (Instr.lookup 44 (.map (some B)) (.int .i64 6) false).run Tryd.prog w = .ok (.agg #[.int .i64 148, .slice (some ⟨r 6, 0, none⟩) 8 8]) w :=
    hP.map.look (P := Tryd.prog) Tryd.underlying44 Tryd.underlying47 (x := 6) (v := partV r 6) rfl
  have h1 := plainTo_le bs n
  have h2 := plainTo_le (own 6) 8
  generalize hX : plainTo bs n = X at *
  generalize hY : plainTo (own 6) 8 = Y at *
  clear h hP
  go_enter Tryd.func19, Tryd.ntmps19
  go_wp2_with fail
  refine (total_any p n c bs w hm H.out).mono ?_
  rintro e w1 ⟨rfl, rfl⟩
  rw [hX]
  go_wp2_with fail
  refine (total_any _ 8 8 (own 6) w (by decide) (HP.out.bat (i := 6) (by omega))).mono ?_
  rintro e w1 ⟨rfl, rfl⟩
  rw [hY]
  go_wp2
  go_ret
  exact ⟨rfl, rfl⟩
theorem rsum_any (p : Option Addr) (n c : Nat) (bs : List UInt8) (w : World) (hm : n ≤ 140737488351232) (h : BAt w p n bs) :
    Calls Tryd.prog 11 #[.slice p n c] w fun e w' => e = .returned (.int .i64 (sumTo bs n : Nat)) ∧ w = w' := by
  have H := Lib.hid h
  clear h
  go_enter Tryd.func11, Tryd.ntmps11
  go_wp2
  go_loop [3, 4] (fun s i => ∃ (k : Nat) (m : Int), k ≤ n ∧ 0 ≤ m ∧ m ≤ 255 * k ∧ i = .int .i64 k ∧ s = .int .i64 m ∧ Hid (m = (sumTo bs k : Nat))) (fun _ i => n - (RowKit.intOf i).toNat)
  case atStart => exact ⟨0, 0, Nat.zero_le _, by omega, by omega, rfl, rfl, Lib.hid (sum0 bs)⟩
  case round =>
    obtain ⟨k, m, hk, h0, h1, rfl, rfl, hr⟩ := hrel
    by_cases hlt : k < n
    · obtain ⟨b, o, rfl, hbw, hcell⟩ := H.out.cell hlt
      have hc := hcell k hlt
      clear hcell
      obtain ⟨x, hx⟩ : ∃ x : Int, x = ((bs.getD k 0).toNat : Int) := ⟨_, rfl⟩
      rw [← hx] at hc
      have hxb := u8_bd (bs.getD k 0)
      rw [← hx] at hxb
      have HX := Lib.hid hx
      clear hx
      obtain ⟨hx0, hx1⟩ := hxb
      by_cases hin : 148 ≤ k ∧ k < 156
      · have hin2 := hin
        obtain ⟨g1, g2⟩ := hin2
        go_wp2
        go_round
        case rel => exact ⟨k + 1, m + 32, by omega, by omega, by omega, by go_num, rfl, Lib.hid (by rw [hr.out, sumTo, if_pos hin]; omega)⟩
        case measure => simp [RowKit.intOf]; omega
      · rcases Nat.lt_or_ge k 148 with g1 | g1
        · go_wp2
          go_round
          case rel => exact ⟨k + 1, m + x, by omega, by omega, by omega, by go_num, rfl, Lib.hid (by rw [hr.out, HX.out, sumTo, if_neg hin]; omega)⟩
          case measure => simp [RowKit.intOf]; omega
        · have g2 : 156 ≤ k := by omega
          go_wp2
          go_round
          case rel => exact ⟨k + 1, m + x, by omega, by omega, by omega, by go_num, rfl, Lib.hid (by rw [hr.out, HX.out, sumTo, if_neg hin]; omega)⟩
          case measure => simp [RowKit.intOf]; omega
    · have hkl : Hid (k = n) := Lib.hid (by omega)
      go_wp2
      go_ret
      rw [hr.out, hkl.out]
      exact ⟨rfl, rfl⟩
end Go.Proofs.YtdnelijkhinpcabDoor.Head
