/- The walk over FieldOctal: it returns true, and writes nothing that was there. -/
import Derived.Test.YtlofmlpjleockaaDoorFieldWideWalk
namespace Go.Proofs.YtlofmlpjleockaaDoor.Walk
open Go.ChangeShapes Go.WideShapes Go.ChangeAt Go.RowKit Go.Proofs.YtlofmlpjleockaaDoor.Base Go.Proofs.YtlofmlpjleockaaDoor.Num Go.Proofs.YtlofmlpjleockaaDoor.Fp Go.Proofs.YtlofmlpjleockaaDoor.Byt Go.Proofs.YtlofmlpjleockaaDoor.Field
set_option linter.unusedVariables false
open Go.Lib (bytesOf)

set_option maxHeartbeats 2000000 in
set_option maxRecDepth 100000 in
theorem fieldOctal (n wide : Int) (w : World) (w0 : (Lit.int .i64 n).wf = true) (w1 : (Lit.int .u8 wide).wf = true) :
    Calls Tryd.prog 7 #[.int .i64 n, .int .u8 wide] w fun e w' => e = .returned (.bool true) ∧ Below w.heap.size w w' := by
  obtain ⟨hw0, hw1⟩ := wf8 w1
  obtain ⟨hn1, hn2⟩ := wf64 w0
  have W0 := Lib.hid w0
  clear w0 w1
  by_cases hn : 0 ≤ n ∧ n ≤ 4611686018427387904
  · obtain ⟨h0, h1⟩ := hn
    have d21 : decide (21 ≤ wide % 20 + 2 - 1) = false := by simp; omega
    have hsh : n / 2 ^ (3 * (wide % 20 + 2 - 1)).toNat = restD 8 (wide % 20 + 2 - 1).toNat n := by
      rw [restD_shift, show (3 * (wide % 20 + 2 - 1)).toNat = 3 * (wide % 20 + 2 - 1).toNat by omega]
    by_cases hr : restD 8 (wide % 20 + 2 - 1).toNat n = 0
    · have hB : (n / 2 ^ (3 * (wide % 20 + 2 - 1)).toNat == 0) = true := by rw [hsh, hr]; rfl
      have hp := putF_fits h0 h1 (show 2 ≤ wide % 20 + 2 by omega) (by omega) hr
      have HP := Lib.hid hp
      clear hsh hr hp
      go_enter Tryd.func7, Tryd.ntmps7
      go_wp2_with fail
      refine (put_any n (wide % 20 + 2) _ W0.out (wfw (by omega) (by omega))).mono ?_
      rintro e wa ⟨hb1, (⟨l1, v, hl, rfl, hown⟩ | ⟨hl, _⟩)⟩
      case inr => rw [HP.out] at hl; cases hl
      obtain rfl : putD 8 48 (wide % 20 + 2 - 1).toNat n ++ [0] = l1 := Option.some.inj (HP.out.symm.trans hl)
      obtain ⟨p, c, rfl, hc, hm, hbat, hbl⟩ := put_bat rfl hl hown
      obtain ⟨l, hle⟩ : ∃ l, l = putD 8 48 (wide % 20 + 2 - 1).toNat n ++ [0] := ⟨_, rfl⟩
      have hlen : l.length = (wide % 20 + 2 - 1).toNat + 1 := by rw [hle, List.length_append, putD_length]; rfl
      have hbd : ∀ x ∈ l, 0 ≤ x ∧ x < 256 := putF_bd (hle ▸ hl)
      rw [← hle] at hc hbat hbl ⊢
      obtain ⟨k, hk⟩ : ∃ k, k = l.length := ⟨_, rfl⟩
      have hke : (k : Int) = wide % 20 + 2 := by omega
      have hlast : l.getD (wide % 20 + 2 - 1).toNat 0 = 0 := by
        rw [hle, List.getD, List.getElem?_append_right (by rw [putD_length]; exact Nat.le_refl _), putD_length]
        simp
      have hfirst : 48 ≤ l.getD 0 0 ∧ l.getD 0 0 < 56 := by
        have h0l : 0 < (putD 8 48 (wide % 20 + 2 - 1).toNat n).length := by rw [putD_length]; omega
        rw [hle, List.getD, List.getElem?_append_left h0l, List.getElem?_eq_getElem h0l]
        have := putD_bd 8 48 (by omega) _ n _ (List.getElem_mem h0l)
        exact this
      rw [← hk] at hc hbat hbl ⊢
      have HB1 := Lib.hid hb1
      have HA := Lib.hid hbat
      have HL := Lib.hid hk
      have HD := Lib.hid hbd
      have HLA := Lib.hid (show l.getD ((wide % 20 + 2).toNat - 1) 0 = 0 by rw [show (wide % 20 + 2).toNat - 1 = (wide % 20 + 2 - 1).toNat by omega]; exact hlast)
      obtain ⟨x, hx⟩ : ∃ x, x = l.getD 0 0 := ⟨_, rfl⟩
      rw [← hx] at hfirst
      have HX := Lib.hid hx
      clear hb1 hown hl hbat hbl hle hlen hbd hk hlast hx
      go_wp2_with fail
      refine (ans02_any _).mono ?_
      rintro e we ⟨rfl, hb5⟩
      have HBG := Lib.hid (below_trans HB1.out hb5)
      obtain ⟨b, o, rfl, _, hcell⟩ := (HA.out.below hb5).cell (k := 0) (by omega)
      have hc0 := hcell 0 (by omega)
      have hc1 := hcell ((wide % 20 + 2).toNat - 1) (by omega)
      rw [bytesOf_getD l 0 (by rw [← HL.out]; omega) HD.out, ← HX.out, Nat.add_zero] at hc0
      rw [bytesOf_getD l _ (by rw [← HL.out]; omega) HD.out, HLA.out] at hc1
      clear hb5 hcell
      obtain ⟨hx0, hx1⟩ := hfirst
      go_wp2
      all_goals
        go_ret
        first
          | exact ⟨rfl, HBG.out⟩
          | (refine ⟨?_, HBG.out⟩
             congr 1
             congr 1
             simp
             omega)
    · have hB : (n / 2 ^ (3 * (wide % 20 + 2 - 1)).toNat == 0) = false := by rw [hsh]; simpa using hr
      have HR := Lib.hid hr
      clear hsh hr
      cases hp : putF n (wide % 20 + 2) with
      | none =>
        have HP := Lib.hid hp
        clear hp
        go_enter Tryd.func7, Tryd.ntmps7
        go_wp2_with fail
        refine (put_any n (wide % 20 + 2) _ W0.out (wfw (by omega) (by omega))).mono ?_
        rintro e wa ⟨hb1, (⟨l, v, hl, _⟩ | ⟨_, rfl⟩)⟩
        · rw [HP.out] at hl; cases hl
        have HB1 := Lib.hid hb1
        clear hb1
        go_wp2_with fail
        refine (ans02_any _).mono ?_
        rintro e we ⟨rfl, hb5⟩
        have HBG := Lib.hid (below_trans HB1.out hb5)
        clear hb5
        go_wp2
        go_ret
        exact ⟨rfl, HBG.out⟩
      | some l =>
        obtain ⟨t, rfl⟩ := putF_wide hp HR.out
        have HP := Lib.hid hp
        clear hp
        go_enter Tryd.func7, Tryd.ntmps7
        go_wp2_with fail
        refine (put_any n (wide % 20 + 2) _ W0.out (wfw (by omega) (by omega))).mono ?_
        rintro e wa ⟨hb1, (⟨l1, v, hl, rfl, hown⟩ | ⟨hl, _⟩)⟩
        case inr => rw [HP.out] at hl; cases hl
        obtain rfl : 128 :: t = l1 := Option.some.inj (HP.out.symm.trans hl)
        obtain ⟨p, c, rfl, hc, hm, hbat, hbl⟩ := put_bat rfl hl hown
        obtain ⟨k, hk⟩ : ∃ k, k = ((128 : Int) :: t).length := ⟨_, rfl⟩
        have hk0 : 0 < k := by rw [hk]; simp
        rw [← hk] at hc hbat hbl ⊢
        have HB1 := Lib.hid hb1
        have HA := Lib.hid hbat
        have hkm : k ≤ 9223372036854775807 := by unfold maxLen at hm; omega
        clear hb1 hown hl hbat hbl hk
        go_wp2_with fail
        refine (ans02_any _).mono ?_
        rintro e we ⟨rfl, hb5⟩
        have HBG := Lib.hid (below_trans HB1.out hb5)
        obtain ⟨b, o, rfl, _, hcell⟩ := (HA.out.below hb5).cell hk0
        have hc0 := hcell 0 hk0
        have e1 : (((bytesOf (128 :: t)).getD 0 0).toNat : Int) = 128 := rfl
        rw [e1, Nat.add_zero] at hc0
        clear hb5 hcell e1
        go_wp2
        go_ret
        exact ⟨rfl, HBG.out⟩
  · have hp : putF n (wide % 20 + 2) = none := by rw [putF, if_neg (by omega)]
    have HP := Lib.hid hp
    clear hp
    by_cases hneg : n < 0
    · go_enter Tryd.func7, Tryd.ntmps7
      go_wp2_with fail
      refine (put_any n (wide % 20 + 2) _ W0.out (wfw (by omega) (by omega))).mono ?_
      rintro e wa ⟨hb1, (⟨l, v, hl, _⟩ | ⟨_, rfl⟩)⟩
      · rw [HP.out] at hl; cases hl
      have HB1 := Lib.hid hb1
      clear hb1
      go_wp2_with fail
      refine (ans02_any _).mono ?_
      rintro e we ⟨rfl, hb5⟩
      have HBG := Lib.hid (below_trans HB1.out hb5)
      clear hb5
      go_wp2
      go_ret
      exact ⟨rfl, HBG.out⟩
    · have hbig : 4611686018427387904 < n := by omega
      go_enter Tryd.func7, Tryd.ntmps7
      go_wp2_with fail
      refine (put_any n (wide % 20 + 2) _ W0.out (wfw (by omega) (by omega))).mono ?_
      rintro e wa ⟨hb1, (⟨l, v, hl, _⟩ | ⟨_, rfl⟩)⟩
      · rw [HP.out] at hl; cases hl
      have HB1 := Lib.hid hb1
      clear hb1
      go_wp2_with fail
      refine (ans02_any _).mono ?_
      rintro e we ⟨rfl, hb5⟩
      have HBG := Lib.hid (below_trans HB1.out hb5)
      clear hb5
      go_wp2
      go_ret
      exact ⟨rfl, HBG.out⟩
end Go.Proofs.YtlofmlpjleockaaDoor.Walk
