/- The walk over FieldWide: it returns true, and writes nothing that was there. -/
import Derived.Test.YtlofmlpjleockaaDoorFieldWalks
import Derived.Test.YtlofmlpjleockaaDoorFieldMore
namespace Go.Proofs.YtlofmlpjleockaaDoor.Walk
open Go.ChangeShapes Go.WideShapes Go.ChangeAt Go.RowKit Go.Proofs.YtlofmlpjleockaaDoor.Base Go.Proofs.YtlofmlpjleockaaDoor.Num Go.Proofs.YtlofmlpjleockaaDoor.Fp Go.Proofs.YtlofmlpjleockaaDoor.Byt Go.Proofs.YtlofmlpjleockaaDoor.Field
set_option linter.unusedVariables false
open Go.Lib (bytesOf)

theorem wfw {x : Int} (h0 : 0 ≤ x) (h1 : x ≤ 1000) : (Lit.int .i64 x).wf = true := by
  have h1 : IntKind.i64.min = -9223372036854775808 := rfl
  have h2 : IntKind.i64.max = 9223372036854775807 := rfl
  simp only [Lit.wf, Bool.and_eq_true, decide_eq_true_eq]
  omega
set_option maxHeartbeats 2000000 in
set_option maxRecDepth 100000 in
theorem fieldWide (n wide : Int) (w : World) (w0 : (Lit.int .i64 n).wf = true) (w1 : (Lit.int .u8 wide).wf = true) :
    Calls Tryd.prog 5 #[.int .i64 n, .int .u8 wide] w fun e w' => e = .returned (.bool true) ∧ Below w.heap.size w w' := by
  obtain ⟨hw0, hw1⟩ := wf8 w1
  have W0 := Lib.hid w0
  clear w0 w1
  cases hp : putF n (wide % 90 + 2) with
  | none =>
    have HP := Lib.hid hp
    clear hp
    go_enter Tryd.func5, Tryd.ntmps5
    go_wp2_with fail
    refine (put_any n (wide % 90 + 2) _ W0.out (wfw (by omega) (by omega))).mono ?_
    rintro e wa ⟨hb1, (⟨l, v, hl, _⟩ | ⟨_, rfl⟩)⟩
    · rw [HP.out] at hl; cases hl
    have HB1 := Lib.hid hb1
    clear hb1
    go_wp2_with fail
    refine (put_any n (wide % 90 + 2 + 1) _ W0.out (wfw (by omega) (by omega))).mono ?_
    rintro e wb ⟨hb2, (⟨l, v, hl, rfl, hown⟩ | ⟨hl, rfl⟩)⟩
    · obtain ⟨p, c, rfl, hc, hm, hbat, hbl⟩ := put_bat rfl hl hown
      have HB2 := Lib.hid (below_trans HB1.out hb2)
      clear hb2 hown hl hbat hbl hc hm
      go_wp2_with fail
      refine (ans02_any _).mono ?_
      rintro e w4 ⟨rfl, hb4⟩
      have HBG := Lib.hid (below_trans HB2.out hb4)
      clear hb4
      go_wp2
      go_ret
      exact ⟨rfl, HBG.out⟩
    · have HB2 := Lib.hid (below_trans HB1.out hb2)
      clear hb2 hl
      go_wp2_with fail
      refine (ans02_any _).mono ?_
      rintro e w4 ⟨rfl, hb4⟩
      have HBG := Lib.hid (below_trans HB2.out hb4)
      clear hb4
      go_wp2
      go_ret
      exact ⟨rfl, HBG.out⟩
  | some l =>
    obtain ⟨l', hp'⟩ := putF_more hp (by omega)
    obtain ⟨x, t, rfl, hx⟩ := putF_head hp
    obtain ⟨x', t', rfl, hx'⟩ := putF_head hp'
    have HP := Lib.hid hp
    have HP' := Lib.hid hp'
    have HPA := Lib.hid (parseF_putF hp)
    have HPA' := Lib.hid (parseF_putF hp')
    clear hp hp'
    go_enter Tryd.func5, Tryd.ntmps5
    go_wp2_with fail
    refine (put_any n (wide % 90 + 2) _ W0.out (wfw (by omega) (by omega))).mono ?_
    rintro e wa ⟨hb1, (⟨l1, v, hl, rfl, hown⟩ | ⟨hl, _⟩)⟩
    case inr => rw [HP.out] at hl; cases hl
    obtain rfl : x :: t = l1 := Option.some.inj (HP.out.symm.trans hl)
    obtain ⟨p, c, rfl, hc, hm, hbat, hbl⟩ := put_bat rfl hl hown
    obtain ⟨k, hk⟩ : ∃ k, k = (x :: t).length := ⟨_, rfl⟩
    have hk0 : 0 < k := by rw [hk]; simp
    rw [← hk] at hc hbat hbl ⊢
    have HB1 := Lib.hid hb1
    have HA := Lib.hid hbat
    have HBL := Lib.hid hbl
    clear hb1 hown hl hbat hbl hk
    go_wp2_with fail
    refine (put_any n (wide % 90 + 2 + 1) _ W0.out (wfw (by omega) (by omega))).mono ?_
    rintro e wb ⟨hb2, (⟨l2, v2, hl, rfl, hown⟩ | ⟨hl, _⟩)⟩
    case inr => rw [HP'.out] at hl; cases hl
    obtain rfl : x' :: t' = l2 := Option.some.inj (HP'.out.symm.trans hl)
    obtain ⟨p2, c2, rfl, hc2, hm2, hbat2, hbl2⟩ := put_bat rfl hl hown
    obtain ⟨k2, hk2⟩ : ∃ k, k = (x' :: t').length := ⟨_, rfl⟩
    have hk20 : 0 < k2 := by rw [hk2]; simp
    rw [← hk2] at hc2 hbat2 hbl2 ⊢
    have HB2 := Lib.hid (below_trans HB1.out hb2)
    have HA2 := Lib.hid (HA.out.below hb2)
    have HC2 := Lib.hid hbat2
    have HCL := Lib.hid hbl2
    clear hb2 hown hl hbat2 hbl2 hk2
    have hkm : k ≤ 9223372036854775807 ∧ k2 ≤ 9223372036854775807 := by unfold maxLen at hm hm2; omega
    obtain ⟨hkm, hk2m⟩ := hkm
    go_wp2_with fail
    refine (parse_any p k c _ wb HBL.out hc hm HA2.out).mono ?_
    rintro e wc ⟨rfl, hb3⟩
    rw [HPA.out, vI_some, oI_some]
    have HB3 := Lib.hid (below_trans HB2.out hb3)
    have HA3 := Lib.hid (HA2.out.below hb3)
    have HC3 := Lib.hid (HC2.out.below hb3)
    clear hb3
    go_wp2_with fail
    refine (parse_any p2 k2 c2 _ wc HCL.out hc2 hm2 HC3.out).mono ?_
    rintro e wd ⟨rfl, hb4⟩
    rw [HPA'.out, vI_some, oI_some]
    have HB4 := Lib.hid (below_trans HB3.out hb4)
    have HA4 := Lib.hid (HA3.out.below hb4)
    have HC4 := Lib.hid (HC3.out.below hb4)
    clear hb4
    go_wp2_with fail
    refine (ans02_any _).mono ?_
    rintro e we ⟨rfl, hb5⟩
    have HBG := Lib.hid (below_trans HB4.out hb5)
    obtain ⟨b, o, rfl, _, hcell⟩ := (HA4.out.below hb5).cell hk0
    obtain ⟨b2, o2, rfl, _, hcell2⟩ := (HC4.out.below hb5).cell hk20
    have hc0 := hcell 0 hk0
    have hc20 := hcell2 0 hk20
    have e1 : (((bytesOf (x :: t)).getD 0 0).toNat : Int) = x := by
      show ((UInt8.ofNat x.toNat).toNat : Int) = x
      exact byte_toNat x (by omega) (by omega)
    have e2 : (((bytesOf (x' :: t')).getD 0 0).toNat : Int) = x' := by
      show ((UInt8.ofNat x'.toNat).toNat : Int) = x'
      exact byte_toNat x' (by omega) (by omega)
    rw [e1, Nat.add_zero] at hc0
    rw [e2, Nat.add_zero] at hc20
    clear hb5 hcell hcell2 e1 e2
    have HX := Lib.hid hx'
    clear hx hx'
    go_wp2
    all_goals
      go_ret
      first
        | exact ⟨rfl, HBG.out⟩
        | (refine ⟨?_, HBG.out⟩
           have := HX.out
           congr 1
           congr 1
           simp
           omega)
end Go.Proofs.YtlofmlpjleockaaDoor.Walk
