/- The walks over FieldParses, FieldPuts, FieldWide and FieldOctal: each returns true, and writes nothing that was there. -/
import Derived.Test.YtlofmlpjleockaaDoorFieldLaws
import Derived.Test.YtlofmlpjleockaaDoorBytApp
namespace Go.Proofs.YtlofmlpjleockaaDoor.Walk
open Go.ChangeShapes Go.WideShapes Go.ChangeAt Go.RowKit Go.Proofs.YtlofmlpjleockaaDoor.Base Go.Proofs.YtlofmlpjleockaaDoor.Num Go.Proofs.YtlofmlpjleockaaDoor.Fp Go.Proofs.YtlofmlpjleockaaDoor.Byt Go.Proofs.YtlofmlpjleockaaDoor.Field
set_option linter.unusedVariables false
open Go.Lib (bytesOf)

set_option maxHeartbeats 1000000 in
theorem fieldParses (a : Option Addr) (len cap : Nat) (zs : List Int) (w : World) (w0 : IsRow .u8 w a len cap zs) (b0 : cap * 1 ≤ 140737488351232) :
    Calls Tryd.prog 3 #[.slice a len cap] w fun e w' => e = .returned (.bool true) ∧ Below w.heap.size w w' := by
  obtain ⟨hbat, hlen, hlc, hcm⟩ := bat_of_row w0
  obtain ⟨bs, hbs⟩ : ∃ bs, bs = bytesOf (zs.take len) := ⟨_, rfl⟩
  rw [← hbs] at hbat hlen
  clear hbs w0
  have hm' : len ≤ 9223372036854775807 := by unfold maxLen at hcm; omega
  have H := Lib.hid hbat
  have HL := Lib.hid hlen
  clear hbat hlen
  by_cases h3 : 300 < len
  · go_enter Tryd.func3, Tryd.ntmps3
    go_wp2_with fail
    refine (ans02_any _).mono ?_
    rintro e w1 ⟨rfl, hb1⟩
    go_wp2
    go_ret
    exact ⟨rfl, hb1⟩
  · obtain ⟨i0, hi, hz0, hz1, hz2⟩ := info_parts infoByte
    have HI := Lib.hid hi
    have HZ0 := Lib.hid hz0
    have HZ1 := Lib.hid hz1
    have HZ2 := Lib.hid hz2
    clear hi hz0 hz1 hz2
    have HP := Lib.hid (refParse_is bs)
    obtain ⟨x, q, hxq⟩ : ∃ x q, valI (parseF bs) = x ∧ okI (parseF bs) = q := ⟨_, _, rfl, rfl⟩
    obtain ⟨y, q2, hyq⟩ : ∃ y q2, (refParse bs).1 = y ∧ (refParse bs).2 = q2 := ⟨_, _, rfl, rfl⟩
    have hq2 : q2 = q := by rw [← hyq.2, ← hxq.2]; exact HP.out.1
    have hy : q = true → y = x := fun h => by rw [← hyq.1, ← hxq.1]; exact HP.out.2 (by rw [hxq.2]; exact h)
    have hx0 : q = false → x = 0 := fun h => by
      rw [← hxq.1]
      have := hxq.2
      cases hp : parseF bs with
      | none => rfl
      | some r => rw [hp] at this; rw [h] at this; cases this
    subst hq2
    have HX := Lib.hid hxq
    have HY := Lib.hid hyq
    clear hxq hyq HP
    cases q2
    · obtain rfl := hx0 rfl
      clear hy hx0
      go_enter Tryd.func3, Tryd.ntmps3
      go_wp2_with (at_builtin; refine append_bytes rfl _ _ 22 rfl w.heap.size 5 i0 Tryd.underlying22 HI.out HZ0.out HZ1.out HZ2.out _ 0 [] rfl (World.ownsRow_made w #[] 0 (Nat.le_refl _) (by decide) rfl) a len cap bs rfl (H.out.alloc _) HL.out (by omega) (by simp) ?_)
      intro v' w1 hown hgrow
      have hbel : Below w.heap.size w w1 := ((Below.refl _ _).alloc (Nat.le_refl _) _).grown hgrow (by simp) (by intro k hk; simp [Value.ownBlock] at hk; omega)
      obtain ⟨p, c, rfl, hc, hm, hbat, hbl⟩ := bat_of_own hown (nums_bd bs)
      rw [bytesOf_nums] at hbat
      have HB := Lib.hid hbat
      have HBE := Lib.hid hbel
      clear hown hgrow hbel hbat hbl
      go_wp2_with fail
      refine (parse_any p len c bs w1 HL.out hc hm HB.out).mono ?_
      rintro e w2 ⟨rfl, hb2⟩
      rw [HX.out.1, HX.out.2]
      have HBF := Lib.hid (below_trans HBE.out hb2)
      clear hb2
      go_wp2_with fail
      refine (rfield_any a len cap bs w2 HL.out hlc hcm (H.out.below HBF.out)).mono ?_
      rintro e w3 ⟨rfl, rfl⟩
      rw [HY.out.1, HY.out.2]
      go_wp2_with fail
      refine (ans02_any _).mono ?_
      rintro e w4 ⟨rfl, hb4⟩
      have HBG := Lib.hid (below_trans HBF.out hb4)
      clear hb4
      go_wp2
      go_ret
      exact ⟨rfl, HBG.out⟩
    · obtain rfl := hy rfl
      clear hy hx0
      go_enter Tryd.func3, Tryd.ntmps3
      go_wp2_with (at_builtin; refine append_bytes rfl _ _ 22 rfl w.heap.size 5 i0 Tryd.underlying22 HI.out HZ0.out HZ1.out HZ2.out _ 0 [] rfl (World.ownsRow_made w #[] 0 (Nat.le_refl _) (by decide) rfl) a len cap bs rfl (H.out.alloc _) HL.out (by omega) (by simp) ?_)
      intro v' w1 hown hgrow
      have hbel : Below w.heap.size w w1 := ((Below.refl _ _).alloc (Nat.le_refl _) _).grown hgrow (by simp) (by intro k hk; simp [Value.ownBlock] at hk; omega)
      obtain ⟨p, c, rfl, hc, hm, hbat, hbl⟩ := bat_of_own hown (nums_bd bs)
      rw [bytesOf_nums] at hbat
      have HB := Lib.hid hbat
      have HBE := Lib.hid hbel
      clear hown hgrow hbel hbat hbl
      go_wp2_with fail
      refine (parse_any p len c bs w1 HL.out hc hm HB.out).mono ?_
      rintro e w2 ⟨rfl, hb2⟩
      rw [HX.out.1, HX.out.2]
      have HBF := Lib.hid (below_trans HBE.out hb2)
      clear hb2
      go_wp2_with fail
      refine (rfield_any a len cap bs w2 HL.out hlc hcm (H.out.below HBF.out)).mono ?_
      rintro e w3 ⟨rfl, rfl⟩
      rw [HY.out.1, HY.out.2]
      go_wp2_with fail
      refine (ans02_any _).mono ?_
      rintro e w4 ⟨rfl, hb4⟩
      have HBG := Lib.hid (below_trans HBF.out hb4)
      clear hb4
      go_wp2
      go_ret
      exact ⟨rfl, HBG.out⟩

theorem conv_bat {w : World} {p : Option Addr} {n : Nat} {bs : List UInt8} (h : BAt w p n bs) (hn : bs.length = n) (c : Nat) :
    (convert 22 9 (.slice p n c)).run Tryd.prog w = .ok (.string ⟨bs.toArray⟩) w := conv_at h hn _ _ _ Tryd.underlying22 Tryd.underlying5 Tryd.underlying9 c
set_option maxHeartbeats 1000000 in
theorem fieldPuts (n wide : Int) (w : World) (w0 : (Lit.int .i64 n).wf = true) (w1 : (Lit.int .i64 wide).wf = true) :
    Calls Tryd.prog 4 #[.int .i64 n, .int .i64 wide] w fun e w' => e = .returned (.bool true) ∧ Below w.heap.size w w' := by
  have W0 := Lib.hid w0
  have W1 := Lib.hid w1
  clear w0 w1
  cases hp : putF n wide with
  | none =>
    have HP := Lib.hid hp
    clear hp
    go_enter Tryd.func4, Tryd.ntmps4
    go_wp2_with fail
    refine (put_any n wide _ W0.out W1.out).mono ?_
    rintro e wa ⟨hb1, (⟨l, v, hl, _⟩ | ⟨_, rfl⟩)⟩
    · rw [HP.out] at hl; cases hl
    have HB1 := Lib.hid hb1
    clear hb1
    go_wp2_with fail
    refine (rput_any n wide _ W0.out W1.out).mono ?_
    rintro e wb ⟨hb2, (⟨l, v, hl, _⟩ | ⟨_, rfl⟩)⟩
    · rw [HP.out] at hl; cases hl
    have HB2 := Lib.hid (below_trans HB1.out hb2)
    clear hb2
    have cn := conv_bat (BAt.none_ wb none) rfl 0
    go_wp2_with fail
    refine (ans02_any _).mono ?_
    rintro e w4 ⟨rfl, hb4⟩
    have HBG := Lib.hid (below_trans HB2.out hb4)
    clear hb4
    go_wp2
    go_ret
    exact ⟨rfl, HBG.out⟩
  | some l =>
    obtain ⟨hw, _, _, h0, h1⟩ := putF_length hp
    obtain ⟨k, hk⟩ : ∃ k, k = l.length := ⟨_, rfl⟩
    rw [← hk] at hw
    subst hw
    have hkm : k ≤ 100 := by omega
    have HP := Lib.hid hp
    have HK := Lib.hid hk
    have HPA := Lib.hid (parseF_putF hp)
    clear hp hk
    go_enter Tryd.func4, Tryd.ntmps4
    go_wp2_with fail
    refine (put_any n k _ W0.out W1.out).mono ?_
    rintro e wa ⟨hb1, (⟨l1, v, hl, rfl, hown⟩ | ⟨hl, _⟩)⟩
    case inr => rw [HP.out] at hl; cases hl
    obtain rfl : l = l1 := Option.some.inj (HP.out.symm.trans hl)
    obtain ⟨p, c, rfl, hc, hm, hbat, hbl⟩ := put_bat rfl hl hown
    rw [← HK.out] at hc hbat hbl ⊢
    have HB1 := Lib.hid hb1
    have HA := Lib.hid hbat
    have HBL := Lib.hid hbl
    clear hb1 hown hl hbat hbl
    go_wp2_with fail
    refine (rput_any n k _ W0.out W1.out).mono ?_
    rintro e wb ⟨hb2, (⟨l2, v2, hl, rfl, hown⟩ | ⟨hl, _⟩)⟩
    case inr => rw [HP.out] at hl; cases hl
    obtain rfl : l = l2 := Option.some.inj (HP.out.symm.trans hl)
    obtain ⟨p2, c2, rfl, hc2, hm2, hbat2, hbl2⟩ := put_bat rfl hl hown
    rw [← HK.out] at hc2 hbat2 hbl2 ⊢
    have HB2 := Lib.hid (below_trans HB1.out hb2)
    have HA' := Lib.hid (HA.out.below hb2)
    obtain ⟨str, hstr⟩ : ∃ str : ByteArray, str = ⟨(bytesOf l).toArray⟩ := ⟨_, rfl⟩
    have cs1 := conv_bat HA'.out HBL.out c
    have cs2 := conv_bat hbat2 hbl2 c2
    rw [← hstr] at cs1 cs2
    clear hb2 hown hl hbat2 hbl2 hstr
    go_wp2_with fail
    refine (parse_any p k c _ wb HBL.out hc hm HA'.out).mono ?_
    rintro e wc ⟨rfl, hb3⟩
    rw [HPA.out, vI_some, oI_some]
    have HB3 := Lib.hid (below_trans HB2.out hb3)
    clear hb3 cs1 cs2
    go_wp2_with fail
    refine (ans02_any _).mono ?_
    rintro e w4 ⟨rfl, hb4⟩
    have HBG := Lib.hid (below_trans HB3.out hb4)
    clear hb4
    go_wp2
    go_ret
    exact ⟨rfl, HBG.out⟩
end Go.Proofs.YtlofmlpjleockaaDoor.Walk
