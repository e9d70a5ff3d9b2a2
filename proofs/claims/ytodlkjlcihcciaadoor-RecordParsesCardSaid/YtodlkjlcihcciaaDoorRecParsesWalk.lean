/- The law RecordParses, walked. -/
import Derived.Test.YtodlkjlcihcciaaDoorRecAns
import Derived.Test.YtodlkjlcihcciaaDoorBytApp
namespace Go.Proofs.YtodlkjlcihcciaaDoor.Walk
open Go.ChangeShapes Go.WideShapes Go.ChangeAt Go.RowKit Go.Proofs.YtodlkjlcihcciaaDoor.Base Go.Proofs.YtodlkjlcihcciaaDoor.Byt Go.Proofs.YtodlkjlcihcciaaDoor.Path Go.Proofs.YtodlkjlcihcciaaDoor.Rec Go.Lib
set_option linter.unusedVariables false
set_option maxRecDepth 100000

theorem infoOct6 : (Tryd.prog.info? 5).map (fun i => (i.zero, i.size, i.bytes)) = some (some (.int .u8 0), 1, 1) := by kernel_rfl
set_option maxHeartbeats 2000000 in
theorem recordParses (a : Option Addr) (len cap : Nat) (zs : List Int) (w : World) (w0 : IsRow .u8 w a len cap zs) (b0 : cap * 1 ≤ 140737488351232) (hT : Need w) :
    Calls Tryd.prog 3 #[.slice a len cap] w fun e w' => e = .returned (.bool true) ∧ Below w.heap.size w w' := by
  obtain ⟨hbat, hlen, hlc, hcm⟩ := bat_of_row w0
  obtain ⟨bs, hbs⟩ : ∃ bs, bs = bytesOf (zs.take len) := ⟨_, rfl⟩
  rw [← hbs] at hbat hlen
  clear hbs w0
  have hm' : len ≤ 9223372036854775807 := by unfold maxLen at hcm; omega
  have H := Lib.hid hbat
  have HL := Lib.hid hlen
  clear hbat hlen
  by_cases hlong : (3000 : Int) < (len : Int)
  · go_enter Tryd.func3, Tryd.ntmps3
    go_wp2_with fail
    refine (ans06_any _ hT).mono ?_
    rintro e w1 ⟨rfl, hk1⟩
    go_wp2
    go_ret
    exact ⟨rfl, hk1⟩
  · have hm12 : len ≤ 1000000000000 := by omega
    obtain ⟨i0, hi, hz0, hz1, hz2⟩ := info_parts infoOct6
    have HI := Lib.hid hi
    have HZ0 := Lib.hid hz0
    have HZ1 := Lib.hid hz1
    have HZ2 := Lib.hid hz2
    clear hi hz0 hz1 hz2
    obtain ⟨rs, er, hr⟩ : ∃ rs er, recsD 5 9 bs = (rs, er) := ⟨_, _, rfl⟩
    have HR := Lib.hid hr
    clear hr
    go_enter Tryd.func3, Tryd.ntmps3
    go_wp2_with (at_builtin; refine append_bytes rfl _ _ 22 rfl w.heap.size 5 i0 Tryd.underlying22 HI.out HZ0.out HZ1.out HZ2.out _ 0 [] rfl (World.ownsRow_made w #[] 0 (Nat.le_refl _) (by decide) rfl) a len cap bs rfl (H.out.alloc _) HL.out (by omega) (by simp) ?_)
    intro v' w1 hown hgrow
    have hbel : Below w.heap.size w w1 := ((Below.refl _ _).alloc (Nat.le_refl _) _).grown hgrow (by simp) (by intro k hk; simp [Value.ownBlock] at hk; omega)
    obtain ⟨p, c, rfl, hc, hm, hbat, hbl⟩ := bat_of_own hown (nums_bd bs)
    rw [bytesOf_nums] at hbat
    have HB := Lib.hid hbat
    have HK1 := Lib.hid hbel
    clear hown hgrow hbel hbat hbl
    go_wp2_with fail
    refine (recParse_of bs rs er HR.out p len c w1 HL.out hc hm12 HB.out (hT.below HK1.out)).mono ?_
    rintro e w2 ⟨q2, d2, rfl, hd1, hd2, hr2, hb2⟩
    have HK2 := Lib.hid (HK1.out.trans (hb2.mono HK1.out.size))
    have HR2 := Lib.hid hr2
    have HN2 := Lib.hid (hT.below HK2.out)
    clear hr2 hb2
    go_wp2_with fail
    refine (records_any a len cap bs w2 HL.out hlc hm12 (H.out.below HK2.out)).mono ?_
    unfold RecsPost
    rw [HR.out]
    rintro e w3 ⟨q3, d3, rfl, hd3, hd4, hr3, hb3⟩
    have HK3 := Lib.hid (HK2.out.trans (hb3.mono HK2.out.size))
    have HR3 := Lib.hid hr3
    have HR2b := Lib.hid (HR2.out.below hb3)
    have HN3 := Lib.hid (hT.below HK3.out)
    clear hr3 hb3
    go_wp2_with fail
    refine (ans06_any _ HN3.out).mono ?_
    rintro e w4 ⟨rfl, hb4⟩
    have HK4 := Lib.hid (HK3.out.trans (hb4.mono HK3.out.size))
    have HS := Lib.hid (same_self q2 q3 rs.length d2 d3 rs w4 (by have h1 := hd2; unfold maxLen at h1; omega) (HR2b.out.below hb4) (HR3.out.below hb4))
    clear hb4
    go_wp2_with fail
    refine HS.out.mono ?_
    rintro e w5 ⟨rfl, hb5⟩
    have HK5 := Lib.hid (HK4.out.trans (hb5.mono HK4.out.size))
    clear hb5
    go_wp2
    go_ret
    exact ⟨rfl, HK5.out⟩
end Go.Proofs.YtodlkjlcihcciaaDoor.Walk
