/- The walk over HeadCuts: it returns true for every input, and writes nothing that was there. -/
import Derived.Test.YtefgljapmncncaaDoorHeadAns
import Derived.Test.YtefgljapmncncaaDoorHeadCut
namespace Go.Proofs.YtefgljapmncncaaDoor.Walk
open Go.ChangeShapes Go.WideShapes Go.ChangeAt Go.RowKit Go.Proofs.YtefgljapmncncaaDoor.Base Go.Proofs.YtefgljapmncncaaDoor.Byt Go.Proofs.YtefgljapmncncaaDoor.Hp Go.Proofs.YtefgljapmncncaaDoor.Mp Go.Proofs.YtefgljapmncncaaDoor.Head Go.Lib
set_option linter.unusedVariables false
set_option maxRecDepth 100000

set_option maxHeartbeats 2000000 in
theorem headCuts (a : ByteArray) (w : World) (hm : a.size ≤ 140737488351232) :
    Calls Tryd.prog 6 #[.string a] w fun e w' => e = .returned (.bool true) ∧ Below w.heap.size w w' := by
  have fin : ∀ (w' : World), Kept noneB w w' → Below w.heap.size w w' := fun _ h => h.below (Nat.le_refl _) fun _ h => h.elim
  have FIN := Lib.hid fin
  clear fin
  by_cases hlong : 1000 < a.size
  · go_enter Tryd.func6, Tryd.ntmps6
    go_wp2_with fail
    refine (ans04_any _).mono ?_
    rintro e w1 ⟨rfl, hk1⟩
    go_wp2
    go_ret
    exact ⟨rfl, FIN.out _ hk1⟩
  · obtain ⟨name, hname⟩ : ∃ name, name = a.data.toList := ⟨_, rfl⟩
    have ha : a = str name := by rw [hname, str_of]
    have HN := Lib.hid hname
    have HA := Lib.hid ha
    clear hname ha
    cases hc : cutR name with
    | none =>
      have HV := Lib.hid (cutV_none hc)
      clear hc
      go_enter Tryd.func6, Tryd.ntmps6
      go_wp2_with fail
      refine (hcut_any a w hm).mono ?_
      rintro e w1 ⟨rfl, hk1⟩
      rw [← HN.out, HV.out]
      have HK1 := Lib.hid hk1
      clear hk1
      go_wp2_with fail
      refine (rcut_any a w1 hm).mono ?_
      rintro e w2 ⟨rfl, hk2⟩
      rw [← HN.out, HV.out]
      have HK2 := Lib.hid (HK1.out.trans hk2)
      clear hk2
      go_wp2_with fail
      refine (ans04_any _).mono ?_
      rintro e w3 ⟨rfl, hk3⟩
      have HK3 := Lib.hid (HK2.out.trans hk3)
      clear hk3
      go_wp2
      go_ret
      exact ⟨rfl, FIN.out _ HK3.out⟩
    | some ps =>
      obtain ⟨p, s⟩ := ps
      have HV := Lib.hid (cutV_some hc)
      obtain ⟨hs, hp, hc2⟩ := cutR_spec hc
      have hls : (str s).size ≤ 100 := by rw [str_size]; exact hs
      have hlp : (str p).size ≤ 155 := by rw [str_size]; exact hp
      clear hc hs hp
      rcases hc2 with ⟨rfl, rfl⟩ | ⟨hpe, hcat⟩
      · have hsa : str s = a := HA.out.symm
        have HV2 : Hid (cutV s = .tuple #[.string ⟨#[]⟩, .string a, .bool true]) := Lib.hid (by rw [HV.out, hsa]; rfl)
        clear HV HA hls hlp hsa
        go_enter Tryd.func6, Tryd.ntmps6
        go_wp2_with fail
        refine (hcut_any a w hm).mono ?_
        rintro e w1 ⟨rfl, hk1⟩
        rw [← HN.out, HV2.out]
        have HK1 := Lib.hid hk1
        clear hk1
        go_wp2_with fail
        refine (rcut_any a w1 hm).mono ?_
        rintro e w2 ⟨rfl, hk2⟩
        rw [← HN.out, HV2.out]
        have HK2 := Lib.hid (HK1.out.trans hk2)
        clear hk2
        go_wp2_with fail
        refine (ans04_any _).mono ?_
        rintro e w3 ⟨rfl, hk3⟩
        have HK3 := Lib.hid (HK2.out.trans hk3)
        clear hk3
        go_wp2
        go_ret
        exact ⟨rfl, FIN.out _ HK3.out⟩
      · have hb : (str p).toList.isEmpty = false := by rw [str_toList]; simpa using hpe
        have hb2 : (str p).toList ≠ [] := by rw [str_toList]; exact hpe
        have he : str p ++ ⟨#[47]⟩ ++ str s = a := by
          rw [HA.out, hcat, show (⟨#[47]⟩ : ByteArray) = str [47] from rfl, str_app', str_app']
          simp
        clear HA hcat hpe
        go_enter Tryd.func6, Tryd.ntmps6
        go_wp2_with fail
        refine (hcut_any a w hm).mono ?_
        rintro e w1 ⟨rfl, hk1⟩
        rw [← HN.out, HV.out]
        have HK1 := Lib.hid hk1
        clear hk1
        go_wp2_with fail
        refine (rcut_any a w1 hm).mono ?_
        rintro e w2 ⟨rfl, hk2⟩
        rw [← HN.out, HV.out]
        have HK2 := Lib.hid (HK1.out.trans hk2)
        clear hk2
        go_wp2_with fail
        refine (ans04_any _).mono ?_
        rintro e w3 ⟨rfl, hk3⟩
        have HK3 := Lib.hid (HK2.out.trans hk3)
        clear hk3
        go_wp2
        go_ret
        exact ⟨rfl, FIN.out _ HK3.out⟩
end Go.Proofs.YtefgljapmncncaaDoor.Walk
