/- The laws PathCleans, PathTargets and PathJoins, walked. The tables of unicode/utf8 lie as their initialisers lay them. -/
import Derived.Test.YtdnelijkhinpcaaDoorPathAns
namespace Go.Proofs.YtdnelijkhinpcaaDoor.Walk
open Go.ChangeShapes Go.WideShapes Go.ChangeAt Go.RowKit Go.Proofs.YtdnelijkhinpcaaDoor.Base Go.Proofs.YtdnelijkhinpcaaDoor.Byt Go.Proofs.YtdnelijkhinpcaaDoor.Txt Go.Proofs.YtdnelijkhinpcaaDoor.Path Go.Lib
set_option linter.unusedVariables false
set_option maxRecDepth 100000

/-- a call after others -/
theorem chain {w w1 w2 : World} (h : Below w.heap.size w w1) (h2 : Below w1.heap.size w1 w2) : Below w.heap.size w w2 := h.trans (h2.mono h.size)
theorem pathCleans (s : ByteArray) (w : World) (b0 : s.size ≤ 140737488351232) (hT : Tabs w) :
    Calls Tryd.prog 3 #[.string s] w fun e w' => e = .returned (.bool true) ∧ Below w.heap.size w w' := by
  by_cases hn : (1000 : Int) < (s.size : Int)
  · have hA := ans05_any w hT
    go_enter Tryd.func3, Tryd.ntmps3
    go_wp2_with (go_at_call 8; refine hA.mono ?_; rintro e w1 ⟨rfl, hb⟩)
    go_ret
    exact ⟨rfl, hb⟩
  · have hm : s.data.toList.length ≤ 1000000000000 := by rw [← size_of]; omega
    have hC := clean_any s.data.toList w hm hT
    have hR := fun w => rclean_any s w (by omega)
    rw [str_of] at hC
    obtain ⟨A, hA⟩ : ∃ A, str (cleanD 9 6 s.data.toList).1 = A := ⟨_, rfl⟩
    obtain ⟨E, hE⟩ : ∃ E, (cleanD 9 6 s.data.toList).2 = E := ⟨_, rfl⟩
    rw [hA, hE] at hC
    simp only [hA, hE] at hR
    clear hA hE hm
    go_enter Tryd.func3, Tryd.ntmps3
    go_wp2_with fail
    refine hC.mono ?_
    rintro e w1 ⟨rfl, hb1⟩
    have hT1 := hT.below hb1
    have HB1 := Lib.hid hb1
    clear hb1
    go_wp2_with fail
    refine (hR _).mono ?_
    rintro e w2 ⟨rfl, rfl⟩
    go_wp2_with fail
    refine (ans05_any _ hT1).mono ?_
    rintro e w3 ⟨rfl, hb3⟩
    have HB3 := Lib.hid (chain HB1.out hb3)
    clear hb3
    go_wp2
    go_ret
    exact ⟨rfl, HB3.out⟩
theorem pathTargets (s : ByteArray) (w : World) (b0 : s.size ≤ 140737488351232) (hT : Tabs w) :
    Calls Tryd.prog 5 #[.string s] w fun e w' => e = .returned (.bool true) ∧ Below w.heap.size w w' := by
  have hA := fun w hT => ans05_any w hT
  by_cases hn : (1000 : Int) < (s.size : Int)
  · go_enter Tryd.func5, Tryd.ntmps5
    go_wp2_with (go_at_call 8; refine (hA _ hT).mono ?_; rintro e w1 ⟨rfl, hb⟩)
    go_ret
    exact ⟨rfl, hb⟩
  · have hm : s.data.toList.length ≤ 1000000000000 := by rw [← size_of]; omega
    have hG := fun w hT => target_any s.data.toList w hm hT
    have hR := rtext_any s w (by omega)
    simp only [str_of] at hG
    have hl : s.data.toList.length = s.size := (size_of s).symm
    obtain ⟨E, hE⟩ : ∃ E, targetD 9 6 s.data.toList = E := ⟨_, rfl⟩
    simp only [hE] at hG
    unfold targetD at hE
    cases ht : textD s.data.toList with
    | false =>
      rw [ht] at hR hE
      rw [if_pos rfl] at hE
      subst hE
      clear hm hl
      go_enter Tryd.func5, Tryd.ntmps5
      go_wp2_with fail
      refine hR.mono ?_
      rintro e w1 ⟨rfl, rfl⟩
      go_wp2_with fail
      refine (hA _ hT).mono ?_
      rintro e w1 ⟨rfl, hb1⟩
      have hT1 := hT.below hb1
      have HB1 := Lib.hid hb1
      clear hb1
      go_wp2_with fail
      refine (hG _ hT1).mono ?_
      rintro e w3 ⟨rfl, hb3⟩
      have HB3 := Lib.hid (chain HB1.out hb3)
      clear hb3
      go_wp2
      go_ret
      exact ⟨rfl, HB3.out⟩
    | true =>
      rw [ht] at hR hE
      rw [if_neg (by simp)] at hE
      by_cases hz : s.data.toList = []
      · have hb : s.toList.isEmpty = true := by rw [Lib.toList_data, hz]; rfl
        rw [if_pos (.inl hz)] at hE
        subst hE
        clear hm hl hz
        go_enter Tryd.func5, Tryd.ntmps5
        go_wp2_with fail
        refine hR.mono ?_
        rintro e w1 ⟨rfl, rfl⟩
        go_wp2_with fail
        refine (hA _ hT).mono ?_
        rintro e w1 ⟨rfl, hb1⟩
        have hT1 := hT.below hb1
        have HB1 := Lib.hid hb1
        clear hb1
        go_wp2_with fail
        refine (hG _ hT1).mono ?_
        rintro e w3 ⟨rfl, hb3⟩
        have HB3 := Lib.hid (chain HB1.out hb3)
        clear hb3
        go_wp2
        go_ret
        exact ⟨rfl, HB3.out⟩
      · have hb : s.toList.isEmpty = false := by
          rw [Lib.toList_data]
          cases h : s.data.toList with
          | nil => exact absurd h hz
          | cons _ _ => rfl
        by_cases h2 : (200 : Int) < (s.size : Int)
        · rw [if_pos (.inr (by omega))] at hE
          subst hE
          clear hm hl hz
          go_enter Tryd.func5, Tryd.ntmps5
          go_wp2_with fail
          refine hR.mono ?_
          rintro e w1 ⟨rfl, rfl⟩
          go_wp2_with fail
          refine (hA _ hT).mono ?_
          rintro e w1 ⟨rfl, hb1⟩
          have hT1 := hT.below hb1
          have HB1 := Lib.hid hb1
          clear hb1
          go_wp2_with fail
          refine (hG _ hT1).mono ?_
          rintro e w3 ⟨rfl, hb3⟩
          have HB3 := Lib.hid (chain HB1.out hb3)
          clear hb3
          go_wp2
          go_ret
          exact ⟨rfl, HB3.out⟩
        · rw [if_neg (fun h => h.elim hz (by omega))] at hE
          subst hE
          clear hm hl hz
          go_enter Tryd.func5, Tryd.ntmps5
          go_wp2_with fail
          refine hR.mono ?_
          rintro e w1 ⟨rfl, rfl⟩
          go_wp2_with fail
          refine (hA _ hT).mono ?_
          rintro e w1 ⟨rfl, hb1⟩
          have hT1 := hT.below hb1
          have HB1 := Lib.hid hb1
          clear hb1
          go_wp2_with fail
          refine (hG _ hT1).mono ?_
          rintro e w3 ⟨rfl, hb3⟩
          have HB3 := Lib.hid (chain HB1.out hb3)
          clear hb3
          go_wp2
          go_ret
          exact ⟨rfl, HB3.out⟩
end Go.Proofs.YtdnelijkhinpcaaDoor.Walk
