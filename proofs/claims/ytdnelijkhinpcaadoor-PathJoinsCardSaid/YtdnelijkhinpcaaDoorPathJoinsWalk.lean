/- The law PathJoins, walked. The tables of unicode/utf8 lie as their initialisers lay them. -/
import Derived.Test.YtdnelijkhinpcaaDoorPathCleansWalk
namespace Go.Proofs.YtdnelijkhinpcaaDoor.Walk
open Go.ChangeShapes Go.WideShapes Go.ChangeAt Go.RowKit Go.Proofs.YtdnelijkhinpcaaDoor.Base Go.Proofs.YtdnelijkhinpcaaDoor.Byt Go.Proofs.YtdnelijkhinpcaaDoor.Txt Go.Proofs.YtdnelijkhinpcaaDoor.Path Go.Lib
set_option linter.unusedVariables false
set_option maxRecDepth 100000

theorem pathJoins (a b : ByteArray) (w : World) (b0 : a.size ≤ 140737488351232) (b1 : b.size ≤ 140737488351232) (hT : Tabs w) :
    Calls Tryd.prog 7 #[.string a, .string b] w fun e w' => e = .returned (.bool true) ∧ Below w.heap.size w w' := by
  have hA := fun w hT => ans05_any w hT
  by_cases hn : (1000 : Int) < (a.size : Int) + (b.size : Int)
  · go_enter Tryd.func7, Tryd.ntmps7
    go_wp2_with (go_at_call 8; refine (hA _ hT).mono ?_; rintro e w1 ⟨rfl, hb⟩)
    go_ret
    exact ⟨rfl, hb⟩
  · have la := size_of a
    have lb := size_of b
    have lc : (a.data.toList ++ 47 :: b.data.toList).length ≤ 1000000000000 := by rw [List.length_append, List.length_cons]; omega
    have hC1 := fun w hT => clean_any a.data.toList w (by omega) hT
    have hC2 := fun w hT => clean_any b.data.toList w (by omega) hT
    have hC3 := fun w hT => clean_any (a.data.toList ++ 47 :: b.data.toList) w lc hT
    have e3 : str (a.data.toList ++ 47 :: b.data.toList) = a ++ ⟨#[47]⟩ ++ b := by
      rw [← str_of a, ← str_of b, show (⟨#[47]⟩ : ByteArray) = str [47] from rfl, str_app, str_app, str_data, str_data]
      simp
    simp only [str_of] at hC1 hC2
    rw [e3] at hC3
    have s1 : a.size + 1 ≤ 9223372036854775807 := by omega
    have s2 : (a ++ ⟨#[47]⟩).size + b.size ≤ 9223372036854775807 := by rw [ByteArray.size_append]; show a.size + 1 + b.size ≤ _; omega
    obtain ⟨X, E1, h1⟩ : ∃ X E, cleanD 9 6 a.data.toList = (X, E) := ⟨_, _, rfl⟩
    obtain ⟨Y, E2, h2⟩ : ∃ X E, cleanD 9 6 b.data.toList = (X, E) := ⟨_, _, rfl⟩
    obtain ⟨Z, E3, h3⟩ : ∃ X E, cleanD 9 6 (a.data.toList ++ 47 :: b.data.toList) = (X, E) := ⟨_, _, rfl⟩
    rw [h1] at hC1
    rw [h2] at hC2
    rw [h3] at hC3
    have H1 := Lib.hid h1
    have H2 := Lib.hid h2
    have H3 := Lib.hid h3
    clear h1 h2 h3 la lb lc e3
    go_enter Tryd.func7, Tryd.ntmps7
    go_wp2_with fail
    refine (hC1 _ hT).mono ?_
    rintro e w1 ⟨rfl, hb1⟩
    have hT1 := hT.below hb1
    have HB1 := Lib.hid hb1
    clear hb1 hC1
    go_wp2_with fail
    refine (hC2 _ hT1).mono ?_
    rintro e w2 ⟨rfl, hb2⟩
    have hT2 := hT1.below hb2
    have HB2 := Lib.hid (chain HB1.out hb2)
    clear hb2 hC2
    go_wp2_with fail
    refine (hC3 _ hT2).mono ?_
    rintro e w3 ⟨rfl, hb3⟩
    have hT3 := hT2.below hb3
    have HB3 := Lib.hid (chain HB2.out hb3)
    clear hb3 hC3
    by_cases hE1 : E1 = 0
    · subst hE1
      by_cases hE2 : E2 = 0
      · subst hE2
        have hZ := H3.out
        rw [clean_two 9 6 (by decide) (by decide) _ _ _ _ H1.out H2.out] at hZ
        obtain ⟨n1, hn1⟩ : ∃ n, (str X).size = n := ⟨_, rfl⟩
        obtain ⟨n2, hn2⟩ : ∃ n, (str Y).size = n := ⟨_, rfl⟩
        have m1 : X.length = n1 := by rw [← hn1, str_size]
        have m2 : Y.length = n2 := by rw [← hn2, str_size]
        have lx := (clean_self 9 6 (by decide) (by decide) _ _ H1.out).2.2.2
        have ly := (clean_self 9 6 (by decide) (by decide) _ _ H2.out).2.2.2
        have k1 : (n1 : Int) ≤ 200 := by omega
        have k2 : (n2 : Int) ≤ 200 := by omega
        by_cases h2 : 200 < X.length + Y.length + 1
        · rw [if_pos h2] at hZ
          obtain ⟨rfl, rfl⟩ := Prod.mk.injEq .. ▸ hZ
          have g : (200 : Int) < (n1 : Int) + (n2 : Int) + 1 := by omega
          have hem : (str []).toList.isEmpty = true := by rw [str_empty]; simp
          clear hZ h2 m1 m2
          go_wp2_with fail
          refine (hA _ hT3).mono ?_
          rintro e w4 ⟨rfl, hb4⟩
          have HB4 := Lib.hid (chain HB3.out hb4)
          clear hb4
          go_wp2
          go_ret
          exact ⟨rfl, HB4.out⟩
        · rw [if_neg h2] at hZ
          obtain ⟨rfl, rfl⟩ := Prod.mk.injEq .. ▸ hZ
          have g : ¬ (200 : Int) < (n1 : Int) + (n2 : Int) + 1 := by omega
          have g1 : (str X).size + 1 ≤ 9223372036854775807 := by omega
          have g2 : (str X ++ ⟨#[47]⟩).size + (str Y).size ≤ 9223372036854775807 := by rw [ByteArray.size_append]; show (str X).size + 1 + (str Y).size ≤ _; omega
          have ez : str X ++ ⟨#[47]⟩ ++ str Y = str (X ++ 47 :: Y) := by rw [show (⟨#[47]⟩ : ByteArray) = str [47] from rfl, str_app, str_app]; simp
          clear hZ h2 m1 m2
          go_wp2_with fail
          refine (hA _ hT3).mono ?_
          rintro e w4 ⟨rfl, hb4⟩
          have HB4 := Lib.hid (chain HB3.out hb4)
          clear hb4
          go_wp2
          go_ret
          exact ⟨rfl, HB4.out⟩
      · have hb2 : (E2 == 0) = false := by simpa using hE2
        obtain rfl : Y = [] := clean_none 9 6 _ _ _ H2.out hE2
        have hem : (str []).toList.isEmpty = true := by rw [str_empty]; simp
        clear hE2
        go_wp2_with fail
        refine (hA _ hT3).mono ?_
        rintro e w4 ⟨rfl, hb4⟩
        have HB4 := Lib.hid (chain HB3.out hb4)
        clear hb4
        go_wp2
        go_ret
        exact ⟨rfl, HB4.out⟩
    · have hb1 : (E1 == 0) = false := by simpa using hE1
      clear hE1
      go_wp2_with fail
      refine (hA _ hT3).mono ?_
      rintro e w4 ⟨rfl, hb4⟩
      have HB4 := Lib.hid (chain HB3.out hb4)
      clear hb4
      go_wp2
      go_ret
      exact ⟨rfl, HB4.out⟩
end Go.Proofs.YtdnelijkhinpcaaDoor.Walk
