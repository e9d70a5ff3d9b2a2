/- The law PathFixed, walked. The tables of unicode/utf8 lie as their initialisers lay them. -/
import Derived.Test.YtdnelijkhinpcaaDoorPathCleansWalk
namespace Go.Proofs.YtdnelijkhinpcaaDoor.Walk
open Go.ChangeShapes Go.WideShapes Go.ChangeAt Go.RowKit Go.Proofs.YtdnelijkhinpcaaDoor.Base Go.Proofs.YtdnelijkhinpcaaDoor.Byt Go.Proofs.YtdnelijkhinpcaaDoor.Txt Go.Proofs.YtdnelijkhinpcaaDoor.Path Go.Lib
set_option linter.unusedVariables false
set_option maxRecDepth 100000

theorem more_len (i j : Nat) (a : List UInt8) : (moreD i j a).length = 2 * i + a.length + 2 * j := by
  have h : ∀ (n : Nat) (x y : UInt8), ((List.replicate n [x, y]).flatten).length = 2 * n := by
    intro n x y
    induction n with
    | zero => rfl
    | succ n ih => rw [List.replicate_succ, List.flatten_cons, List.length_append, ih]; simp; omega
  unfold moreD
  rw [List.length_append, List.length_append, h, h]
theorem str_ahead (i j : Nat) (a : List UInt8) : (⟨#[46, 47]⟩ : ByteArray) ++ str (moreD i j a) = str (moreD (i + 1) j a) := by
  rw [show (⟨#[46, 47]⟩ : ByteArray) = str [46, 47] from rfl, str_app, more_ahead]
theorem str_behind (i j : Nat) (a : List UInt8) : str (moreD i j a) ++ (⟨#[47, 46]⟩ : ByteArray) = str (moreD i (j + 1) a) := by
  rw [show (⟨#[47, 46]⟩ : ByteArray) = str [47, 46] from rfl, str_app, more_behind]
set_option maxHeartbeats 1000000 in
theorem pathFixed (s : ByteArray) (p q : Int) (w : World) (b0 : s.size ≤ 140737488351232) (w1 : (Lit.int .u8 p).wf = true) (w2 : (Lit.int .u8 q).wf = true) (hT : Tabs w) :
    Calls Tryd.prog 4 #[.string s, .int .u8 p, .int .u8 q] w fun e w' => e = .returned (.bool true) ∧ Below w.heap.size w w' := by
  have hA := fun w hT => ans05_any w hT
  by_cases hn : (500 : Int) < (s.size : Int)
  · go_enter Tryd.func4, Tryd.ntmps4
    go_wp2_with (go_at_call 8; refine (hA _ hT).mono ?_; rintro e w1 ⟨rfl, hb⟩)
    go_ret
    exact ⟨rfl, hb⟩
  · have ls := size_of s
    have hC1 := fun w hT => clean_any s.data.toList w (by omega) hT
    simp only [str_of] at hC1
    obtain ⟨X, E1, h1⟩ : ∃ X E, cleanD 9 6 s.data.toList = (X, E) := ⟨_, _, rfl⟩
    rw [h1] at hC1
    have H1 := Lib.hid h1
    obtain ⟨hp0, hp1⟩ := wf8 w1
    obtain ⟨hq0, hq1⟩ := wf8 w2
    clear h1 ls w1 w2
    go_enter Tryd.func4, Tryd.ntmps4
    go_wp2_with fail
    refine (hC1 _ hT).mono ?_
    rintro e w1 ⟨rfl, hb1⟩
    have hT1 := hT.below hb1
    have HB1 := Lib.hid hb1
    clear hb1 hC1
    by_cases hE1 : E1 = 0
    · subst hE1
      obtain ⟨c1, c2, c3, c4⟩ := clean_self 9 6 (by decide) (by decide) _ _ H1.out
      have HM := Lib.hid (clean_more 9 6 (by decide) (by decide) _ _ H1.out)
      have hsX : (str X).size ≤ 200 := by rw [str_size]; exact c4
      have h0 : 0 < (str X).size := by rw [str_size]; exact List.length_pos_iff.2 c2
      have hx0 : (((str X)[0]).toNat : Int) ≠ 47 := by
        have e : (str X)[0] = X.headD 47 := by
          cases X with
          | nil => exact absurd rfl c2
          | cons b t => rfl
        rw [e]
        intro h
        exact c3 (UInt8.toNat_inj.1 (show (X.headD 47).toNat = 47 by omega))
      have hx0b : ((((str X)[0]).toNat : Int) != 47) = true := by simpa using hx0
      have HC := Lib.hid c1
      have HL := Lib.hid c4
      clear c1 c2 c3 c4 hx0
      go_wp2_with fail
      have HLX := Lib.hid hsX
      go_loop [9, 10] (fun m i => ∃ (k : Nat), (k : Int) ≤ p % 4 ∧ m = .string (str (moreD k 0 X)) ∧ i = .int .i64 k) (fun _ i => 4 - (RowKit.intOf i).toNat)
      case atStart => exact ⟨0, by omega, by simp [moreD], rfl⟩
      case round =>
        obtain ⟨k, hk, rfl, rfl⟩ := hrel
        have hsz : (str (moreD k 0 X)).size ≤ 1000 := by rw [str_size, more_len]; have := HL.out; omega
        by_cases hlt : (k : Int) < p % 4
        · have hs2 : 2 + (str (moreD k 0 X)).size ≤ 9223372036854775807 := by omega
          have HE := Lib.hid (str_ahead k 0 X)
          go_wp2
          go_round
          case rel => exact ⟨k + 1, by omega, by rw [← HE.out], by go_num⟩
          case measure => simp [RowKit.intOf]; omega
        · have HK : Hid ((k : Int) = p % 4) := Lib.hid (by omega)
          go_wp2
          clear hk hlt hsz
          go_loop [9, 11] (fun m i => ∃ (k2 : Nat), (k2 : Int) ≤ q % 4 ∧ m = .string (str (moreD k k2 X)) ∧ i = .int .i64 k2) (fun _ i => 4 - (RowKit.intOf i).toNat)
          case atStart => exact ⟨0, by omega, rfl, rfl⟩
          case round =>
            obtain ⟨k2, hk2, rfl, rfl⟩ := hrel
            have hsz : (str (moreD k k2 X)).size ≤ 1000 := by rw [str_size, more_len]; have := HL.out; have := HK.out; omega
            by_cases hlt : (k2 : Int) < q % 4
            · have hs2 : (str (moreD k k2 X)).size + 2 ≤ 9223372036854775807 := by omega
              have HE := Lib.hid (str_behind k k2 X)
              go_wp2
              go_round
              case rel => exact ⟨k2 + 1, by omega, by rw [← HE.out], by go_num⟩
              case measure => simp [RowKit.intOf]; omega
            · have hs1 : (str (moreD k k2 X)).size + 1 ≤ 9223372036854775807 := by omega
              have hCX := fun w hT => clean_of X X 0 HC.out (by have := HL.out; omega) w hT
              have hCM := fun w hT => clean_of (moreD k k2 X ++ [47]) X 0 (HM.out k k2) (by rw [List.length_append, ← str_size]; simp; omega) w hT
              rw [← str_app, show str [47] = (⟨#[47]⟩ : ByteArray) from rfl] at hCM
              have hXX : ((str X).toList == (str X).toList) = true := by simp
              have hX200 : ((str X).size : Int) ≤ 200 := by omega
              go_wp2_with fail
              refine (hCX _ hT1).mono ?_
              rintro e w2 ⟨rfl, hb2⟩
              have hT2 := hT1.below hb2
              have HB2 := Lib.hid (chain HB1.out hb2)
              clear hb2 hCX
              go_wp2_with fail
              refine (hCM _ hT2).mono ?_
              rintro e w3 ⟨rfl, hb3⟩
              have hT3 := hT2.below hb3
              have HB3 := Lib.hid (chain HB2.out hb3)
              clear hb3 hCM
              go_wp2_with fail
              refine (hA _ hT3).mono ?_
              rintro e w4 ⟨rfl, hb4⟩
              have HB4 := Lib.hid (chain HB3.out hb4)
              clear hb4
              go_wp2
              go_ret
              exact ⟨rfl, HB4.out⟩
    · have hb1 : (E1 == 0) = false := by simpa using hE1
      obtain rfl : X = [] := clean_none 9 6 _ _ _ H1.out hE1
      have hem : (str []).toList.isEmpty = true := by rw [str_empty]; simp
      clear hE1
      go_wp2_with fail
      refine (hA _ hT1).mono ?_
      rintro e w4 ⟨rfl, hb4⟩
      have HB4 := Lib.hid (chain HB1.out hb4)
      clear hb4
      go_wp2
      go_ret
      exact ⟨rfl, HB4.out⟩
end Go.Proofs.YtdnelijkhinpcaaDoor.Walk
