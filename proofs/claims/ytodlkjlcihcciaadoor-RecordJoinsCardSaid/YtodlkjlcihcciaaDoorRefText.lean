/- The document's own Text, by contract. Written by wip/tools/genrtext.py. -/
import Derived.Test.YtodlkjlcihcciaaDoorPathPlain
import Derived.Test.YtodlkjlcihcciaaDoorTxt
namespace Go.Proofs.YtodlkjlcihcciaaDoor.Path
open Go.ChangeShapes Go.WideShapes Go.ChangeAt Go.RowKit Go.Proofs.YtodlkjlcihcciaaDoor.Base Go.Proofs.YtodlkjlcihcciaaDoor.Byt Go.Proofs.YtodlkjlcihcciaaDoor.Txt Go.Lib
set_option linter.unusedVariables false
set_option maxRecDepth 100000

theorem at_drop (s : ByteArray) (k m : Nat) (h : k + m < s.size) : at_ (s.data.toList.drop k) m = (s[k + m]).toNat := by
  unfold at_
  have h' : k + m < s.data.toList.length := by rw [← size_of]; exact h
  simp only [List.getD, List.getElem?_drop]
  rw [List.getElem?_eq_getElem h']
  rfl
theorem text_no (l : List UInt8) (hl : l ≠ []) (h : ¬ headOk l) : textD l = false := by rw [textD_step l hl, if_neg h]
theorem text_yes (l : List UInt8) (hl : l ≠ []) (h : headOk l) : textD l = textD (l.drop (wideC (at_ l 0))) := by rw [textD_step l hl, if_pos h]

set_option maxHeartbeats 4000000 in
theorem rtext_any (s : ByteArray) (w : World) (hm : s.size ≤ 140737488351232) :
    Calls Tryd.prog 21 #[.string s] w fun e w' => e = .returned (.bool (textD s.data.toList)) ∧ w = w' := by
  obtain ⟨ANS, hA⟩ : ∃ ANS, textD s.data.toList = ANS := ⟨_, rfl⟩
  rw [hA]
  have HA := Lib.hid hA
  clear hA
  go_enter Tryd.func21, Tryd.ntmps21
  go_wp2
  go_loop [3] (fun i => ∃ (k : Nat), k ≤ s.size ∧ i = .int .i64 k ∧ Hid (textD (s.data.toList.drop k) = ANS)) (fun i => s.size - (RowKit.intOf i).toNat)
  case atStart => exact ⟨0, Nat.zero_le _, rfl, Lib.hid HA.out⟩
  case round =>
    obtain ⟨k, hk, rfl, hr⟩ := hrel
    by_cases hlt : k < s.size
    · have HL : Hid ((s.data.toList.drop k).length = s.size - k) := Lib.hid (by rw [List.length_drop, ← size_of])
      have HNE : Hid (s.data.toList.drop k ≠ []) := Lib.hid (fun e => by have := HL.out; rw [e] at this; simp at this; omega)
      obtain ⟨C, hC⟩ : ∃ C : Nat, (s[k]).toNat = C := ⟨_, rfl⟩
      have hC2 : ((s[k]).toNat : Int) = (C : Int) := by rw [hC]
      have hC3 : (C : Int) ≤ 255 := by have := (s[k]).toNat_lt; omega
      have H0 : Hid (at_ (s.data.toList.drop k) 0 = C) := Lib.hid (by rw [at_drop s k 0 (by omega)]; exact hC)
      have HNO : Hid (¬ headOk (s.data.toList.drop k) → ANS = false) := Lib.hid (fun h => by rw [← hr.out]; exact text_no _ HNE.out h)
      have HYES : Hid (∀ N, wideC C = N → headOk (s.data.toList.drop k) → textD (s.data.toList.drop (k + N)) = ANS) := Lib.hid (fun N hN h => by
        rw [← hr.out, text_yes _ HNE.out h, H0.out, hN, List.drop_drop])
      clear hC
      by_cases h0 : (C : Int) = 0
      · obtain rfl : ANS = false := HNO.out (fun h => h.1 (by rw [H0.out, show C = 0 by omega]; rfl))
        have hcb : ((C : Int) == 0) = true := by simpa using h0
        clear h0
        go_wp2
        go_ret
        exact ⟨rfl, rfl⟩
      · have hcb : ((C : Int) == 0) = false := by simpa using h0
        by_cases h1 : (C : Int) < 128
        · have HW : Hid (wideC C = 1) := Lib.hid (by unfold wideC; rw [if_neg (by omega), if_pos (by omega)])
          by_cases hN : k + 1 ≤ s.size
          · have hN2 : ¬ ((s.size : Int) - (k : Int) < 1) := by omega
            go_wp2
            go_loop [6] (fun i => ∃ (j : Nat), 1 ≤ j ∧ j ≤ 1 ∧ i = .int .i64 j ∧ Hid (∀ m, 0 < m → m < j → isCont (at_ (s.data.toList.drop k) m))) (fun i => 1 - (RowKit.intOf i).toNat)
            case atStart => exact ⟨1, by omega, by omega, rfl, Lib.hid (fun m h1 h2 => by omega)⟩
            case round =>
              obtain ⟨j, hj1, hj2, rfl, hct⟩ := hrel
              by_cases hj : j < 1
              · omega
              · obtain rfl : j = 1 := by omega
                clear hj hj1 hj2
                have HOK : Hid (headOk (s.data.toList.drop k)) := Lib.hid ⟨by rw [H0.out, HW.out]; omega, by rw [H0.out, HW.out, HL.out]; omega, fun m hm h0 => hct.out m h0 (by rw [H0.out, HW.out] at hm; omega), by rw [H0.out, HW.out]; unfold isBad; omega⟩
                go_wp2
                go_round
                case rel => exact ⟨k + 1, by omega, by go_num, Lib.hid (HYES.out 1 HW.out HOK.out)⟩
                case measure => simp [RowKit.intOf]; omega
          · have hN2 : (s.size : Int) - (k : Int) < 1 := by omega
            obtain rfl : ANS = false := HNO.out (fun h => by have h1 := h.2.1; rw [H0.out, HW.out, HL.out] at h1; omega)
            go_wp2
            go_ret
            exact ⟨rfl, rfl⟩
        · by_cases h2 : (194 : Int) ≤ (C : Int)
          · by_cases h3 : (C : Int) < 224
            · have HW : Hid (wideC C = 2) := Lib.hid (by unfold wideC; rw [if_neg (by omega), if_neg (by omega), if_pos (by omega)])
              by_cases hN : k + 2 ≤ s.size
              · have hN2 : ¬ ((s.size : Int) - (k : Int) < 2) := by omega
                go_wp2
                go_loop [6] (fun i => ∃ (j : Nat), 1 ≤ j ∧ j ≤ 2 ∧ i = .int .i64 j ∧ Hid (∀ m, 0 < m → m < j → isCont (at_ (s.data.toList.drop k) m))) (fun i => 2 - (RowKit.intOf i).toNat)
                case atStart => exact ⟨1, by omega, by omega, rfl, Lib.hid (fun m h1 h2 => by omega)⟩
                case round =>
                  obtain ⟨j, hj1, hj2, rfl, hct⟩ := hrel
                  by_cases hj : j < 2
                  · have hkj : k + j < s.size := by omega
                    obtain ⟨D, hD⟩ : ∃ D : Nat, (s[k + j]).toNat = D := ⟨_, rfl⟩
                    have hD2 : ((s[k + j]).toNat : Int) = (D : Int) := by rw [hD]
                    have HD : Hid (at_ (s.data.toList.drop k) j = D) := Lib.hid (by rw [at_drop s k j hkj]; exact hD)
                    have hD3 : (D : Int) ≤ 255 := by have := (s[k + j]).toNat_lt; omega
                    clear hD
                    by_cases g1 : (D : Int) < 128
                    · obtain rfl : ANS = false := HNO.out (fun h => by have h1 := h.2.2.1 j (by rw [H0.out, HW.out]; exact hj) (by omega); rw [HD.out] at h1; unfold isCont at h1; omega)
                      go_wp2
                      go_ret
                      exact ⟨rfl, rfl⟩
                    · by_cases g2 : (191 : Int) < (D : Int)
                      · obtain rfl : ANS = false := HNO.out (fun h => by have h1 := h.2.2.1 j (by rw [H0.out, HW.out]; exact hj) (by omega); rw [HD.out] at h1; unfold isCont at h1; omega)
                        go_wp2
                        go_ret
                        exact ⟨rfl, rfl⟩
                      · have HCT : Hid (∀ m, 0 < m → m < j + 1 → isCont (at_ (s.data.toList.drop k) m)) := Lib.hid (fun m h1 h2 => by
                          rcases Nat.lt_succ_iff_lt_or_eq.1 h2 with h3 | rfl
                          · exact hct.out m h1 h3
                          · rw [HD.out]; unfold isCont; omega)
                        go_wp2
                        go_round
                        case rel => exact ⟨j + 1, by omega, by omega, by go_num, HCT⟩
                        case measure => simp [RowKit.intOf]; omega
                  · obtain rfl : j = 2 := by omega
                    clear hj hj1 hj2
                    have HOK : Hid (headOk (s.data.toList.drop k)) := Lib.hid ⟨by rw [H0.out, HW.out]; omega, by rw [H0.out, HW.out, HL.out]; omega, fun m hm h0 => hct.out m h0 (by rw [H0.out, HW.out] at hm; omega), by rw [H0.out, HW.out]; unfold isBad; omega⟩
                    go_wp2
                    go_round
                    case rel => exact ⟨k + 2, by omega, by go_num, Lib.hid (HYES.out 2 HW.out HOK.out)⟩
                    case measure => simp [RowKit.intOf]; omega
              · have hN2 : (s.size : Int) - (k : Int) < 2 := by omega
                obtain rfl : ANS = false := HNO.out (fun h => by have h1 := h.2.1; rw [H0.out, HW.out, HL.out] at h1; omega)
                go_wp2
                go_ret
                exact ⟨rfl, rfl⟩
            · have h4 : (224 : Int) ≤ (C : Int) := by omega
              by_cases h5 : (C : Int) < 240
              · have HW : Hid (wideC C = 3) := Lib.hid (by unfold wideC; rw [if_neg (by omega), if_neg (by omega), if_neg (by omega), if_pos (by omega)])
                by_cases hN : k + 3 ≤ s.size
                · have hN2 : ¬ ((s.size : Int) - (k : Int) < 3) := by omega
                  go_wp2
                  go_loop [6] (fun i => ∃ (j : Nat), 1 ≤ j ∧ j ≤ 3 ∧ i = .int .i64 j ∧ Hid (∀ m, 0 < m → m < j → isCont (at_ (s.data.toList.drop k) m))) (fun i => 3 - (RowKit.intOf i).toNat)
                  case atStart => exact ⟨1, by omega, by omega, rfl, Lib.hid (fun m h1 h2 => by omega)⟩
                  case round =>
                    obtain ⟨j, hj1, hj2, rfl, hct⟩ := hrel
                    by_cases hj : j < 3
                    · have hkj : k + j < s.size := by omega
                      obtain ⟨D, hD⟩ : ∃ D : Nat, (s[k + j]).toNat = D := ⟨_, rfl⟩
                      have hD2 : ((s[k + j]).toNat : Int) = (D : Int) := by rw [hD]
                      have HD : Hid (at_ (s.data.toList.drop k) j = D) := Lib.hid (by rw [at_drop s k j hkj]; exact hD)
                      have hD3 : (D : Int) ≤ 255 := by have := (s[k + j]).toNat_lt; omega
                      clear hD
                      by_cases g1 : (D : Int) < 128
                      · obtain rfl : ANS = false := HNO.out (fun h => by have h1 := h.2.2.1 j (by rw [H0.out, HW.out]; exact hj) (by omega); rw [HD.out] at h1; unfold isCont at h1; omega)
                        go_wp2
                        go_ret
                        exact ⟨rfl, rfl⟩
                      · by_cases g2 : (191 : Int) < (D : Int)
                        · obtain rfl : ANS = false := HNO.out (fun h => by have h1 := h.2.2.1 j (by rw [H0.out, HW.out]; exact hj) (by omega); rw [HD.out] at h1; unfold isCont at h1; omega)
                          go_wp2
                          go_ret
                          exact ⟨rfl, rfl⟩
                        · have HCT : Hid (∀ m, 0 < m → m < j + 1 → isCont (at_ (s.data.toList.drop k) m)) := Lib.hid (fun m h1 h2 => by
                            rcases Nat.lt_succ_iff_lt_or_eq.1 h2 with h3 | rfl
                            · exact hct.out m h1 h3
                            · rw [HD.out]; unfold isCont; omega)
                          go_wp2
                          go_round
                          case rel => exact ⟨j + 1, by omega, by omega, by go_num, HCT⟩
                          case measure => simp [RowKit.intOf]; omega
                    · obtain rfl : j = 3 := by omega
                      clear hj hj1 hj2
                      have hk1 : k + 1 < s.size := by omega
                      obtain ⟨D1, hD⟩ : ∃ D : Nat, (s[k + 1]).toNat = D := ⟨_, rfl⟩
                      have hD2 : ((s[k + 1]).toNat : Int) = (D1 : Int) := by rw [hD]
                      have HD1 : Hid (at_ (s.data.toList.drop k) 1 = D1) := Lib.hid (by rw [at_drop s k 1 hk1]; exact hD)
                      have hD3 : (D1 : Int) ≤ 255 := by have := (s[k + 1]).toNat_lt; omega
                      clear hD
                      by_cases c1 : (C : Int) = 224
                      · have hc1 : ((C : Int) == 224) = true := by simpa using c1
                        have hc2 : ((C : Int) == 237) = false := by simp; omega
                        by_cases g1 : (D1 : Int) < 160
                        · obtain rfl : ANS = false := HNO.out (fun h => by have h1 := h.2.2.2; rw [H0.out, HW.out, HD1.out] at h1; unfold isBad at h1; omega)
                          go_wp2
                          go_ret
                          exact ⟨rfl, rfl⟩
                        · have HOK : Hid (headOk (s.data.toList.drop k)) := Lib.hid ⟨by rw [H0.out, HW.out]; omega, by rw [H0.out, HW.out, HL.out]; omega, fun m hm h0 => hct.out m h0 (by rw [H0.out, HW.out] at hm; omega), by rw [H0.out, HW.out, HD1.out]; unfold isBad; omega⟩
                          go_wp2
                          go_round
                          case rel => exact ⟨k + 3, by omega, by go_num, Lib.hid (HYES.out 3 HW.out HOK.out)⟩
                          case measure => simp [RowKit.intOf]; omega
                      · have hc1 : ((C : Int) == 224) = false := by simpa using c1
                        by_cases c2 : (C : Int) = 237
                        · have hc2 : ((C : Int) == 237) = true := by simpa using c2
                          by_cases g1 : (159 : Int) < (D1 : Int)
                          · obtain rfl : ANS = false := HNO.out (fun h => by have h1 := h.2.2.2; rw [H0.out, HW.out, HD1.out] at h1; unfold isBad at h1; omega)
                            go_wp2
                            go_ret
                            exact ⟨rfl, rfl⟩
                          · have HOK : Hid (headOk (s.data.toList.drop k)) := Lib.hid ⟨by rw [H0.out, HW.out]; omega, by rw [H0.out, HW.out, HL.out]; omega, fun m hm h0 => hct.out m h0 (by rw [H0.out, HW.out] at hm; omega), by rw [H0.out, HW.out, HD1.out]; unfold isBad; omega⟩
                            go_wp2
                            go_round
                            case rel => exact ⟨k + 3, by omega, by go_num, Lib.hid (HYES.out 3 HW.out HOK.out)⟩
                            case measure => simp [RowKit.intOf]; omega
                        · have hc2 : ((C : Int) == 237) = false := by simpa using c2
                          have HOK : Hid (headOk (s.data.toList.drop k)) := Lib.hid ⟨by rw [H0.out, HW.out]; omega, by rw [H0.out, HW.out, HL.out]; omega, fun m hm h0 => hct.out m h0 (by rw [H0.out, HW.out] at hm; omega), by rw [H0.out, HW.out, HD1.out]; unfold isBad; omega⟩
                          go_wp2
                          go_round
                          case rel => exact ⟨k + 3, by omega, by go_num, Lib.hid (HYES.out 3 HW.out HOK.out)⟩
                          case measure => simp [RowKit.intOf]; omega
                · have hN2 : (s.size : Int) - (k : Int) < 3 := by omega
                  obtain rfl : ANS = false := HNO.out (fun h => by have h1 := h.2.1; rw [H0.out, HW.out, HL.out] at h1; omega)
                  go_wp2
                  go_ret
                  exact ⟨rfl, rfl⟩
              · have h6 : (240 : Int) ≤ (C : Int) := by omega
                by_cases h7 : (C : Int) < 245
                · have HW : Hid (wideC C = 4) := Lib.hid (by unfold wideC; rw [if_neg (by omega), if_neg (by omega), if_neg (by omega), if_neg (by omega), if_pos (by omega)])
                  by_cases hN : k + 4 ≤ s.size
                  · have hN2 : ¬ ((s.size : Int) - (k : Int) < 4) := by omega
                    go_wp2
                    go_loop [6] (fun i => ∃ (j : Nat), 1 ≤ j ∧ j ≤ 4 ∧ i = .int .i64 j ∧ Hid (∀ m, 0 < m → m < j → isCont (at_ (s.data.toList.drop k) m))) (fun i => 4 - (RowKit.intOf i).toNat)
                    case atStart => exact ⟨1, by omega, by omega, rfl, Lib.hid (fun m h1 h2 => by omega)⟩
                    case round =>
                      obtain ⟨j, hj1, hj2, rfl, hct⟩ := hrel
                      by_cases hj : j < 4
                      · have hkj : k + j < s.size := by omega
                        obtain ⟨D, hD⟩ : ∃ D : Nat, (s[k + j]).toNat = D := ⟨_, rfl⟩
                        have hD2 : ((s[k + j]).toNat : Int) = (D : Int) := by rw [hD]
                        have HD : Hid (at_ (s.data.toList.drop k) j = D) := Lib.hid (by rw [at_drop s k j hkj]; exact hD)
                        have hD3 : (D : Int) ≤ 255 := by have := (s[k + j]).toNat_lt; omega
                        clear hD
                        by_cases g1 : (D : Int) < 128
                        · obtain rfl : ANS = false := HNO.out (fun h => by have h1 := h.2.2.1 j (by rw [H0.out, HW.out]; exact hj) (by omega); rw [HD.out] at h1; unfold isCont at h1; omega)
                          go_wp2
                          go_ret
                          exact ⟨rfl, rfl⟩
                        · by_cases g2 : (191 : Int) < (D : Int)
                          · obtain rfl : ANS = false := HNO.out (fun h => by have h1 := h.2.2.1 j (by rw [H0.out, HW.out]; exact hj) (by omega); rw [HD.out] at h1; unfold isCont at h1; omega)
                            go_wp2
                            go_ret
                            exact ⟨rfl, rfl⟩
                          · have HCT : Hid (∀ m, 0 < m → m < j + 1 → isCont (at_ (s.data.toList.drop k) m)) := Lib.hid (fun m h1 h2 => by
                              rcases Nat.lt_succ_iff_lt_or_eq.1 h2 with h3 | rfl
                              · exact hct.out m h1 h3
                              · rw [HD.out]; unfold isCont; omega)
                            go_wp2
                            go_round
                            case rel => exact ⟨j + 1, by omega, by omega, by go_num, HCT⟩
                            case measure => simp [RowKit.intOf]; omega
                      · obtain rfl : j = 4 := by omega
                        clear hj hj1 hj2
                        have hk1 : k + 1 < s.size := by omega
                        obtain ⟨D1, hD⟩ : ∃ D : Nat, (s[k + 1]).toNat = D := ⟨_, rfl⟩
                        have hD2 : ((s[k + 1]).toNat : Int) = (D1 : Int) := by rw [hD]
                        have HD1 : Hid (at_ (s.data.toList.drop k) 1 = D1) := Lib.hid (by rw [at_drop s k 1 hk1]; exact hD)
                        have hD3 : (D1 : Int) ≤ 255 := by have := (s[k + 1]).toNat_lt; omega
                        clear hD
                        by_cases c1 : (C : Int) = 240
                        · have hc1 : ((C : Int) == 240) = true := by simpa using c1
                          have hc2 : ((C : Int) == 244) = false := by simp; omega
                          by_cases g1 : (D1 : Int) < 144
                          · obtain rfl : ANS = false := HNO.out (fun h => by have h1 := h.2.2.2; rw [H0.out, HW.out, HD1.out] at h1; unfold isBad at h1; omega)
                            go_wp2
                            go_ret
                            exact ⟨rfl, rfl⟩
                          · have HOK : Hid (headOk (s.data.toList.drop k)) := Lib.hid ⟨by rw [H0.out, HW.out]; omega, by rw [H0.out, HW.out, HL.out]; omega, fun m hm h0 => hct.out m h0 (by rw [H0.out, HW.out] at hm; omega), by rw [H0.out, HW.out, HD1.out]; unfold isBad; omega⟩
                            go_wp2
                            go_round
                            case rel => exact ⟨k + 4, by omega, by go_num, Lib.hid (HYES.out 4 HW.out HOK.out)⟩
                            case measure => simp [RowKit.intOf]; omega
                        · have hc1 : ((C : Int) == 240) = false := by simpa using c1
                          by_cases c2 : (C : Int) = 244
                          · have hc2 : ((C : Int) == 244) = true := by simpa using c2
                            by_cases g1 : (143 : Int) < (D1 : Int)
                            · obtain rfl : ANS = false := HNO.out (fun h => by have h1 := h.2.2.2; rw [H0.out, HW.out, HD1.out] at h1; unfold isBad at h1; omega)
                              go_wp2
                              go_ret
                              exact ⟨rfl, rfl⟩
                            · have HOK : Hid (headOk (s.data.toList.drop k)) := Lib.hid ⟨by rw [H0.out, HW.out]; omega, by rw [H0.out, HW.out, HL.out]; omega, fun m hm h0 => hct.out m h0 (by rw [H0.out, HW.out] at hm; omega), by rw [H0.out, HW.out, HD1.out]; unfold isBad; omega⟩
                              go_wp2
                              go_round
                              case rel => exact ⟨k + 4, by omega, by go_num, Lib.hid (HYES.out 4 HW.out HOK.out)⟩
                              case measure => simp [RowKit.intOf]; omega
                          · have hc2 : ((C : Int) == 244) = false := by simpa using c2
                            have HOK : Hid (headOk (s.data.toList.drop k)) := Lib.hid ⟨by rw [H0.out, HW.out]; omega, by rw [H0.out, HW.out, HL.out]; omega, fun m hm h0 => hct.out m h0 (by rw [H0.out, HW.out] at hm; omega), by rw [H0.out, HW.out, HD1.out]; unfold isBad; omega⟩
                            go_wp2
                            go_round
                            case rel => exact ⟨k + 4, by omega, by go_num, Lib.hid (HYES.out 4 HW.out HOK.out)⟩
                            case measure => simp [RowKit.intOf]; omega
                  · have hN2 : (s.size : Int) - (k : Int) < 4 := by omega
                    obtain rfl : ANS = false := HNO.out (fun h => by have h1 := h.2.1; rw [H0.out, HW.out, HL.out] at h1; omega)
                    go_wp2
                    go_ret
                    exact ⟨rfl, rfl⟩
                · have HW : Hid (wideC C = 0) := Lib.hid (by unfold wideC; rw [if_neg (by omega), if_neg (by omega), if_neg (by omega), if_neg (by omega), if_neg (by omega)])
                  obtain rfl : ANS = false := HNO.out (fun h => h.1 (by rw [H0.out, HW.out]))
                  go_wp2
                  go_ret
                  exact ⟨rfl, rfl⟩
          · have h4 : ¬ (224 : Int) ≤ (C : Int) := by omega
            have h6 : ¬ (240 : Int) ≤ (C : Int) := by omega
            have HW : Hid (wideC C = 0) := Lib.hid (by unfold wideC; rw [if_neg (by omega), if_neg (by omega), if_neg (by omega), if_neg (by omega), if_neg (by omega)])
            obtain rfl : ANS = false := HNO.out (fun h => h.1 (by rw [H0.out, HW.out]))
            go_wp2
            go_ret
            exact ⟨rfl, rfl⟩
    · obtain rfl : k = s.size := by omega
      have hl : ¬ ((s.size : Int) < (s.size : Int)) := by omega
      obtain rfl : true = ANS := by rw [← hr.out, List.drop_eq_nil_of_le (by rw [← size_of]; exact Nat.le_refl _)]; rfl
      go_wp2
      go_ret
      exact ⟨rfl, rfl⟩
end Go.Proofs.YtodlkjlcihcciaaDoor.Path
