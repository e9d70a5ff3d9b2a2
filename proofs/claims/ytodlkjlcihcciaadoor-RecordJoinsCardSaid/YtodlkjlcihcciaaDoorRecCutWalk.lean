/- The law RecordCut, walked. -/
import Derived.Test.YtodlkjlcihcciaaDoorRecLinesWalk
namespace Go.Proofs.YtodlkjlcihcciaaDoor.Walk
open Go.ChangeShapes Go.WideShapes Go.ChangeAt Go.RowKit Go.Proofs.YtodlkjlcihcciaaDoor.Base Go.Proofs.YtodlkjlcihcciaaDoor.Byt Go.Proofs.YtodlkjlcihcciaaDoor.Txt Go.Proofs.YtodlkjlcihcciaaDoor.Path Go.Proofs.YtodlkjlcihcciaaDoor.Rec Go.Lib
set_option linter.unusedVariables false
set_option maxRecDepth 100000

theorem recs_whole (rs : List (List UInt8 × List UInt8)) (h : ∀ r ∈ rs, mayD r.1 r.2 = true) : recsD 5 9 (linesD rs) = (rs, 0) := by
  have h1 := recs_lines 5 9 rs [] [] h
  rw [List.append_nil, recsFrom_nil, List.nil_append] at h1
  exact h1
theorem recs_cut (rs : List (List UInt8 × List UInt8)) (u : List UInt8 × List UInt8) (h : ∀ r ∈ rs, mayD r.1 r.2 = true) (hu : mayD u.1 u.2 = true) (j : Nat) (hj0 : 0 < j) (hj : j < (lineD u.1 u.2).length) :
    recsD 5 9 (linesD rs ++ (lineD u.1 u.2).take j) = ([], 5) := by
  have h1 := recs_lines 5 9 rs ((lineD u.1 u.2).take j) [] h
  rw [List.nil_append] at h1
  show recsFrom 5 9 _ [] = _
  rw [h1, recsFrom_step 5 9 _ (by
    intro e
    have := congrArg List.length e
    rw [List.length_take, List.length_nil] at this
    omega), recStep_cut 5 9 hu j hj0 hj]
theorem wf_u16 {n : Int} (h : (Lit.int .u16 n).wf = true) : 0 ≤ n ∧ n < 65536 := by
  have h1 : IntKind.u16.min = 0 := rfl
  have h2 : IntKind.u16.max = 65535 := rfl
  simp only [Lit.wf, Bool.and_eq_true, decide_eq_true_eq] at h
  omega
/-- where the last line began -/
def lastD (rs : List (List UInt8 × List UInt8)) : Nat → Nat
  | 0 => 0
  | j + 1 => (linesD (rs.take j)).length
set_option maxHeartbeats 8000000 in
theorem recordCut (a : Option Addr) (len cap : Nat) (rs : List (List UInt8 × List UInt8)) (c : Int) (w : World) (ra : RecsAt w a len rs) (lc : len ≤ cap) (cm : cap ≤ maxLen) (sz : ∀ r ∈ rs, r.1.length ≤ 140737488351232 ∧ r.2.length ≤ 140737488351232) (b0 : cap * 32 ≤ 140737488351232) (w1 : (Lit.int .u16 c).wf = true) (hT : Need w) :
    Calls Tryd.prog 7 #[.slice a len cap, .int .u16 c] w fun e w' => e = .returned (.bool true) ∧ Below w.heap.size w w' := by
  have hc16 := wf_u16 w1
  obtain ⟨hc0, hc1⟩ := hc16
  have HRA := Lib.hid ra
  have HRL := Lib.hid ra.1
  have HSZ := Lib.hid sz
  have HT := Lib.hid hT
  have hm' : len ≤ 9223372036854775807 := by unfold maxLen at cm; omega
  clear ra sz w1 hT lc cm b0
  go_enter Tryd.func7, Tryd.ntmps7
  go_wp2_with fail
  go_loopw [5, 6, 7] (fun s l i wr => ∃ (j : Nat) (S : ByteArray) (L : Nat), j ≤ len ∧ j ≤ 20 ∧ i = .int .i64 (j : Int) ∧ s = .string S ∧ l = .int .i64 (L : Int) ∧ S.size ≤ 1010 * j ∧ L ≤ S.size ∧
    Hid (S = str (linesD (rs.take j)) ∧ L = lastD rs j ∧ ∀ r ∈ rs.take j, mayD r.1 r.2 = true) ∧ Hid (Below w.heap.size w wr)) (fun _ _ i _ => len - (RowKit.intOf i).toNat)
  case atStart => exact ⟨0, str [], 0, Nat.zero_le _, by omega, rfl, rfl, rfl, by rw [str_size]; simp, Nat.zero_le _, Lib.hid ⟨rfl, rfl, by simp⟩, Lib.hid (Below.refl _ _)⟩
  case round =>
    obtain ⟨j, S, L, hj, hj20, rfl, rfl, rfl, hSz, hLz, hinv, hB⟩ := hrel
    by_cases hlt : j < len
    · have hltz : (j : Int) < (len : Int) := by omega
      obtain ⟨b, o, rfl, hbw, hcs⟩ := (HRA.out.below hB.out).2 (by omega)
      obtain ⟨x0, x1⟩ := hcs j hlt
      obtain ⟨u, hu⟩ : ∃ u, rs.getD j ([], []) = u := ⟨_, rfl⟩
      rw [hu, Nat.mul_comm] at x0 x1
      have HU := Lib.hid hu
      have HUM : Hid (u.1.length ≤ 140737488351232 ∧ u.2.length ≤ 140737488351232) := Lib.hid (HSZ.out u (by rw [← hu]; exact getD_mem rs j (by rw [HRL.out]; exact hlt)))
      have HBW := Lib.hid hbw
      obtain ⟨n1, hn1⟩ : ∃ n, (str u.1).size = n := ⟨_, rfl⟩
      obtain ⟨n2, hn2⟩ : ∃ n, (str u.2).size = n := ⟨_, rfl⟩
      have HM1 : Hid (u.1.length = n1) := Lib.hid (by rw [← hn1, str_size])
      have HM2 : Hid (u.2.length = n2) := Lib.hid (by rw [← hn2, str_size])
      have hb1 : (n1 : Int) ≤ 140737488351232 := by have := HUM.out.1; rw [HM1.out] at this; omega
      have hb2 : (n2 : Int) ≤ 140737488351232 := by have := HUM.out.2; rw [HM2.out] at this; omega
      have HXX := Lib.hid (And.intro x0 x1)
      clear hu hcs hbw
      go_wp2_with fail
      refine (mayRec_any u.1 u.2 _ HUM.out.1 HUM.out.2).mono ?_
      rintro e w2 ⟨rfl, hk2⟩
      have y0 := (hk2.cell (p := ⟨b, o + j * 2, none⟩) HBW.out).trans x0
      have y1 := (hk2.cell (p := ⟨b, o + j * 2 + 1, none⟩) HBW.out).trans x1
      have HB2 := Lib.hid (hB.out.trans (hk2.mono hB.out.size))
      have HBW2 := Lib.hid (Nat.lt_of_lt_of_le HBW.out hk2.size)
      clear hk2 x0 x1
      have HANS : Hid (∀ w', Below w.heap.size w w' → Calls Tryd.prog 9 #[] w' fun e w'' => e = .returned (.bool true) ∧ Below w.heap.size w w'') := Lib.hid (fun w' h => (ans06_any w' (HT.out.below h)).mono (fun e w'' h2 => ⟨h2.1, h.trans (h2.2.mono h.size)⟩))
      cases hmay : mayD u.1 u.2 with
      | false =>
        clear hinv
        go_wp2_with fail
        refine (HANS.out _ HB2.out).mono ?_
        rintro e w3 ⟨rfl, hb3⟩
        have HB3 := Lib.hid hb3
        clear hb3
        go_wp2
        go_ret
        exact ⟨rfl, HB3.out⟩
      | true =>
        by_cases hbig : (20 : Int) < (len : Int)
        · clear hinv
          go_wp2_with fail
          refine (HANS.out _ HB2.out).mono ?_
          rintro e w3 ⟨rfl, hb3⟩
          have HB3 := Lib.hid hb3
          clear hb3
          go_wp2
          go_ret
          exact ⟨rfl, HB3.out⟩
        · by_cases hv : (500 : Int) < (n2 : Int)
          · clear hinv
            go_wp2_with fail
            refine (HANS.out _ HB2.out).mono ?_
            rintro e w3 ⟨rfl, hb3⟩
            have HB3 := Lib.hid hb3
            clear hb3
            go_wp2
            go_ret
            exact ⟨rfl, HB3.out⟩
          · by_cases hkk : (500 : Int) < (n1 : Int)
            · clear hinv
              go_wp2_with fail
              refine (HANS.out _ HB2.out).mono ?_
              rintro e w3 ⟨rfl, hb3⟩
              have HB3 := Lib.hid hb3
              clear hb3
              go_wp2
              go_ret
              exact ⟨rfl, HB3.out⟩
            · obtain ⟨l, hl⟩ : ∃ l, str (lineD u.1 u.2) = l := ⟨_, rfl⟩
              have hls : l.size ≤ 1010 := by
                rw [← hl, str_size]
                obtain ⟨d, _, _, _, _, hd7, _, hlen⟩ := line_parts hmay
                have := HM1.out
                have := HM2.out
                omega
              have hsum : S.size + l.size ≤ 9223372036854775807 := by omega
              have HLI := Lib.hid (line_any u.1 u.2 w2 (by have := HM1.out; have := HM2.out; omega))
              have HL := Lib.hid hl
              have HINV : Hid (S ++ l = str (linesD (rs.take (j + 1))) ∧ S.size = lastD rs (j + 1) ∧ ∀ r ∈ rs.take (j + 1), mayD r.1 r.2 = true) := Lib.hid ⟨by
                  rw [lines_take rs j (by rw [HRL.out]; exact hlt), HU.out, hinv.out.1, ← hl, Txt.str_app], by rw [hinv.out.1, str_size]; rfl,
                  take_all rs j (by rw [HRL.out]; exact hlt) (fun r => mayD r.1 r.2 = true) hinv.out.2.2 (by rw [HU.out]; exact hmay)⟩
              have hss : S.size + l.size ≤ 1010 * (j + 1) := by omega
              clear hinv hl hmay
              go_wp2_with fail
              refine HLI.out.mono ?_
              rw [HL.out]
              rintro e w3 ⟨rfl, hb3⟩
              have HB3 := Lib.hid (HB2.out.trans (hb3.mono HB2.out.size))
              clear hb3
              go_wp2
              go_roundw
              case rel => exact ⟨j + 1, S ++ l, S.size, by omega, by omega, by go_num, rfl, rfl, by rw [ByteArray.size_append]; exact hss, by rw [ByteArray.size_append]; omega, HINV, HB3⟩
              case measure => simp [RowKit.intOf]; omega
    · have hjl : j = len := by omega
      have hks : ¬ ((j : Int) < (len : Int)) := by omega
      have HANS : Hid (∀ w', Below w.heap.size w w' → Calls Tryd.prog 9 #[] w' fun e w'' => e = .returned (.bool true) ∧ Below w.heap.size w w'') := Lib.hid (fun w' h => (ans06_any w' (HT.out.below h)).mono (fun e w'' h2 => ⟨h2.1, h.trans (h2.2.mono h.size)⟩))
      by_cases hz : S.size = 0
      · have hzb : ((S.size : Int) == 0) = true := by rw [hz]; rfl
        clear hinv hz
        go_wp2_with fail
        refine (HANS.out _ hB.out).mono ?_
        rintro e w3 ⟨rfl, hb3⟩
        have HB3 := Lib.hid hb3
        clear hb3
        go_wp2
        go_ret
        exact ⟨rfl, HB3.out⟩
      · have hzb : ((S.size : Int) == 0) = false := by rw [beq_eq_false_iff_ne]; omega
        obtain ⟨j', hj'⟩ : ∃ j', j = j' + 1 := ⟨j - 1, by
          rcases Nat.eq_zero_or_pos j with h0 | h0
          · exact absurd (by rw [hinv.out.1, h0, str_size]; rfl) hz
          · omega⟩
        have hlt' : j' < rs.length := by rw [HRL.out]; omega
        have htk : rs.take j = rs := List.take_of_length_le (by rw [HRL.out]; omega)
        have hfull := lines_take rs j' hlt'
        rw [← hj', htk] at hfull
        obtain ⟨u, hu⟩ : ∃ u, rs.getD j' ([], []) = u := ⟨_, rfl⟩
        rw [hu] at hfull
        have hmall : ∀ r ∈ rs, mayD r.1 r.2 = true := by
          have := hinv.out.2.2
          rwa [htk] at this
        have hum : mayD u.1 u.2 = true := hmall u (by rw [← hu]; exact getD_mem rs j' hlt')
        have hS : S = str (linesD rs) := by rw [hinv.out.1, htk]
        have hL : L = (linesD (rs.take j')).length := by rw [hinv.out.2.1, hj']; rfl
        obtain ⟨M, hM⟩ : ∃ M, M = (lineD u.1 u.2).length := ⟨_, rfl⟩
        have hSL : S.size = L + M := by rw [hS, str_size, hfull, List.length_append, hL, hM]
        have hMpos : 0 < M := by
          obtain ⟨d, _, _, _, _, _, _, hlen⟩ := line_parts hum
          omega
        obtain ⟨R, hR⟩ : ∃ R : Nat, c % (M : Int) = (R : Int) := ⟨(c % (M : Int)).toNat, by have := Int.emod_nonneg c (show (M : Int) ≠ 0 by omega); omega⟩
        have hRM : R < M := by have := Int.emod_lt_of_pos c (show (0 : Int) < (M : Int) by omega); omega
        have hq : (S.size : Int) - (L : Int) = (M : Int) := by omega
        obtain ⟨K, hK⟩ : ∃ K, K = L + 1 + R := ⟨_, rfl⟩
        have hKi : (L : Int) + 1 + (R : Int) = (K : Int) := by omega
        have hKS : K ≤ S.size := by omega
        have hM0 : ((M : Int) == 0) = false := by rw [beq_eq_false_iff_ne]; omega
        have sl := slice_to_str S K hKS
        obtain ⟨X, hX⟩ : ∃ X, str (S.data.toList.take K) = X := ⟨_, rfl⟩
        rw [hX] at sl
        have HXD : Hid (X.data.toList = linesD (rs.take j') ++ (lineD u.1 u.2).take (1 + R)) := Lib.hid (by
          rw [← hX, str_data, hS, str_data, hfull, List.take_append, List.take_of_length_le (by omega), show K - (linesD (rs.take j')).length = 1 + R by omega])
        have hXs : X.size = K := by rw [← hX, str_size, List.length_take, ← size_of]; omega
        have HXS := Lib.hid hXs
        have hX12 : X.size ≤ 1000000000000 := by omega
        have hm2 : X.size ≤ maxLen := by unfold maxLen; omega
        obtain ⟨hc1', hc2'⟩ := str_cap wr 5 X hm2
        have cvb := Lib.run_convert_string_bytes (P := Tryd.prog) wr 9 22 5 X Tryd.underlying9 Tryd.underlying22 Tryd.underlying5
        have HCP := Lib.hid hc1'
        have HBT := Lib.hid (str_bat wr 5 X)
        have HSB := Lib.hid (hB.out.trans ((str_below wr 5 X).mono hB.out.size))
        by_cases hkS : K = S.size
        · have HRE : Hid (recsD 5 9 X.data.toList = (rs, 0)) := Lib.hid (by
            have e : (lineD u.1 u.2).take (1 + R) = lineD u.1 u.2 := List.take_of_length_le (by omega)
            rw [HXD.out, e, ← hfull]
            exact recs_whole rs hmall)
          have hkb : ((K : Int) == (S.size : Int)) = true := by rw [hkS]; simp
          clear hkS
          clear hinv hz hlt' htk hfull hu hmall hum hS hL hM hX hm2 hc1' hc2' hXs hSL hK
          go_wp2_with fail
          refine (recParse_of X.data.toList rs 0 HRE.out _ X.size _ _ (size_of X).symm HCP.out hX12 HBT.out (HT.out.below HSB.out)).mono ?_
          rw [HRL.out]
          rintro e w3 ⟨q, d, rfl, hd1, hd2, hr3, hb3⟩
          have HB3 := Lib.hid (HSB.out.trans (hb3.mono HSB.out.size))
          clear hb3 cvb hr3
          go_wp2_with fail
          refine (HANS.out _ HB3.out).mono ?_
          rintro e w4 ⟨rfl, hb4⟩
          have HB4 := Lib.hid hb4
          clear hb4
          go_wp2
          go_ret
          exact ⟨rfl, HB4.out⟩
        · have HRE : Hid (recsD 5 9 X.data.toList = ([], 5)) := Lib.hid (by
            rw [HXD.out]
            exact recs_cut _ u (fun r hr => hmall r (List.mem_of_mem_take hr)) hum (1 + R) (by omega) (by omega))
          have hkb : ((K : Int) == (S.size : Int)) = false := by rw [beq_eq_false_iff_ne]; omega
          clear hinv hz hlt' htk hfull hu hmall hum hS hL hM hX hm2 hc1' hc2' hXs hSL hK
          go_wp2_with fail
          refine (recParse_of X.data.toList [] 5 HRE.out _ X.size _ _ (size_of X).symm HCP.out hX12 HBT.out (HT.out.below HSB.out)).mono ?_
          rintro e w3 ⟨q, d, rfl, hd1, hd2, hr3, hb3⟩
          have HB3 := Lib.hid (HSB.out.trans (hb3.mono HSB.out.size))
          clear hb3 cvb hr3
          go_wp2_with fail
          refine (HANS.out _ HB3.out).mono ?_
          rintro e w4 ⟨rfl, hb4⟩
          have HB4 := Lib.hid hb4
          clear hb4
          go_wp2
          go_ret
          exact ⟨rfl, HB4.out⟩
end Go.Proofs.YtodlkjlcihcciaaDoor.Walk
