/- The law RecordPuts, walked. -/
import Derived.Test.YtodlkjlcihcciaaDoorRecCutWalk
import Derived.Test.YtodlkjlcihcciaaDoorRecApp
import Derived.BigQuiet
namespace Go.Proofs.YtodlkjlcihcciaaDoor.Walk
open Go.ChangeShapes Go.WideShapes Go.ChangeAt Go.RowKit Go.Proofs.YtodlkjlcihcciaaDoor.Base Go.Proofs.YtodlkjlcihcciaaDoor.Byt Go.Proofs.YtodlkjlcihcciaaDoor.Txt Go.Proofs.YtodlkjlcihcciaaDoor.Path Go.Proofs.YtodlkjlcihcciaaDoor.Rec Go.Lib
set_option linter.unusedVariables false
set_option maxRecDepth 100000

set_option maxHeartbeats 8000000 in
theorem recordPuts (a : Option Addr) (len cap : Nat) (rs : List (List UInt8 × List UInt8)) (w : World) (ra : RecsAt w a len rs) (lc : len ≤ cap) (cm : cap ≤ maxLen) (sz : ∀ r ∈ rs, r.1.length ≤ 140737488351232 ∧ r.2.length ≤ 140737488351232) (b0 : cap * 32 ≤ 140737488351232) (hT : Need w) :
    Calls Tryd.prog 5 #[.slice a len cap] w fun e w' => e = .returned (.bool true) ∧ Below w.heap.size w w' := by
  have HRA := Lib.hid ra
  have HRL := Lib.hid ra.1
  have HSZ := Lib.hid sz
  have HT := Lib.hid hT
  have hm' : len ≤ 9223372036854775807 := by unfold maxLen at cm; omega
  have HLB := Lib.hid (show len * 32 ≤ 140737488351232 by omega)
  obtain ⟨i0, hi, hz0, hz1, hz2⟩ := info_parts infoRec
  have HI := Lib.hid hi
  have HZ0 := Lib.hid hz0
  have HZ1 := Lib.hid hz1
  have HZ2 := Lib.hid hz2
  have HANS : Hid (∀ w', Below w.heap.size w w' → Calls Tryd.prog 9 #[] w' fun e w'' => e = .returned (.bool true) ∧ Below w'.heap.size w' w'') := Lib.hid (fun w' h => ans06_any w' (HT.out.below h))
  have mixed : Tryd.prog.follows .mixedOrders = true := by kernel_rfl
  clear ra sz hT lc cm b0 hi hz0 hz1 hz2
  go_enter Tryd.func5, Tryd.ntmps5
  go_wp2_with fail
  go_loopw [3, 4, 5] (fun s m i wr => ∃ (j : Nat) (S : ByteArray) (M : Bool), j ≤ len ∧ j ≤ 30 ∧ i = .int .i64 (j : Int) ∧ s = .string S ∧ m = .bool M ∧ S.size ≤ 2010 * j ∧
    Hid ((∀ r ∈ rs.take j, r.1.length + r.2.length ≤ 2000) ∧ (M = true → S = str (linesD (rs.take j)) ∧ ∀ r ∈ rs.take j, mayD r.1 r.2 = true) ∧ (M = false → ∃ r ∈ rs.take j, mayD r.1 r.2 = false)) ∧ Hid (Below w.heap.size w wr)) (fun _ _ i _ => len - (RowKit.intOf i).toNat)
  case atStart => exact ⟨0, str [], true, Nat.zero_le _, by omega, rfl, rfl, rfl, by rw [str_size]; simp, Lib.hid ⟨by simp, fun _ => ⟨rfl, by simp⟩, fun h => by cases h⟩, Lib.hid (Below.refl _ _)⟩
  case round =>
    obtain ⟨j, S, M, hj, hj30, rfl, rfl, rfl, hSs, hinv, hB⟩ := hrel
    by_cases hlt : j < len
    · have hltz : (j : Int) < (len : Int) := by omega
      obtain ⟨b, o, rfl, hbw, hcs⟩ := (HRA.out.below hB.out).2 (by omega)
      obtain ⟨x0, x1⟩ := hcs j hlt
      obtain ⟨u, hu⟩ : ∃ u, rs.getD j ([], []) = u := ⟨_, rfl⟩
      rw [hu, Nat.mul_comm] at x0 x1
      have HU := Lib.hid hu
      have HUM : Hid (u.1.length ≤ 140737488351232 ∧ u.2.length ≤ 140737488351232) := Lib.hid (HSZ.out u (by rw [← hu]; exact getD_mem rs j (by rw [HRL.out]; exact hlt)))
      have HBW := Lib.hid hbw
      obtain ⟨n1, hn1⟩ : ∃ n, (str u.1).size = n := ⟨_, rfl⟩
      obtain ⟨n2, hn2⟩ : ∃ n, (str u.2).size = n := ⟨_, rfl⟩
      have HM1 : Hid (u.1.length = n1) := Lib.hid (by rw [← hn1, str_size])
      have HM2 : Hid (u.2.length = n2) := Lib.hid (by rw [← hn2, str_size])
      have hb1 : (n1 : Int) ≤ 140737488351232 := by have := HUM.out.1; rw [HM1.out] at this; omega
      have hb2 : (n2 : Int) ≤ 140737488351232 := by have := HUM.out.2; rw [HM2.out] at this; omega
      have q1 : IntKind.i64.wrap ((n1 : Int) + (n2 : Int)) = (n1 : Int) + (n2 : Int) := by rw [IntKind.wrap_i64]; omega
      clear hu hcs hbw
      by_cases hbig : (30 : Int) < (len : Int)
      · clear hinv
        go_wp2_with fail
        go_quiet (fail)
        have HBD := Lib.hid (below_drewN hB.out nq)
        go_wp2_with fail
        refine (HANS.out _ HBD.out).mono ?_
        rintro e w3 ⟨rfl, hb3⟩
        have HB3 := Lib.hid (HBD.out.trans (hb3.mono HBD.out.size))
        clear hb3
        go_wp2
        go_ret
        exact ⟨rfl, HB3.out⟩
      · by_cases hkv : (2000 : Int) < (n1 : Int) + (n2 : Int)
        · clear hinv
          go_wp2_with fail
          go_quiet (fail)
          have HBD := Lib.hid (below_drewN hB.out nq)
          go_wp2_with fail
          refine (HANS.out _ HBD.out).mono ?_
          rintro e w3 ⟨rfl, hb3⟩
          have HB3 := Lib.hid (HBD.out.trans (hb3.mono HBD.out.size))
          clear hb3
          go_wp2
          go_ret
          exact ⟨rfl, HB3.out⟩
        · have HSM : Hid (∀ r ∈ rs.take (j + 1), r.1.length + r.2.length ≤ 2000) := Lib.hid (take_all rs j (by rw [HRL.out]; exact hlt) (fun r => r.1.length + r.2.length ≤ 2000) hinv.out.1 (by rw [HU.out, HM1.out, HM2.out]; omega))
          cases M with
          | false =>
            have HNO : Hid (∃ r ∈ rs.take (j + 1), mayD r.1 r.2 = false) := Lib.hid (by
              obtain ⟨r, hr, hr2⟩ := hinv.out.2.2 rfl
              exact ⟨r, List.take_subset_take_left rs (by omega) hr, hr2⟩)
            clear hinv
            go_wp2_with fail
            go_quiet (fail)
            have HBD := Lib.hid (below_drewN hB.out nq)
            go_wp2
            go_roundw
            case rel => exact ⟨j + 1, S, false, by omega, by omega, by go_num, rfl, rfl, by omega, Lib.hid ⟨HSM.out, (fun h => by cases h), fun _ => HNO.out⟩, HBD⟩
            case measure => simp [RowKit.intOf]; omega
          | true =>
            cases hmay : mayD u.1 u.2 with
            | false =>
              have HNO : Hid (∃ r ∈ rs.take (j + 1), mayD r.1 r.2 = false) := Lib.hid ⟨u, by
                rw [List.take_add_one, List.mem_append]
                have h1 : j < rs.length := by rw [HRL.out]; exact hlt
                refine .inr ?_
                rw [List.getElem?_eq_getElem h1]
                have h2 := HU.out
                rw [List.getD, List.getElem?_eq_getElem h1] at h2
                simpa using h2.symm, hmay⟩
              have HMAY := Lib.hid hmay
              clear hinv hmay
              go_wp2_with fail
              go_quiet (fail)
              have HBD := Lib.hid (below_drewN hB.out nq)
              go_wp2_with fail
              refine (mayRec_any u.1 u.2 _ HUM.out.1 HUM.out.2).mono ?_
              rw [HMAY.out]
              rintro e w2 ⟨rfl, hk2⟩
              have HB2 := Lib.hid (HBD.out.trans (hk2.mono HBD.out.size))
              clear hk2
              go_wp2
              go_roundw
              case rel => exact ⟨j + 1, S, false, by omega, by omega, by go_num, rfl, rfl, by omega, Lib.hid ⟨HSM.out, (fun h => by cases h), fun _ => HNO.out⟩, HB2⟩
              case measure => simp [RowKit.intOf]; omega
            | true =>
              obtain ⟨l, hl⟩ : ∃ l, str (lineD u.1 u.2) = l := ⟨_, rfl⟩
              have hls : l.size ≤ 2010 := by
                rw [← hl, str_size]
                obtain ⟨d, _, _, _, _, hd7, _, hlen⟩ := line_parts hmay
                have := HM1.out
                have := HM2.out
                omega
              have hsum : S.size + l.size ≤ 9223372036854775807 := by omega
              have HLI := Lib.hid (fun w2 => line_any u.1 u.2 w2 (by have := HM1.out; have := HM2.out; omega))
              have HL := Lib.hid hl
              have HMAY := Lib.hid hmay
              have HINV : Hid (S ++ l = str (linesD (rs.take (j + 1))) ∧ ∀ r ∈ rs.take (j + 1), mayD r.1 r.2 = true) := Lib.hid ⟨by
                  rw [lines_take rs j (by rw [HRL.out]; exact hlt), HU.out, (hinv.out.2.1 rfl).1, ← hl, Txt.str_app],
                  take_all rs j (by rw [HRL.out]; exact hlt) (fun r => mayD r.1 r.2 = true) (hinv.out.2.1 rfl).2 (by rw [HU.out]; exact hmay)⟩
              have hss : S.size + l.size ≤ 2010 * (j + 1) := by omega
              clear hinv hl hmay
              go_wp2_with fail
              go_quiet (fail)
              have HBD := Lib.hid (below_drewN hB.out nq)
              go_wp2_with fail
              refine (mayRec_any u.1 u.2 _ HUM.out.1 HUM.out.2).mono ?_
              rw [HMAY.out]
              rintro e w2 ⟨rfl, hk2⟩
              have y0 := (hk2.cell (p := ⟨b, o + j * 2, none⟩) HBW.out).trans x0
              have y1 := (hk2.cell (p := ⟨b, o + j * 2 + 1, none⟩) HBW.out).trans x1
              have HB2 := Lib.hid (HBD.out.trans (hk2.mono HBD.out.size))
              clear hk2 x0 x1
              go_wp2_with fail
              refine (HLI.out _).mono ?_
              rw [HL.out]
              rintro e w3 ⟨rfl, hb3⟩
              have HB3 := Lib.hid (HB2.out.trans (hb3.mono HB2.out.size))
              clear hb3
              go_wp2
              go_roundw
              case rel => exact ⟨j + 1, S ++ l, true, by omega, by omega, by go_num, rfl, rfl, by rw [ByteArray.size_append]; exact hss, Lib.hid ⟨HSM.out, fun _ => HINV.out, (fun h => by cases h)⟩, HB3⟩
              case measure => simp [RowKit.intOf]; omega
    · have hjl : j = len := by omega
      have hks : ¬ ((j : Int) < (len : Int)) := by omega
      have htk : rs.take j = rs := List.take_of_length_le (by rw [HRL.out]; omega)
      have HTK := Lib.hid htk
      have hlen30 : len ≤ 30 := by omega
      have HKV : Hid (∀ r ∈ rs, r.1.length + r.2.length ≤ 1000000000000) := Lib.hid (fun r hr => by
        have := hinv.out.1 r (by rw [htk]; exact hr)
        omega)
      clear htk hj hj30
      go_wp2_with (at_builtin; refine append_recs rfl _ _ 24 rfl w.heap.size 31 i0 (.agg #[.string ⟨#[]⟩, .string ⟨#[]⟩]) Tryd.underlying24 HI.out HZ0.out HZ1.out HZ2.out rfl _ 0 [] rfl (World.ownsRow_made wr #[] 0 hB.out.size (by decide) rfl) a len cap rs rfl ((HRA.out.below hB.out).below ((Below.refl _ _).alloc (Nat.le_refl _) _)) (by have := HLB.out; omega) (by have := hB.out.size; simp; omega) ?_)
      intro v' w1 hown hgrow
      have HBA : Hid (Below w.heap.size w w1) := Lib.hid (((hB.out.alloc hB.out.size _)).grown hgrow (by have := hB.out.size; simp; omega) (by intro k hk; simp [Value.ownBlock] at hk; have := hB.out.size; omega))
      have hown2 : w1.ownsRow w.heap.size 31 2 v' rs.length (flatR rs) := by
        rw [HRL.out]
        exact hown
      obtain ⟨p, c, rfl, hc1, hc2, hc3⟩ := recs_own hown2
      rw [HRL.out] at hc1 hc3
      rw [HRL.out]
      have HR1 := Lib.hid hc3
      clear hown hgrow hown2 hc3
      go_wp2_with fail
      refine (recPut_any p len c rs w1 (by omega) HR1.out HKV.out (HT.out.below HBA.out)).mono ?_
      cases M with
      | false =>
        have HNO : Hid (∃ r ∈ rs, mayD r.1 r.2 = false) := Lib.hid (by have := hinv.out.2.2 rfl; rwa [HTK.out] at this)
        clear hinv
        rintro e w2 ⟨_, hno, hb2⟩
        obtain rfl := hno HNO.out
        have HB2 := Lib.hid (HBA.out.trans (hb2.mono HBA.out.size))
        clear hno hb2
        go_wp2_with fail
        refine (HANS.out _ HB2.out).mono ?_
        rintro e w3 ⟨rfl, hb3⟩
        have HB3 := Lib.hid (HB2.out.trans (hb3.mono HB2.out.size))
        clear hb3
        go_wp2
        go_ret
        exact ⟨rfl, HB3.out⟩
      | true =>
        have hall : ∀ r ∈ rs, mayD r.1 r.2 = true := by have := (hinv.out.2.1 rfl).2; rwa [HTK.out] at this
        have HS : Hid (S = str (linesD rs)) := Lib.hid (by have := (hinv.out.2.1 rfl).1; rwa [HTK.out] at this)
        have HALL := Lib.hid hall
        have HRW := Lib.hid (recs_whole rs hall)
        obtain ⟨n, hn⟩ : ∃ n, (linesD rs).length = n := ⟨_, rfl⟩
        have HN := Lib.hid hn
        have hn12 : n ≤ 1000000000000 := by
          have h1 := lines_len rs hall
          have h2 := HRL.out
          omega
        have hss : (S.toList == S.toList) = true := by simp
        clear hinv hall
        rintro e w2 ⟨hyes, _, hb2⟩
        obtain ⟨q, cq, rfl, hq1, hq2, hq3⟩ := hyes HALL.out
        rw [hn] at hq1 hq3
        rw [hn]
        have HB2 := Lib.hid (HBA.out.trans (hb2.mono HBA.out.size))
        have HBT := Lib.hid hq3
        clear hyes hb2 hq3 hn
        go_wp2_with fail
        refine (recParse_of (linesD rs) rs 0 HRW.out q n cq w2 HN.out hq1 hn12 HBT.out (HT.out.below HB2.out)).mono ?_
        rw [HRL.out]
        rintro e w3 ⟨q3, d3, rfl, hd1, hd2, hr3, hb3⟩
        have HB3 := Lib.hid (HB2.out.trans (hb3.mono HB2.out.size))
        have HBT3 := Lib.hid (HBT.out.below hb3)
        have HR3 := Lib.hid hr3
        clear hb3 hr3
        go_wp2_with fail
        refine (HANS.out _ HB3.out).mono ?_
        rintro e w4 ⟨rfl, hb4⟩
        have HB4 := Lib.hid (HB3.out.trans (hb4.mono HB3.out.size))
        have HR4 := Lib.hid (HR3.out.below hb4)
        have cs : (convert 22 9 (.slice q n cq)).run Tryd.prog w4 = .ok (.string S) w4 := by
          rw [HS.out]
          exact conv_at (HBT3.out.below hb4) HN.out _ _ _ Tryd.underlying22 Tryd.underlying5 Tryd.underlying9 cq
        have HSA := Lib.hid (same_self q3 a len d3 cap rs w4 hm' HR4.out (HRA.out.below HB4.out))
        clear hb4
        go_wp2_with fail
        refine HSA.out.mono ?_
        rintro e w5 ⟨rfl, hb5⟩
        have HB5 := Lib.hid (HB4.out.trans (hb5.mono HB4.out.size))
        clear hb5
        go_wp2
        go_ret
        exact ⟨rfl, HB5.out⟩
end Go.Proofs.YtodlkjlcihcciaaDoor.Walk
