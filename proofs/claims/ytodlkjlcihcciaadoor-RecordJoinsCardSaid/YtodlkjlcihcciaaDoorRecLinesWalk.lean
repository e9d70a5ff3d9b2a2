/- The law RecordLines, walked. -/
import Derived.Test.YtodlkjlcihcciaaDoorRecAns
namespace Go.Proofs.YtodlkjlcihcciaaDoor.Walk
open Go.ChangeShapes Go.WideShapes Go.ChangeAt Go.RowKit Go.Proofs.YtodlkjlcihcciaaDoor.Base Go.Proofs.YtodlkjlcihcciaaDoor.Byt Go.Proofs.YtodlkjlcihcciaaDoor.Txt Go.Proofs.YtodlkjlcihcciaaDoor.Path Go.Proofs.YtodlkjlcihcciaaDoor.Rec Go.Lib
set_option linter.unusedVariables false
set_option maxRecDepth 100000

theorem recs_one (k v : List UInt8) (h : mayD k v = true) : recsD 5 9 (lineD k v) = ([(k, v)], 0) := by
  have h1 := recs_lines 5 9 [(k, v)] [] [] (by intro r hr; rw [List.mem_singleton.1 hr]; exact h)
  rw [List.append_nil, recsFrom_nil] at h1
  have e : linesD [(k, v)] = lineD k v := by
    show lineD k v ++ [] = _
    rw [List.append_nil]
  rw [e] at h1
  exact h1
/-- the cells of a record of the call's own, behind a call -/
theorem cells_on {w w1 : World} {t : TypeId} {x y : Value} (hb : Below (w.alloc (.cells #[x, y] t)).heap.size (w.alloc (.cells #[x, y] t)) w1) :
    w1.cell? ⟨w.heap.size, 0, none⟩ = some x ∧ w1.cell? ⟨w.heap.size, 1, none⟩ = some y := by
  obtain ⟨c0, c1⟩ := cells2 w t x y
  exact ⟨(hb.cell (p := ⟨w.heap.size, 0, none⟩) (by rw [World.size_alloc]; exact Nat.lt_succ_self _)).trans c0,
    (hb.cell (p := ⟨w.heap.size, 1, none⟩) (by rw [World.size_alloc]; exact Nat.lt_succ_self _)).trans c1⟩
/-- .. and behind one more -/
theorem cells_more {w1 w2 : World} {g : Nat} {x y : Value} (h : w1.cell? ⟨g, 0, none⟩ = some x ∧ w1.cell? ⟨g, 1, none⟩ = some y) (hg : g < w1.heap.size) (hb : Below w1.heap.size w1 w2) :
    w2.cell? ⟨g, 0, none⟩ = some x ∧ w2.cell? ⟨g, 1, none⟩ = some y :=
  ⟨(hb.cell (p := ⟨g, 0, none⟩) hg).trans h.1, (hb.cell (p := ⟨g, 1, none⟩) hg).trans h.2⟩
set_option maxHeartbeats 4000000 in
theorem recordLines (k v : List UInt8) (w : World) (nk : k.length ≤ 140737488351232) (nv : v.length ≤ 140737488351232) (hT : Need w) :
    Calls Tryd.prog 4 #[.agg #[.string (str k), .string (str v)]] w fun e w' => e = .returned (.bool true) ∧ Below w.heap.size w w' := by
  obtain ⟨n1, hn1⟩ : ∃ n, (str k).size = n := ⟨_, rfl⟩
  obtain ⟨n2, hn2⟩ : ∃ n, (str v).size = n := ⟨_, rfl⟩
  have m1 : k.length = n1 := by rw [← hn1, str_size]
  have m2 : v.length = n2 := by rw [← hn2, str_size]
  rw [m1] at nk
  rw [m2] at nv
  have HM1 := Lib.hid m1
  have HM2 := Lib.hid m2
  have s1 : n1 + n2 ≤ 9223372036854775807 := by omega
  obtain ⟨c0, c1⟩ := cells2 w 31 (.string (str k)) (.string (str v))
  have HA : Hid (Below w.heap.size w (w.alloc (.cells #[.string (str k), .string (str v)] 31))) := Lib.hid ((Below.refl _ _).alloc (Nat.le_refl _) _)
  have HN0 := Lib.hid (hT.below HA.out)
  clear m1 m2 hT
  by_cases hbig : (200000 : Int) < (n1 : Int) + (n2 : Int)
  · go_enter Tryd.func4, Tryd.ntmps4
    go_wp2_with fail
    refine (ans06_any _ HN0.out).mono ?_
    rintro e w1 ⟨rfl, hb1⟩
    have HB1 := Lib.hid (HA.out.trans (hb1.mono HA.out.size))
    clear hb1
    go_wp2
    go_ret
    exact ⟨rfl, HB1.out⟩
  · have HK : Hid (k.length ≤ 1000000000000 ∧ v.length ≤ 1000000000000 ∧ k.length + v.length ≤ 1000000000000) := Lib.hid (by rw [HM1.out, HM2.out]; omega)
    cases hmay : mayD k v with
    | false =>
      have HMAY := Lib.hid hmay
      clear hmay
      have hem : (str ([] : List UInt8)).toList.isEmpty = true := by rw [str_toList]; rfl
      have hem2 : ((str ([] : List UInt8)).toList == []) = true := by rw [str_is]; rfl
      go_enter Tryd.func4, Tryd.ntmps4
      go_wp2_with fail
      refine (recLine_of k v [] false HMAY.out rfl _ HK.out.1 HK.out.2.1 HK.out.2.2 HN0.out).mono ?_
      rintro e w1 ⟨rfl, hb1⟩
      obtain ⟨d0, d1⟩ := cells_on hb1
      have HB1 := Lib.hid (HA.out.trans (hb1.mono HA.out.size))
      have HN1 := Lib.hid (HN0.out.below hb1)
      clear hb1 c0 c1
      go_wp2_with fail
      refine (mayRec_any k v _ (Nat.le_trans HK.out.1 (by decide)) (Nat.le_trans HK.out.2.1 (by decide))).mono ?_
      rw [HMAY.out]
      rintro e w2 ⟨rfl, hb2⟩
      have HB2 := Lib.hid (HB1.out.trans (hb2.mono HB1.out.size))
      have HN2 := Lib.hid (HN1.out.below hb2)
      clear hb2
      go_wp2_with fail
      refine (ans06_any _ HN2.out).mono ?_
      rintro e w3 ⟨rfl, hb3⟩
      have HB3 := Lib.hid (HB2.out.trans (hb3.mono HB2.out.size))
      clear hb3
      go_wp2
      go_ret
      exact ⟨rfl, HB3.out⟩
    | true =>
      have HMAY := Lib.hid hmay
      have HR := Lib.hid (recs_one k v hmay)
      clear hmay
      have HLL : Hid ((lineD k v).length ≤ 1000000000000) := Lib.hid (by
        obtain ⟨d, _, _, _, _, hd7, _, hlen⟩ := line_parts HMAY.out
        have := HK.out.2.2
        have := HM1.out
        have := HM2.out
        omega)
      go_enter Tryd.func4, Tryd.ntmps4
      go_wp2_with fail
      refine (recLine_of k v (lineD k v) true HMAY.out rfl _ HK.out.1 HK.out.2.1 HK.out.2.2 HN0.out).mono ?_
      rintro e w1 ⟨rfl, hb1⟩
      have HG1 : Hid (w.heap.size < w1.heap.size) := Lib.hid (Nat.lt_of_lt_of_le (by rw [World.size_alloc]; exact Nat.lt_succ_self _) hb1.size)
      have HC1 := Lib.hid (cells_on hb1)
      obtain ⟨d0, d1⟩ := HC1.out
      have HB1 := Lib.hid (HA.out.trans (hb1.mono HA.out.size))
      have HN1 := Lib.hid (HN0.out.below hb1)
      clear hb1 c0 c1
      go_wp2_with fail
      refine (mayRec_any k v _ (Nat.le_trans HK.out.1 (by decide)) (Nat.le_trans HK.out.2.1 (by decide))).mono ?_
      rw [HMAY.out]
      rintro e w2 ⟨rfl, hb2⟩
      have HC2 := Lib.hid (cells_more HC1.out HG1.out hb2)
      have HG2 := Lib.hid (Nat.lt_of_lt_of_le HG1.out hb2.size)
      have HB2 := Lib.hid (HB1.out.trans (hb2.mono HB1.out.size))
      have HN2 := Lib.hid (HN1.out.below hb2)
      clear hb2 d0 d1
      obtain ⟨s, hs⟩ : ∃ s, str (lineD k v) = s := ⟨_, rfl⟩
      have HS : Hid (str (lineD k v) = s) := Lib.hid hs
      have HSD : Hid (s.data.toList = lineD k v) := Lib.hid (by rw [← hs, str_data])
      have hs9 : s.size ≤ 1000000000000 := by rw [← hs, str_size]; exact HLL.out
      have hss : (s.toList == s.toList) = true := by simp
      rw [hs]
      clear hs
      have hm2 : s.size ≤ maxLen := by unfold maxLen; omega
      obtain ⟨hc1, hc2⟩ := str_cap w2 5 s hm2
      have cvb := Lib.run_convert_string_bytes (P := Tryd.prog) w2 9 22 5 s Tryd.underlying9 Tryd.underlying22 Tryd.underlying5
      have HCP := Lib.hid hc1
      have HBT := Lib.hid (str_bat w2 5 s)
      have HSB := Lib.hid (str_below w2 5 s)
      clear hc1 hc2 hm2
      go_wp2_with fail
      refine (recParse_of s.data.toList [(k, v)] 0 (by rw [HSD.out]; exact HR.out) _ s.size _ _ (size_of s).symm HCP.out hs9 HBT.out (HN2.out.below HSB.out)).mono ?_
      rintro e w3 ⟨q, d, rfl, hd1, hd2, hr3, hb3⟩
      have hb23 := HSB.out.trans (hb3.mono HSB.out.size)
      have HC3 := Lib.hid (cells_more HC2.out HG2.out hb23)
      have HG3 := Lib.hid (Nat.lt_of_lt_of_le HG2.out hb23.size)
      have HB3 := Lib.hid (HB2.out.trans (hb23.mono HB2.out.size))
      have HN3 := Lib.hid (HN2.out.below hb23)
      obtain ⟨b, o, rfl, hbw, hcs⟩ := hr3.2 (by simp)
      have HR3 : Hid (w3.cell? ⟨b, o, none⟩ = some (.string (str k)) ∧ w3.cell? ⟨b, o + 1, none⟩ = some (.string (str v))) := Lib.hid (hcs 0 (by simp))
      have HBW := Lib.hid hbw
      have EQ := eqR (k, v) (k, v)
      rw [show decide (((k, v) : List UInt8 × List UInt8) = (k, v)) = true from decide_eq_true rfl] at EQ
      clear hb3 hb23 cvb hr3 hcs hbw hd1
      have HCC : Hid (∀ w', Below w3.heap.size w3 w' → (w'.cell? ⟨w.heap.size, 0, none⟩ = some (.string (str k)) ∧ w'.cell? ⟨w.heap.size, 1, none⟩ = some (.string (str v))) ∧ (w'.cell? ⟨b, o, none⟩ = some (.string (str k)) ∧ w'.cell? ⟨b, o + 1, none⟩ = some (.string (str v)))) := Lib.hid (fun w' h =>
        ⟨cells_more HC3.out HG3.out h, (h.cell (p := ⟨b, o, none⟩) HBW.out).trans HR3.out.1, (h.cell (p := ⟨b, o + 1, none⟩) HBW.out).trans HR3.out.2⟩)
      have HBB : Hid (Below w3.heap.size w3 w3.drew) := Lib.hid (below_drewN (Below.refl w3.heap.size w3) 1)
      go_wp2_with fail
      go_region_held_law (fun w' => (w'.cell? ⟨w.heap.size, 0, none⟩ = some (.string (str k)) ∧ w'.cell? ⟨w.heap.size, 1, none⟩ = some (.string (str v))) ∧ (w'.cell? ⟨b, o, none⟩ = some (.string (str k)) ∧ w'.cell? ⟨b, o + 1, none⟩ = some (.string (str v)))) (exact HCC.out _ HBB.out) (first
        | (go_at_call 9
           refine (ans06_any _ (HN3.out.below HBB.out)).mono ?_
           rintro e wa ⟨rfl, hba⟩
           have HBB := Lib.hid (HBB.out.trans (hba.mono HBB.out.size))
           clear hba)
        | (go_at_call 15
           refine (line_any k v _ HK.out.2.2).mono ?_
           rw [HS.out]
           rintro e wa ⟨rfl, hba⟩
           have HBB := Lib.hid (HBB.out.trans (hba.mono HBB.out.size))
           clear hba))
      all_goals
        have HF := Lib.hid (HB3.out.trans (HBB.out.mono HB3.out.size))
        go_wp2
        go_ret
        exact ⟨rfl, HF.out⟩
end Go.Proofs.YtodlkjlcihcciaaDoor.Walk
