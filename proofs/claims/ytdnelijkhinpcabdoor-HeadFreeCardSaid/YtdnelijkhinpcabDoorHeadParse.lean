/- head.Parse by a contract. -/
import Derived.Test.YtdnelijkhinpcabDoorHeadReg
namespace Go.Proofs.YtdnelijkhinpcabDoor.Head
open Go.ChangeShapes Go.WideShapes Go.ChangeAt Go.RowKit Go.Proofs.YtdnelijkhinpcabDoor.Base Go.Proofs.YtdnelijkhinpcabDoor.Byt Go.Proofs.YtdnelijkhinpcabDoor.Hp Go.Proofs.YtdnelijkhinpcabDoor.Mp Go.Proofs.YtdnelijkhinpcabDoor.Fp Go.Proofs.YtdnelijkhinpcabDoor.Field Go.Lib
set_option linter.unusedVariables false
set_option maxRecDepth 100000

set_option maxHeartbeats 4000000 in
theorem parseH_any (p : Option Addr) (n c : Nat) (bs : List UInt8) (w : World) (hn : bs.length = n) (hc : n ≤ c) (hm0 : c ≤ maxLen) (h : BAt w p n bs) :
    Calls Tryd.prog 9 #[.slice p n c] w fun e w' => e = .returned (headA (headR bs)) ∧ Kept noneB w w' := by
  have hm : c ≤ 9223372036854775807 := by unfold maxLen at hm0; omega
  have fl := field_own
  have HN := Lib.hid hn
  have H := Lib.hid h
  clear h hn
  by_cases h512 : n = 512
  · subst h512
    obtain ⟨g, hg⟩ : ∃ g, g = w.heap.size := ⟨_, rfl⟩
    obtain ⟨w0, hw0⟩ : ∃ w0, w0 = w.alloc (.cells #[.string ⟨#[]⟩, .string ⟨#[]⟩, .int .u8 0, .int .i64 0, .int .i64 0, .int .i64 0, .int .i64 0, .int .i64 0, .bool false] 25) := ⟨_, rfl⟩
    have HK0 : Hid (Kept noneB w w0) := Lib.hid (by rw [hw0]; exact (Kept.refl noneB w).alloc _)
    have HG0 : Hid (w0.heap[g]? = some (.cells zeroCs 25 (0, 0))) := Lib.hid (by rw [hw0, hg]; exact heap_alloc_new w _)
    have HGL : Hid (g < w0.heap.size) := Lib.hid (Array.getElem?_eq_some_iff.1 HG0.out).1
    have HGE : Hid (g = w.heap.size) := Lib.hid hg
    have HG : Hid (w.heap.size ≤ g) := Lib.hid (by omega)
    go_enter Tryd.func9, Tryd.ntmps9
    go_wp2_with fail
    rw [← hw0, ← hg]
    clear hw0 hg
    refine (read_any p c bs w0 HN.out hc (by unfold maxLen; omega) (H.out.kept HK0.out (fun _ _ _ => id))).mono ?_
    obtain ⟨g', hg'⟩ : ∃ g', g' = w0.heap.size := ⟨_, rfl⟩
    have HLO : Hid (g' = w0.heap.size) := Lib.hid hg'
    rw [← hg']
    clear hg'
    rintro e w1 ⟨B, r, rfl, hP1, hk1⟩
    have HP1 := Lib.hid hP1
    have HK1 := Lib.hid hk1
    have lk6 : (Instr.lookup 44 (.map (some B)) (.int .i64 6) false).run Tryd.prog w1 = .ok (.agg #[.int .i64 148, .slice (some ⟨r 6, 0, none⟩) 8 8]) w1 := lookB hP1 6 (by omega)
    clear hP1 hk1
    go_wp2_with fail
    refine (parse_any _ 8 8 (readO bs 6) w1 (HP1.out.fit 6) (Nat.le_refl _) (by decide) (HP1.out.bat (i := 6) (by omega))).mono ?_
    rintro e w2 ⟨rfl, hb2⟩
    have hk2 : Kept noneB w1 w2 := Kept.of_below hb2 _
    have HP2 := Lib.hid (HP1.out.kept0 hk2)
    have HK2 := Lib.hid (HK1.out.trans hk2)
    have HG2 := Lib.hid (HK2.out.some_ HG0.out id)
    clear hb2 hk2 lk6
    rw [readO_at bs 6 (by omega)]
    cases hps : parseF (fieldB bs 6) with
    | none =>
      have E : Hid (headR bs = (zeroH, 3)) := Lib.hid (headR_sum HN.out (by rw [hps]; simp))
      rw [vI_none, oI_none]
      have c0 := cellsAt HG2.out
      have f0 := cellsFrozen HG2.out
      unfold zeroCs at c0
      clear hps
      go_wp2
      refine bodyPost_ret (ret_head rfl _ _ g _ rfl rfl ⟨#[]⟩ ⟨#[]⟩ 0 0 0 0 0 0 false (stored9 HG2.out _ _ _ _ _ _ _ _ _)) rfl ?_
      rw [E.out]
      exact ⟨rfl, (HK0.out.trans HK2.out).then (kept9 (Kept.refl (oneB g) _) _ _ _ _ _ _ _ _ _) (fun i hi => Or.inl (by
        have h1 : i = g := hi
        rw [h1]
        exact HG.out))⟩
    | some sm =>
      rw [vI_some, oI_some]
      have hsum := sum_parts (bs := bs)
      have hple := plainTo_le bs 512
      have hsle := sumTo_le bs 512
      have hpf := plainTo_le (fieldB bs 6) 8
      obtain ⟨X, hX⟩ : ∃ X : Int, X = (sumTo bs 512 : Nat) := ⟨_, rfl⟩
      have hS : ((plainTo bs 512 : Nat) : Int) - (plainTo (readO bs 6) 8 : Nat) + 256 = X := by
        rw [readO_at bs 6 (by omega), hX]; omega
      have HS := Lib.hid hS
      have HX := Lib.hid hX
      have HPS0 := Lib.hid hps
      have hbat2 : BAt w2 p 512 bs := (H.out.kept HK0.out (fun _ _ _ => id)).kept HK2.out (fun _ _ _ => id)
      have HB2 := Lib.hid hbat2
      clear hsum hple hsle hpf hX hS hps hbat2
      by_cases hsX : sm = X
      · subst hsX
        have HPS : Hid (parseF (fieldB bs 6) = some (sumTo bs 512 : Int)) := Lib.hid (by rw [HPS0.out, HX.out])
        have hbX : (sm == sm) = true := by simp
        go_wp2_with fail
        refine (sum_any g' B r (readO bs) p 512 c bs w2 (by omega) HB2.out HP2.out).mono ?_
        rintro e w2' ⟨rfl, rfl⟩
        rw [HS.out]
        have lk9 : (Instr.lookup 44 (.map (some B)) (.int .i64 9) false).run Tryd.prog w2 = .ok (.agg #[.int .i64 257, .slice (some ⟨r 9, 0, none⟩) 8 8]) w2 := lookB HP2.out 9 (by omega)
        have cs9 : (convert 27 9 (.slice (some ⟨r 9, 0, none⟩) 8 8)).run Tryd.prog w2 = .ok (.string (str (fieldB bs 9))) w2 := by
          have := conv_at (P := Tryd.prog) (HP2.out.bat (i := 9) (by omega)) (HP2.out.fit 9) 27 5 9 Tryd.underlying27 Tryd.underlying5 Tryd.underlying9 8
          rw [readO_at bs 9 (by omega)] at this
          exact this
        by_cases hu : fieldB bs 9 = ustarB
        · have HM9 : Hid (fieldB bs 9 = ustarB ∨ fieldB bs 9 = gnuB) := Lib.hid (Or.inl hu)
          have hm9 := hu
          rw [hu, ustar_str] at cs9
          clear hu
          have HMF : Hid (gnuOf bs = false) := Lib.hid (by rw [gnuOf, hm9]; decide)
          go_wp2_with fail
          refine (numbers_any g' B r (readO bs) w2 HP2.out).mono ?_
          intro e w3 h3
          obtain ⟨hk3, (⟨hok, Q, rfl, hQ⟩ | ⟨hno, rfl⟩)⟩ := h3
          · have HT : Hid (headR bs = (theHead bs, 0)) := Lib.hid (headR_ok HN.out HPS.out HM9.out (by rw [← numsO_read]; exact hok))
            have HK3 := Lib.hid (HK2.out.trans hk3)
            have HG3 := Lib.hid (hk3.some_ HG2.out id)
            have HP3 := Lib.hid (HP2.out.kept0 hk3)
            have HQ3 := Lib.hid hQ
            have hoff : Q ≠ g ∧ B ≠ g ∧ ∀ i, i < 11 → r i ≠ g := by
              have h2 := HGL.out
              have h3 := HLO.out
              refine ⟨fun e => ?_, fun e => ?_, fun i hi e => ?_⟩
              · obtain ⟨es, clock, hb, _⟩ := hQ
                have h1 := HG3.out
                rw [← e, hb] at h1
                cases h1
              · have h1 := HP3.out.lo.1
                omega
              · have h1 := HP3.out.lo.2 i hi
                omega
            have HOFF := Lib.hid hoff
            clear hoff
            have HALL : Hid (∀ w', Kept (oneB g) w3 w' →
                (Instr.lookup 54 (.map (some Q)) (.int .i64 1) false).run Tryd.prog w' = .ok (.int .i64 (valB bs 1)) w' ∧
                (Instr.lookup 54 (.map (some Q)) (.int .i64 2) false).run Tryd.prog w' = .ok (.int .i64 (valB bs 2)) w' ∧
                (Instr.lookup 54 (.map (some Q)) (.int .i64 3) false).run Tryd.prog w' = .ok (.int .i64 (valB bs 3)) w' ∧
                (Instr.lookup 54 (.map (some Q)) (.int .i64 4) false).run Tryd.prog w' = .ok (.int .i64 (valB bs 4)) w' ∧
                (Instr.lookup 54 (.map (some Q)) (.int .i64 5) false).run Tryd.prog w' = .ok (.int .i64 (valB bs 5)) w') := Lib.hid (fun w' hk => by
              have hq := HQ3.out.kept hk HOFF.out.1
              have lk : ∀ i, 1 ≤ i → i ≤ 5 → (Instr.lookup 54 (.map (some Q)) (keyV i) false).run Tryd.prog w' = .ok (.int .i64 (valB bs i)) w' := fun i h1 h2 =>
                hq.look (P := Tryd.prog) Tryd.underlying54 Tryd.underlying47 (by rw [numF_at _ h1 h2, readO_at bs i (by omega)]; rfl)
              exact ⟨lk 1 (by omega) (by omega), lk 2 (by omega) (by omega), lk 3 (by omega) (by omega), lk 4 (by omega) (by omega), lk 5 (by omega) (by omega)⟩)
            clear hk3 hok hQ
            go_wp2_with fail
            refine wp_region_any (by kernel_rfl) (parse_region (w3 := w3) g g' B Q r (readO bs) ⟨#[117, 115, 116, 97, 114, 0, 48, 48]⟩ false (valB bs 1) (valB bs 2) (valB bs 3) (valB bs 4) (valB bs 5) (show 73 ≤ 73 from Nat.le_refl 73) rfl rfl rfl rfl HP3.out HOFF.out.2.1 HOFF.out.2.2 HG3.out (fun w' hk => HALL.out w' hk) (by rw [← ustar_str, str_toList]; decide) ?_)
            intro a' w' hd' h2' h3' hw' hk'
            have hT : (theHead bs).gnu = false := HMF.out
            have HFIN : Hid (headA (headR bs) = .tuple #[.agg #[.string (str (nameF (untilB (readO bs 10)) (untilB (readO bs 0)) false)), .string (str (untilB (readO bs 8))), .int .u8 ((kindO (readO bs 7)).toNat : Int), .int .i64 (valB bs 1), .int .i64 (valB bs 2), .int .i64 (valB bs 3), .int .i64 (valB bs 5), .int .i64 (valB bs 4), .bool false], .int .i64 0]) := Lib.hid (by
              rw [HT.out]
              simp only [headA, headC, theHead, HMF.out]
              rfl)
            simp only [Exit.then]
            apply_assumption
            go_wp2
            refine bodyPost_ret (ret_head rfl _ _ g (.int .i64 0) h2' h3' _ _ _ _ _ _ _ _ _ hw') hd' ?_
            rw [HFIN.out]
            exact ⟨rfl, (HK0.out.trans HK3.out).then hk' (fun i hi => Or.inl (by
              have h1 : i = g := hi
              rw [h1]
              exact HG.out))⟩
          · have E : Hid (headR bs = (zeroH, 4)) := Lib.hid (headR_num HN.out HPS.out HM9.out (by rw [← numsO_read]; exact hno))
            have HK3 := Lib.hid (HK2.out.trans hk3)
            have HG3 := Lib.hid (hk3.some_ HG2.out id)
            have c0 := cellsAt HG3.out
            have f0 := cellsFrozen HG3.out
            unfold zeroCs at c0
            clear hk3 hno
            go_wp2
            refine bodyPost_ret (ret_head rfl _ _ g _ rfl rfl ⟨#[]⟩ ⟨#[]⟩ 0 0 0 0 0 0 false (stored9 HG3.out _ _ _ _ _ _ _ _ _)) rfl ?_
            rw [E.out]
            exact ⟨rfl, (HK0.out.trans HK3.out).then (kept9 (Kept.refl (oneB g) _) _ _ _ _ _ _ _ _ _) (fun i hi => Or.inl (by
              have h1 : i = g := hi
              rw [h1]
              exact HG.out))⟩
        · by_cases hgn : fieldB bs 9 = gnuB
          · have HM9 : Hid (fieldB bs 9 = ustarB ∨ fieldB bs 9 = gnuB) := Lib.hid (Or.inr hgn)
            have hm9 := hgn
            rw [hgn, gnu_str] at cs9
            clear hu hgn
            have HMF : Hid (gnuOf bs = true) := Lib.hid (by rw [gnuOf, hm9]; decide)
            go_wp2_with fail
            refine (numbers_any g' B r (readO bs) w2 HP2.out).mono ?_
            intro e w3 h3
            obtain ⟨hk3, (⟨hok, Q, rfl, hQ⟩ | ⟨hno, rfl⟩)⟩ := h3
            · have HT : Hid (headR bs = (theHead bs, 0)) := Lib.hid (headR_ok HN.out HPS.out HM9.out (by rw [← numsO_read]; exact hok))
              have HK3 := Lib.hid (HK2.out.trans hk3)
              have HG3 := Lib.hid (hk3.some_ HG2.out id)
              have HP3 := Lib.hid (HP2.out.kept0 hk3)
              have HQ3 := Lib.hid hQ
              have hoff : Q ≠ g ∧ B ≠ g ∧ ∀ i, i < 11 → r i ≠ g := by
                have h2 := HGL.out
                have h3 := HLO.out
                refine ⟨fun e => ?_, fun e => ?_, fun i hi e => ?_⟩
                · obtain ⟨es, clock, hb, _⟩ := hQ
                  have h1 := HG3.out
                  rw [← e, hb] at h1
                  cases h1
                · have h1 := HP3.out.lo.1
                  omega
                · have h1 := HP3.out.lo.2 i hi
                  omega
              have HOFF := Lib.hid hoff
              clear hoff
              have HALL : Hid (∀ w', Kept (oneB g) w3 w' →
                  (Instr.lookup 54 (.map (some Q)) (.int .i64 1) false).run Tryd.prog w' = .ok (.int .i64 (valB bs 1)) w' ∧
                  (Instr.lookup 54 (.map (some Q)) (.int .i64 2) false).run Tryd.prog w' = .ok (.int .i64 (valB bs 2)) w' ∧
                  (Instr.lookup 54 (.map (some Q)) (.int .i64 3) false).run Tryd.prog w' = .ok (.int .i64 (valB bs 3)) w' ∧
                  (Instr.lookup 54 (.map (some Q)) (.int .i64 4) false).run Tryd.prog w' = .ok (.int .i64 (valB bs 4)) w' ∧
                  (Instr.lookup 54 (.map (some Q)) (.int .i64 5) false).run Tryd.prog w' = .ok (.int .i64 (valB bs 5)) w') := Lib.hid (fun w' hk => by
                have hq := HQ3.out.kept hk HOFF.out.1
                have lk : ∀ i, 1 ≤ i → i ≤ 5 → (Instr.lookup 54 (.map (some Q)) (keyV i) false).run Tryd.prog w' = .ok (.int .i64 (valB bs i)) w' := fun i h1 h2 =>
                  hq.look (P := Tryd.prog) Tryd.underlying54 Tryd.underlying47 (by rw [numF_at _ h1 h2, readO_at bs i (by omega)]; rfl)
                exact ⟨lk 1 (by omega) (by omega), lk 2 (by omega) (by omega), lk 3 (by omega) (by omega), lk 4 (by omega) (by omega), lk 5 (by omega) (by omega)⟩)
              clear hk3 hok hQ
              go_wp2_with fail
              refine wp_region_any (by kernel_rfl) (parse_region (w3 := w3) g g' B Q r (readO bs) ⟨#[117, 115, 116, 97, 114, 32, 32, 0]⟩ true (valB bs 1) (valB bs 2) (valB bs 3) (valB bs 4) (valB bs 5) (show 73 ≤ 73 from Nat.le_refl 73) rfl rfl rfl rfl HP3.out HOFF.out.2.1 HOFF.out.2.2 HG3.out (fun w' hk => HALL.out w' hk) (by rw [← gnu_str, str_toList]; decide) ?_)
              intro a' w' hd' h2' h3' hw' hk'
              have hT : (theHead bs).gnu = true := HMF.out
              have HFIN : Hid (headA (headR bs) = .tuple #[.agg #[.string (str (nameF (untilB (readO bs 10)) (untilB (readO bs 0)) true)), .string (str (untilB (readO bs 8))), .int .u8 ((kindO (readO bs 7)).toNat : Int), .int .i64 (valB bs 1), .int .i64 (valB bs 2), .int .i64 (valB bs 3), .int .i64 (valB bs 5), .int .i64 (valB bs 4), .bool true], .int .i64 0]) := Lib.hid (by
                rw [HT.out]
                simp only [headA, headC, theHead, HMF.out]
                rfl)
              simp only [Exit.then]
              apply_assumption
              go_wp2
              refine bodyPost_ret (ret_head rfl _ _ g (.int .i64 0) h2' h3' _ _ _ _ _ _ _ _ _ hw') hd' ?_
              rw [HFIN.out]
              exact ⟨rfl, (HK0.out.trans HK3.out).then hk' (fun i hi => Or.inl (by
                have h1 : i = g := hi
                rw [h1]
                exact HG.out))⟩
            · have E : Hid (headR bs = (zeroH, 4)) := Lib.hid (headR_num HN.out HPS.out HM9.out (by rw [← numsO_read]; exact hno))
              have HK3 := Lib.hid (HK2.out.trans hk3)
              have HG3 := Lib.hid (hk3.some_ HG2.out id)
              have c0 := cellsAt HG3.out
              have f0 := cellsFrozen HG3.out
              unfold zeroCs at c0
              clear hk3 hno
              go_wp2
              refine bodyPost_ret (ret_head rfl _ _ g _ rfl rfl ⟨#[]⟩ ⟨#[]⟩ 0 0 0 0 0 0 false (stored9 HG3.out _ _ _ _ _ _ _ _ _)) rfl ?_
              rw [E.out]
              exact ⟨rfl, (HK0.out.trans HK3.out).then (kept9 (Kept.refl (oneB g) _) _ _ _ _ _ _ _ _ _) (fun i hi => Or.inl (by
                have h1 : i = g := hi
                rw [h1]
                exact HG.out))⟩
          · have E : Hid (headR bs = (zeroH, 9)) := Lib.hid (headR_text HN.out HPS.out ⟨hu, hgn⟩)
            have q1 : ((str (fieldB bs 9)).toList == [117, 115, 116, 97, 114, 0, 48, 48]) = false := by rw [str_toList]; exact beq_eq_false_iff_ne.2 hu
            have q2 : ((str (fieldB bs 9)).toList == [117, 115, 116, 97, 114, 32, 32, 0]) = false := by rw [str_toList]; exact beq_eq_false_iff_ne.2 hgn
            have c0 := cellsAt HG2.out
            have f0 := cellsFrozen HG2.out
            unfold zeroCs at c0
            clear hu hgn
            go_wp2
            refine bodyPost_ret (ret_head rfl _ _ g _ rfl rfl ⟨#[]⟩ ⟨#[]⟩ 0 0 0 0 0 0 false (stored9 HG2.out _ _ _ _ _ _ _ _ _)) rfl ?_
            rw [E.out]
            exact ⟨rfl, (HK0.out.trans HK2.out).then (kept9 (Kept.refl (oneB g) _) _ _ _ _ _ _ _ _ _) (fun i hi => Or.inl (by
              have h1 : i = g := hi
              rw [h1]
              exact HG.out))⟩
      · have E : Hid (headR bs = (zeroH, 3)) := Lib.hid (headR_sum HN.out (by
          rw [HPS0.out, ← HX.out]
          intro e
          exact hsX (Option.some.inj e)))
        have hbX : (sm == X) = false := by simpa using hsX
        have c0 := cellsAt HG2.out
        have f0 := cellsFrozen HG2.out
        unfold zeroCs at c0
        go_wp2_with fail
        refine (sum_any g' B r (readO bs) p 512 c bs w2 (by omega) HB2.out HP2.out).mono ?_
        rintro e w2' ⟨rfl, rfl⟩
        rw [HS.out]
        go_wp2
        refine bodyPost_ret (ret_head rfl _ _ g _ rfl rfl ⟨#[]⟩ ⟨#[]⟩ 0 0 0 0 0 0 false (stored9 HG2.out _ _ _ _ _ _ _ _ _)) rfl ?_
        rw [E.out]
        exact ⟨rfl, (HK0.out.trans HK2.out).then (kept9 (Kept.refl (oneB g) _) _ _ _ _ _ _ _ _ _) (fun i hi => Or.inl (by
          have h1 : i = g := hi
          rw [h1]
          exact HG.out))⟩
  · have E : Hid (headR bs = (zeroH, 1)) := Lib.hid (headR_arg (by rw [HN.out]; exact h512))
    have hb : ((n : Int) == 512) = false := by simp; omega
    have hk0 : Kept noneB w (w.alloc (.cells #[.string ⟨#[]⟩, .string ⟨#[]⟩, .int .u8 0, .int .i64 0, .int .i64 0, .int .i64 0, .int .i64 0, .int .i64 0, .bool false] 25)) := (Kept.refl noneB w).alloc _
    have HK0 := Lib.hid hk0
    clear hk0
    go_enter Tryd.func9, Tryd.ntmps9
    go_wp2
    refine bodyPost_ret (ret_head rfl _ _ w.heap.size _ rfl rfl ⟨#[]⟩ ⟨#[]⟩ 0 0 0 0 0 0 false (heap_alloc_new _ _)) rfl ?_
    rw [E.out]
    exact ⟨rfl, HK0.out⟩
end Go.Proofs.YtdnelijkhinpcabDoor.Head
