/- The walk over BlockReads: it returns true for every input, and writes nothing that was there. -/
import Derived.Test.YtindibabpfdljaaDoorBlockRes
namespace Go.Proofs.YtindibabpfdljaaDoor.Walk
open Go.ChangeShapes Go.WideShapes Go.ChangeAt Go.RowKit Go.Proofs.YtindibabpfdljaaDoor.Base Go.Proofs.YtindibabpfdljaaDoor.Byt Go.Proofs.YtindibabpfdljaaDoor.Num Go.Proofs.YtindibabpfdljaaDoor.Block Go.Lib
set_option linter.unusedVariables false

theorem lpad_any (n : Int) (k : Nat) (w : World) (h : n = k) (hk : k ≤ 200000) :
    Calls Tryd.prog 13 #[.int .i64 n] w fun e w' => e = .returned (.int .i64 (padN k : Nat)) ∧ w = w' := by
  subst h
  have hp : (((k : Int) + 511) / 512 * 512) = ((padN k : Nat) : Int) := by unfold padN; omega
  obtain ⟨P, hP⟩ : ∃ P, P = padN k := ⟨_, rfl⟩
  rw [← hP] at hp ⊢
  clear hP
  go_enter Tryd.func13, Tryd.ntmps13
  go_wp2
  go_ret
  exact ⟨rfl, rfl⟩
theorem rest_false {bs : List UInt8} {a j : Nat} (h : false = restB ((bs.drop a).take j)) : false = restB ((bs.drop a).take (j + 1)) := by
  rw [List.take_add]
  unfold restB at h ⊢
  rw [List.all_append, ← h, Bool.false_and]
theorem rest_next {bs : List UInt8} {a j : Nat} (hj : j < bs.length) (ha : a ≤ j) : (bs.drop a).take (j + 1 - a) = (bs.drop a).take (j - a) ++ [bs.getD j 0] := by
  rw [show j + 1 - a = (j - a) + 1 by omega, List.take_add, List.drop_drop, show a + (j - a) = j by omega, List.drop_eq_getElem_cons hj, List.take_succ_cons, List.take_zero]
  simp [List.getD, hj]
theorem rest_step {bs : List UInt8} {a j : Nat} (hj : j < bs.length) (ha : a ≤ j) (h : true = restB ((bs.drop a).take (j - a))) (hx : bs.getD j 0 = 0) : true = restB ((bs.drop a).take (j + 1 - a)) := by
  rw [rest_next hj ha, hx]
  unfold restB at h ⊢
  rw [List.all_append, ← h]
  rfl
theorem rest_stop {bs : List UInt8} {a j : Nat} (hj : j < bs.length) (ha : a ≤ j) (hx : bs.getD j 0 ≠ 0) : false = restB ((bs.drop a).take (j + 1 - a)) := by
  rw [rest_next hj ha]
  unfold restB
  have h0 : ([bs.getD j 0].all (· == 0)) = false := by
    simp only [List.all_cons, List.all_nil, Bool.and_true]
    exact beq_eq_false_iff_ne.2 hx
  rw [List.all_append, h0, Bool.and_false]
/-- the loop's relation -/
def ReadInv (w : World) (g : Nat) (S : Sv) (a : Nat) (wr : World) : Prop := (∃ t, Src wr g S a t) ∧ Byt.Kept noneB w wr
set_option maxRecDepth 100000 in
set_option maxHeartbeats 8000000 in
theorem blockReads' (a0 : Option Addr) (n cap0 : Nat) (bs : List UInt8) (a1 : Option Addr) (n1 cap1 : Nat) (zs1 : List Int) (a3 : Option Addr) (n3 cap3 : Nat) (V : Nat → Bool) (U : Nat → Int) (w : World)
    (hb : BAt w a0 n bs) (hl : bs.length = n) (hc0 : n ≤ cap0) (hcm : cap0 ≤ 140737488351232) (hi1 : IAt w a1 n1 zs1) (hl1 : zs1.length = n1) (hm1 : n1 * 8 ≤ 140737488351232) (ha : AAt w a3 n3 V U) (hm3 : n3 ≤ cap3 ∧ cap3 ≤ maxLen) :
    Calls Tryd.prog 3 #[.slice a0 n cap0, .slice a1 n1 cap1, .slice a3 n3 cap3] w fun e w' => e = .returned (.bool true) ∧ Below w.heap.size w w' := by
  obtain ⟨i0, hi, hz0, hz1, hz2⟩ := info_parts infoU8
  obtain ⟨i1, hi', hz0', hz1', hz2'⟩ := info_parts infoI64
  have HI := Lib.hid hi
  have HZ0 := Lib.hid hz0
  have HZ1 := Lib.hid hz1
  have HZ2 := Lib.hid hz2
  have HI' := Lib.hid hi'
  have HZ0' := Lib.hid hz0'
  have HZ1' := Lib.hid hz1'
  have HZ2' := Lib.hid hz2'
  have HB := Lib.hid hb
  have HL := Lib.hid hl
  have HI1 := Lib.hid hi1
  have HL1 := Lib.hid hl1
  have HM1 := Lib.hid hm1
  have HA := Lib.hid ha
  clear hi hz0 hz1 hz2 hi' hz0' hz1' hz2' hb hl hi1 hl1 hm1 ha
  by_cases hbig : 5000 < n ∨ 40 < n3
  · have hbb : (decide (5000 < (n : Int)) || decide (40 < (n3 : Int))) = true := by simp; omega
    clear hbig
    go_enter Tryd.func3, Tryd.ntmps3
    go_wp2_with fail
    all_goals
      refine (ans03_any _).mono ?_
      rintro e w2 ⟨rfl, hk⟩
      have HK := Lib.hid hk
      clear hk
      go_wp2
      go_ret
      exact ⟨rfl, HK.out.below (Nat.le_refl _) (fun _ h => h.elim)⟩
  · have hn : n ≤ 5000 := by omega
    have hn3 : n3 ≤ 40 := by omega
    clear hbig
    go_enter Tryd.func3, Tryd.ntmps3
    go_wp2_with (at_builtin; refine append_bytes rfl _ _ 22 rfl w.heap.size 5 i0 Tryd.underlying22 HI.out HZ0.out HZ1.out HZ2.out _ 0 [] rfl (World.ownsRow_made w #[] 0 (Nat.le_refl _) (by decide) rfl) a0 n cap0 bs rfl (HB.out.alloc _) HL.out ?d2 ?d3 ?_)
    case d2 => omega
    case d3 => simp
    intro v1 w1 hown1 hgrow1
    have ho1 : OwnB w1 w.heap.size v1 n bs := by
      unfold OwnB
      simpa using hown1
    have HO1 := Lib.hid ho1
    have hk1 : Byt.Kept noneB w w1 := ((Byt.Kept.refl noneB w).alloc _).grown hgrow1 (by intro k hk; simp [Value.ownBlock] at hk; omega)
    have HK1 := Lib.hid hk1
    obtain ⟨p1, c1, rfl, _, _, hb1, _, hown1b⟩ := ho1.slice
    have HB1 := Lib.hid hb1
    have HOB1 := Lib.hid hown1b
    clear hown1 hgrow1 ho1 hk1 hb1 hown1b
    go_wp2_with (at_builtin; refine append_ints rfl _ _ 23 rfl w1.heap.size 3 i1 Tryd.underlying23 HI'.out HZ0'.out HZ1'.out HZ2'.out _ 0 [] rfl (World.ownsRow_made w1 #[] 0 (Nat.le_refl _) (by decide) rfl) a1 n1 cap1 zs1 rfl ?d1 HL1.out ?d2 ?d3 ?_)
    case d1 => exact (HI1.out.kept HK1.out (fun _ _ _ => id)).kept ((Byt.Kept.refl noneB w1).alloc _) (fun _ _ _ => id)
    case d2 => have := HM1.out; omega
    case d3 => simp
    intro v2 w2 hown2 hgrow2
    have ho2 : w2.ownsRow w1.heap.size 3 1 v2 n1 (zs1.map (Value.int .i64)) := by simpa using hown2
    have hk2 : Byt.Kept noneB w1 w2 := ((Byt.Kept.refl noneB w1).alloc _).grown hgrow2 (by intro k hk; simp [Value.ownBlock] at hk; omega)
    have HK2 := Lib.hid (HK1.out.trans hk2)
    obtain ⟨p2, c2, rfl, _, _, hi2, _, _⟩ := iat_of_own ho2
    have HI2 := Lib.hid hi2
    have HB2 := Lib.hid (HB1.out.kept hk2 (fun _ _ _ => id))
    clear hown2 hgrow2 ho2 hk2 hi2
    go_wp2_with fail
    refine (new_any w2 p1 n c1 bs p2 n1 c2 zs1 HB2.out HL.out (by omega) HI2.out HL1.out HM1.out).mono ?_
    rintro e wa ⟨g, S, rfl, hg, hSb, hSn, _, hoff, _, _, hsa, hka⟩
    have HG : Hid (w.heap.size ≤ g) := Lib.hid (Nat.le_trans HK2.out.size hg)
    have HSB := Lib.hid hSb
    have HOFF := Lib.hid hoff
    have HSa := Lib.hid hsa
    have HKa := Lib.hid (HK2.out.trans hka)
    have GNEW : Hid (∀ i, oneB g i → w.heap.size ≤ i ∨ noneB i) := Lib.hid (fun i hi => Or.inl (by have := HG.out; have h : i = g := hi; omega))
    clear hg hSb hSn hoff hsa hka
    go_wp2_with fail
    go_loopw [8, 9] (fun at_ i wr => ∃ (kk a : Nat), kk ≤ n3 ∧ a ≤ n ∧ i = .int .i64 kk ∧ at_ = .int .i64 a ∧ Hid (ReadInv w g S a wr)) (fun _ i _ => n3 - (RowKit.intOf i).toNat)
    case atStart => exact ⟨0, 0, by omega, by omega, rfl, rfl, Lib.hid ⟨⟨0, HSa.out⟩, HKa.out⟩⟩
    case round =>
      obtain ⟨kk, a, hkk, hale, rfl, rfl, hinv⟩ := hrel
      obtain ⟨⟨t, hs⟩, hk⟩ := hinv.out
      have HS := Lib.hid hs
      have HK := Lib.hid hk
      clear hs hk
      by_cases hlt : kk < n3
      · obtain ⟨ab, ao, rfl, hab, hcells⟩ := HA.out (by omega)
        obtain ⟨hcV0, hcU0, hwf⟩ := hcells kk hlt
        have hblk := HK.out.block ab hab id
        have hcV := (World.cell?_of_block (a := ⟨ab, ao + kk * 2, none⟩) hblk).trans hcV0
        have hcU := (World.cell?_of_block (a := ⟨ab, ao + kk * 2 + 1, none⟩) hblk).trans hcU0
        obtain ⟨v, hv⟩ : ∃ v, V kk = v := ⟨_, rfl⟩
        obtain ⟨u, hu⟩ : ∃ u, U kk = u := ⟨_, rfl⟩
        rw [hv] at hcV hcV0
        rw [hu] at hcU
        have HCV := Lib.hid hcV0
        clear hcells hcV0 hcU0 hblk hwf hv hu
        rcases v with _ | _
        · by_cases hur : 0 ≤ u ∧ u ≤ 4611686018427387904
          · obtain ⟨k, rfl⟩ : ∃ k : Nat, u = k := ⟨u.toNat, by omega⟩
            obtain ⟨hur0, hur1⟩ := hur
            obtain ⟨P, hP⟩ : ∃ P, P = padN k := ⟨_, rfl⟩
            have hP1 := padN_ge k
            have hP2 := padN_le k
            rw [← hP] at hP1 hP2
            have HP := Lib.hid hP
            clear hP
            by_cases hk1 : 100000 < k
            · skip
              have hR : bodR bs a (k : Int) = (2, [], n) := by unfold bodR; rw [if_pos ⟨hur0, hur1⟩, Int.toNat_natCast, ← HP.out, HL.out, if_neg (by omega)]
              have HR0 := Lib.hid hR
              clear hR
              go_wp2_with fail
              refine (body_res _ g a t S HS.out HOFF.out _).mono ?_
              intro e w4 h4
              rw [HSB.out, HR0.out] at h4
              obtain ⟨p4, m4, c4, t4, rfl, hX4, hb4, hp4, hs4, hk4⟩ := h4
              dsimp only at hX4 hb4 hs4
              obtain rfl : m4 = 0 := by simpa using hX4.symm
              clear hX4 hb4 hp4
              have HS4 := Lib.hid hs4
              have HK4 := Lib.hid (HK.out.then hk4 GNEW.out)
              have hcV4 := (World.cell?_of_block (a := ⟨ab, ao + kk * 2, none⟩) (HK4.out.block ab hab id)).trans HCV.out
              clear hs4 hk4
              have H2 : n ≤ n := Nat.le_refl _
              go_wp2_with fail
              refine (may_yes _ _ (by omega) (by omega)).mono ?_
              rintro e w6 ⟨rfl, rfl⟩
              go_wp2_with fail
              go_quiet (fail)
              have HS5 := Lib.hid (HS4.out.kept0 ((Byt.Kept.refl noneB w4).drewN nq))
              have HK5 := Lib.hid (HK4.out.drewN nq)
              generalize hw5 : w4.drewN nq = w5 at HS5 HK5 ⊢
              clear hw5 hcV4
              have hb5 := HB.out.kept HK5.out (fun _ _ _ => id)
              have HB5 := Lib.hid hb5
              clear hb5
              obtain ⟨rr, hrr⟩ : ∃ rr, rr = restB (bs.drop n) := ⟨_, rfl⟩
              have HRR := Lib.hid hrr
              clear hrr
              go_wp2_with fail
              go_loop [15, 16] (fun r i => ∃ (j : Nat) (b : Bool), n ≤ j ∧ j ≤ n ∧ i = .int .i64 j ∧ r = .bool b ∧ Hid (b = restB ((bs.drop n).take (j - n)))) (fun _ i => n - (RowKit.intOf i).toNat)
              case atStart => exact ⟨n, true, Nat.le_refl _, H2, rfl, rfl, Lib.hid (by rw [Nat.sub_self, List.take_zero]; rfl)⟩
              case round =>
                obtain ⟨j, b, hj1, hj2, rfl, rfl, hb⟩ := hrel
                by_cases hjn : j < n
                · cases b
                  · go_wp2_with fail
                    go_round
                    case rel => exact ⟨j + 1, false, by omega, by omega, by go_num, rfl, Lib.hid (by have := rest_false hb.out; rw [show j - n + 1 = j + 1 - n by omega] at this; exact this)⟩
                    case measure => simp [RowKit.intOf]; omega
                  · obtain ⟨bb, bo, hbe, hbcell⟩ := HB5.out (by omega)
                    cases hbe
                    have hbc := hbcell j hjn
                    obtain ⟨x, hx⟩ : ∃ x, x = bs.getD j 0 := ⟨_, rfl⟩
                    rw [← hx] at hbc
                    have HX := Lib.hid hx
                    clear hbcell hx
                    by_cases hx0 : x = 0
                    · have hxi : (x.toNat : Int) = 0 := by rw [hx0]; rfl
                      rw [hxi] at hbc
                      have HX0 := Lib.hid hx0
                      clear hxi hx0
                      go_wp2_with fail
                      go_round
                      case rel => exact ⟨j + 1, true, by omega, by omega, by go_num, rfl, Lib.hid (rest_step (by rw [HL.out]; exact hjn) hj1 hb.out (by rw [← HX.out, HX0.out]))⟩
                      case measure => simp [RowKit.intOf]; omega
                    · have hxi : ((x.toNat : Int) == 0) = false := by
                        rw [beq_eq_false_iff_ne]
                        intro hh
                        exact hx0 (UInt8.toNat_inj.1 (by simpa using hh))
                      have HX0 := Lib.hid hx0
                      clear hx0
                      go_wp2_with fail
                      go_round
                      case rel => exact ⟨j + 1, false, by omega, by omega, by go_num, rfl, Lib.hid (rest_stop (by rw [HL.out]; exact hjn) hj1 (by rw [← HX.out]; exact HX0.out))⟩
                      case measure => simp [RowKit.intOf]; omega
                · have hbr : b = rr := by rw [hb.out, HRR.out, List.take_of_length_le (by rw [List.length_drop, HL.out]; omega)]
                  subst hbr
                  go_wp2_with fail
                  refine (place_any w5 g n t4 S HS5.out).mono ?_
                  rintro e w6 ⟨rfl, rfl⟩
                  go_wp2_with fail
                  refine (rest_any w5 g n t4 S HS5.out).mono ?_
                  rintro e w6 ⟨rfl, hs6, hk6⟩
                  rw [HSB.out, ← HRR.out]
                  have HR6 : Hid (ReadInv w g S n w6) := Lib.hid ⟨⟨t4, hs6⟩, HK5.out.trans hk6⟩
                  clear hs6 hk6
                  go_wp2_with fail
                  go_roundw
                  case rel => exact ⟨kk + 1, n, by omega, H2, by go_num, rfl, HR6⟩
                  case measure => simp [RowKit.intOf]; omega
            · by_cases hPn : a + P ≤ n
              · skip
                by_cases hk0 : 0 < k
                · skip
                  have hR : bodR bs a (k : Int) = (0, (bs.drop a).take k, a + P) := by unfold bodR; rw [if_pos ⟨hur0, hur1⟩, Int.toNat_natCast, ← HP.out, HL.out, if_pos hPn]
                  have HR0 := Lib.hid hR
                  clear hR
                  go_wp2_with fail
                  refine (body_res _ g a t S HS.out HOFF.out _).mono ?_
                  intro e w4 h4
                  rw [HSB.out, HR0.out] at h4
                  obtain ⟨p4, m4, c4, t4, rfl, hX4, hb4, hp4, hs4, hk4⟩ := h4
                  dsimp only at hX4 hb4 hs4
                  obtain rfl : k = m4 := by rw [← hX4, List.length_take, List.length_drop, HL.out]; omega
                  obtain ⟨ds, hds⟩ : ∃ ds : ByteArray, ds = ⟨((bs.drop a).take k).toArray⟩ := ⟨_, rfl⟩
                  have cs1 : ∀ q, (convert 22 9 (.slice p4 k c4)).run Tryd.prog (w4.drewN q) = .ok (.string ds) (w4.drewN q) := fun q => by
                    rw [hds]
                    exact conv_at (hb4.kept ((Byt.Kept.refl noneB w4).drewN q) (fun _ _ _ => id)) hX4 _ _ _ Tryd.underlying22 Tryd.underlying5 Tryd.underlying9 c4
                  have HDS := Lib.hid hds
                  have HS4 := Lib.hid hs4
                  have HK4 := Lib.hid (HK.out.then hk4 GNEW.out)
                  have hcV4 := (World.cell?_of_block (a := ⟨ab, ao + kk * 2, none⟩) (HK4.out.block ab hab id)).trans HCV.out
                  obtain ⟨eb, eo, rfl, _⟩ := HB.out (by omega)
                  have cs2 : ∀ q c, (convert 22 9 (.slice (some ⟨eb, eo + a, none⟩) k c)).run Tryd.prog (w4.drewN q) = .ok (.string ds) (w4.drewN q) := fun q c => by
                    rw [HDS.out]
                    have hd := HB.out.drop hale hc0 HL.out
                    rw [if_neg (by omega)] at hd
                    have hd2 := (hd.take (k := k) (by omega)).kept (HK4.out.drewN q) (fun _ _ _ => id)
                    simp only [Option.map_some, add_plain] at hd2
                    exact conv_at hd2 (by rw [List.length_take, List.length_drop, HL.out]; omega) _ _ _ Tryd.underlying22 Tryd.underlying5 Tryd.underlying9 c
                  clear hs4 hk4 hX4 hb4 hp4 hds
                  obtain ⟨a2, ha2⟩ : ∃ a2, a + P = a2 := ⟨_, rfl⟩
                  have HS4 : Hid (Src w4 g S a2 t4) := Lib.hid (by rw [← ha2]; exact HS4.out)
                  have hA2 : (a : Int) + (P : Int) = (a2 : Int) := by omega
                  have H2 : a2 ≤ n := by omega
                  clear ha2
                  obtain ⟨e2, he2⟩ : ∃ e2, e2 = a + k := ⟨_, rfl⟩
                  have hs0 : (a : Int) + (k : Int) = (e2 : Int) := by omega
                  have hs1 : (a : Int) ≤ (e2 : Int) := by omega
                  have hs2 : (e2 : Int) ≤ (cap0 : Int) := by omega
                  have hs3 : e2 - a = k := by omega
                  have hs4 : ¬ cap0 = a := by omega
                  clear he2
                  go_wp2_with fail
                  refine (may_yes _ _ (by omega) (by omega)).mono ?_
                  rintro e w6 ⟨rfl, rfl⟩
                  go_wp2_with fail
                  refine (lpad_any _ k _ (by omega) (by omega)).mono ?_
                  rintro e w6 ⟨rfl, rfl⟩
                  rw [← HP.out]
                  go_wp2_with fail
                  refine (lpad_any _ k _ (by omega) (by omega)).mono ?_
                  rintro e w6 ⟨rfl, rfl⟩
                  rw [← HP.out]
                  go_wp2_with fail
                  go_quiet (fail)
                  have HS5 := Lib.hid (HS4.out.kept0 ((Byt.Kept.refl noneB w4).drewN nq))
                  have HK5 := Lib.hid (HK4.out.drewN nq)
                  generalize hw5 : w4.drewN nq = w5 at HS5 HK5 ⊢
                  clear hw5 hcV4
                  have hb5 := HB.out.kept HK5.out (fun _ _ _ => id)
                  have HB5 := Lib.hid hb5
                  clear hb5
                  obtain ⟨rr, hrr⟩ : ∃ rr, rr = restB (bs.drop a2) := ⟨_, rfl⟩
                  have HRR := Lib.hid hrr
                  clear hrr
                  go_wp2_with fail
                  go_loop [15, 16] (fun r i => ∃ (j : Nat) (b : Bool), a2 ≤ j ∧ j ≤ n ∧ i = .int .i64 j ∧ r = .bool b ∧ Hid (b = restB ((bs.drop a2).take (j - a2)))) (fun _ i => n - (RowKit.intOf i).toNat)
                  case atStart => exact ⟨a2, true, Nat.le_refl _, H2, rfl, rfl, Lib.hid (by rw [Nat.sub_self, List.take_zero]; rfl)⟩
                  case round =>
                    obtain ⟨j, b, hj1, hj2, rfl, rfl, hb⟩ := hrel
                    by_cases hjn : j < n
                    · cases b
                      · go_wp2_with fail
                        go_round
                        case rel => exact ⟨j + 1, false, by omega, by omega, by go_num, rfl, Lib.hid (by have := rest_false hb.out; rw [show j - a2 + 1 = j + 1 - a2 by omega] at this; exact this)⟩
                        case measure => simp [RowKit.intOf]; omega
                      · obtain ⟨bb, bo, hbe, hbcell⟩ := HB5.out (by omega)
                        cases hbe
                        have hbc := hbcell j hjn
                        obtain ⟨x, hx⟩ : ∃ x, x = bs.getD j 0 := ⟨_, rfl⟩
                        rw [← hx] at hbc
                        have HX := Lib.hid hx
                        clear hbcell hx
                        by_cases hx0 : x = 0
                        · have hxi : (x.toNat : Int) = 0 := by rw [hx0]; rfl
                          rw [hxi] at hbc
                          have HX0 := Lib.hid hx0
                          clear hxi hx0
                          go_wp2_with fail
                          go_round
                          case rel => exact ⟨j + 1, true, by omega, by omega, by go_num, rfl, Lib.hid (rest_step (by rw [HL.out]; exact hjn) hj1 hb.out (by rw [← HX.out, HX0.out]))⟩
                          case measure => simp [RowKit.intOf]; omega
                        · have hxi : ((x.toNat : Int) == 0) = false := by
                            rw [beq_eq_false_iff_ne]
                            intro hh
                            exact hx0 (UInt8.toNat_inj.1 (by simpa using hh))
                          have HX0 := Lib.hid hx0
                          clear hx0
                          go_wp2_with fail
                          go_round
                          case rel => exact ⟨j + 1, false, by omega, by omega, by go_num, rfl, Lib.hid (rest_stop (by rw [HL.out]; exact hjn) hj1 (by rw [← HX.out]; exact HX0.out))⟩
                          case measure => simp [RowKit.intOf]; omega
                    · have hbr : b = rr := by rw [hb.out, HRR.out, List.take_of_length_le (by rw [List.length_drop, HL.out]; omega)]
                      subst hbr
                      go_wp2_with fail
                      refine (place_any w5 g a2 t4 S HS5.out).mono ?_
                      rintro e w6 ⟨rfl, rfl⟩
                      go_wp2_with fail
                      refine (rest_any w5 g a2 t4 S HS5.out).mono ?_
                      rintro e w6 ⟨rfl, hs6, hk6⟩
                      rw [HSB.out, ← HRR.out]
                      have HR6 : Hid (ReadInv w g S a2 w6) := Lib.hid ⟨⟨t4, hs6⟩, HK5.out.trans hk6⟩
                      clear hs6 hk6
                      go_wp2_with fail
                      go_roundw
                      case rel => exact ⟨kk + 1, a2, by omega, H2, by go_num, rfl, HR6⟩
                      case measure => simp [RowKit.intOf]; omega
                · obtain rfl : k = 0 := by omega
                  have hR : bodR bs a 0 = (0, (bs.drop a).take 0, a + P) := by unfold bodR; rw [if_pos ⟨by omega, by omega⟩, show (0 : Int).toNat = 0 from rfl, ← HP.out, HL.out, if_pos hPn]
                  have HR0 := Lib.hid hR
                  clear hR
                  go_wp2_with fail
                  refine (body_res _ g a t S HS.out HOFF.out _).mono ?_
                  intro e w4 h4
                  rw [HSB.out, HR0.out] at h4
                  obtain ⟨p4, m4, c4, t4, rfl, hX4, hb4, hp4, hs4, hk4⟩ := h4
                  dsimp only at hX4 hb4 hs4
                  obtain rfl : 0 = m4 := by rw [← hX4, List.length_take, List.length_drop, HL.out]; omega
                  obtain ⟨ds, hds⟩ : ∃ ds : ByteArray, ds = ⟨((bs.drop a).take 0).toArray⟩ := ⟨_, rfl⟩
                  have cs1 : ∀ q, (convert 22 9 (.slice p4 0 c4)).run Tryd.prog (w4.drewN q) = .ok (.string ds) (w4.drewN q) := fun q => by
                    rw [hds]
                    exact conv_at (hb4.kept ((Byt.Kept.refl noneB w4).drewN q) (fun _ _ _ => id)) hX4 _ _ _ Tryd.underlying22 Tryd.underlying5 Tryd.underlying9 c4
                  have HDS := Lib.hid hds
                  have HS4 := Lib.hid hs4
                  have HK4 := Lib.hid (HK.out.then hk4 GNEW.out)
                  have hcV4 := (World.cell?_of_block (a := ⟨ab, ao + kk * 2, none⟩) (HK4.out.block ab hab id)).trans HCV.out
                  have cs2 : ∀ q p c, (convert 22 9 (.slice p 0 c)).run Tryd.prog (w4.drewN q) = .ok (.string ds) (w4.drewN q) := fun q p c => by
                    rw [HDS.out, List.take_zero]
                    exact conv_at (BAt.none_ _ p) rfl _ _ _ Tryd.underlying22 Tryd.underlying5 Tryd.underlying9 c
                  clear hs4 hk4 hX4 hb4 hp4 hds
                  obtain ⟨a2, ha2⟩ : ∃ a2, a + P = a2 := ⟨_, rfl⟩
                  have HS4 : Hid (Src w4 g S a2 t4) := Lib.hid (by rw [← ha2]; exact HS4.out)
                  have hA2 : (a : Int) + (P : Int) = (a2 : Int) := by omega
                  have H2 : a2 ≤ n := by omega
                  clear ha2
                  have hs2 : (a : Int) ≤ (cap0 : Int) := by omega
                  by_cases hca : cap0 = a
                  · have hca2 := hca.symm
                    clear hca
                    subst hca2
                    go_wp2_with fail
                    refine (may_yes _ _ (by omega) (by omega)).mono ?_
                    rintro e w6 ⟨rfl, rfl⟩
                    go_wp2_with fail
                    refine (lpad_any _ 0 _ (by omega) (by omega)).mono ?_
                    rintro e w6 ⟨rfl, rfl⟩
                    rw [← HP.out]
                    go_wp2_with fail
                    refine (lpad_any _ 0 _ (by omega) (by omega)).mono ?_
                    rintro e w6 ⟨rfl, rfl⟩
                    rw [← HP.out]
                    go_wp2_with fail
                    go_quiet (fail)
                    have HS5 := Lib.hid (HS4.out.kept0 ((Byt.Kept.refl noneB w4).drewN nq))
                    have HK5 := Lib.hid (HK4.out.drewN nq)
                    generalize hw5 : w4.drewN nq = w5 at HS5 HK5 ⊢
                    clear hw5 hcV4
                    have hb5 := HB.out.kept HK5.out (fun _ _ _ => id)
                    have HB5 := Lib.hid hb5
                    clear hb5
                    obtain ⟨rr, hrr⟩ : ∃ rr, rr = restB (bs.drop a2) := ⟨_, rfl⟩
                    have HRR := Lib.hid hrr
                    clear hrr
                    go_wp2_with fail
                    go_loop [15, 16] (fun r i => ∃ (j : Nat) (b : Bool), a2 ≤ j ∧ j ≤ n ∧ i = .int .i64 j ∧ r = .bool b ∧ Hid (b = restB ((bs.drop a2).take (j - a2)))) (fun _ i => n - (RowKit.intOf i).toNat)
                    case atStart => exact ⟨a2, true, Nat.le_refl _, H2, rfl, rfl, Lib.hid (by rw [Nat.sub_self, List.take_zero]; rfl)⟩
                    case round =>
                      obtain ⟨j, b, hj1, hj2, rfl, rfl, hb⟩ := hrel
                      by_cases hjn : j < n
                      · cases b
                        · go_wp2_with fail
                          go_round
                          case rel => exact ⟨j + 1, false, by omega, by omega, by go_num, rfl, Lib.hid (by have := rest_false hb.out; rw [show j - a2 + 1 = j + 1 - a2 by omega] at this; exact this)⟩
                          case measure => simp [RowKit.intOf]; omega
                        · obtain ⟨bb, bo, hbe, hbcell⟩ := HB5.out (by omega)
                          cases hbe
                          have hbc := hbcell j hjn
                          obtain ⟨x, hx⟩ : ∃ x, x = bs.getD j 0 := ⟨_, rfl⟩
                          rw [← hx] at hbc
                          have HX := Lib.hid hx
                          clear hbcell hx
                          by_cases hx0 : x = 0
                          · have hxi : (x.toNat : Int) = 0 := by rw [hx0]; rfl
                            rw [hxi] at hbc
                            have HX0 := Lib.hid hx0
                            clear hxi hx0
                            go_wp2_with fail
                            go_round
                            case rel => exact ⟨j + 1, true, by omega, by omega, by go_num, rfl, Lib.hid (rest_step (by rw [HL.out]; exact hjn) hj1 hb.out (by rw [← HX.out, HX0.out]))⟩
                            case measure => simp [RowKit.intOf]; omega
                          · have hxi : ((x.toNat : Int) == 0) = false := by
                              rw [beq_eq_false_iff_ne]
                              intro hh
                              exact hx0 (UInt8.toNat_inj.1 (by simpa using hh))
                            have HX0 := Lib.hid hx0
                            clear hx0
                            go_wp2_with fail
                            go_round
                            case rel => exact ⟨j + 1, false, by omega, by omega, by go_num, rfl, Lib.hid (rest_stop (by rw [HL.out]; exact hjn) hj1 (by rw [← HX.out]; exact HX0.out))⟩
                            case measure => simp [RowKit.intOf]; omega
                      · have hbr : b = rr := by rw [hb.out, HRR.out, List.take_of_length_le (by rw [List.length_drop, HL.out]; omega)]
                        subst hbr
                        go_wp2_with fail
                        refine (place_any w5 g a2 t4 S HS5.out).mono ?_
                        rintro e w6 ⟨rfl, rfl⟩
                        go_wp2_with fail
                        refine (rest_any w5 g a2 t4 S HS5.out).mono ?_
                        rintro e w6 ⟨rfl, hs6, hk6⟩
                        rw [HSB.out, ← HRR.out]
                        have HR6 : Hid (ReadInv w g S a2 w6) := Lib.hid ⟨⟨t4, hs6⟩, HK5.out.trans hk6⟩
                        clear hs6 hk6
                        go_wp2_with fail
                        go_roundw
                        case rel => exact ⟨kk + 1, a2, by omega, H2, by go_num, rfl, HR6⟩
                        case measure => simp [RowKit.intOf]; omega
                  · skip
                    go_wp2_with fail
                    refine (may_yes _ _ (by omega) (by omega)).mono ?_
                    rintro e w6 ⟨rfl, rfl⟩
                    go_wp2_with fail
                    refine (lpad_any _ 0 _ (by omega) (by omega)).mono ?_
                    rintro e w6 ⟨rfl, rfl⟩
                    rw [← HP.out]
                    go_wp2_with fail
                    refine (lpad_any _ 0 _ (by omega) (by omega)).mono ?_
                    rintro e w6 ⟨rfl, rfl⟩
                    rw [← HP.out]
                    go_wp2_with fail
                    go_quiet (fail)
                    have HS5 := Lib.hid (HS4.out.kept0 ((Byt.Kept.refl noneB w4).drewN nq))
                    have HK5 := Lib.hid (HK4.out.drewN nq)
                    generalize hw5 : w4.drewN nq = w5 at HS5 HK5 ⊢
                    clear hw5 hcV4
                    have hb5 := HB.out.kept HK5.out (fun _ _ _ => id)
                    have HB5 := Lib.hid hb5
                    clear hb5
                    obtain ⟨rr, hrr⟩ : ∃ rr, rr = restB (bs.drop a2) := ⟨_, rfl⟩
                    have HRR := Lib.hid hrr
                    clear hrr
                    go_wp2_with fail
                    go_loop [15, 16] (fun r i => ∃ (j : Nat) (b : Bool), a2 ≤ j ∧ j ≤ n ∧ i = .int .i64 j ∧ r = .bool b ∧ Hid (b = restB ((bs.drop a2).take (j - a2)))) (fun _ i => n - (RowKit.intOf i).toNat)
                    case atStart => exact ⟨a2, true, Nat.le_refl _, H2, rfl, rfl, Lib.hid (by rw [Nat.sub_self, List.take_zero]; rfl)⟩
                    case round =>
                      obtain ⟨j, b, hj1, hj2, rfl, rfl, hb⟩ := hrel
                      by_cases hjn : j < n
                      · cases b
                        · go_wp2_with fail
                          go_round
                          case rel => exact ⟨j + 1, false, by omega, by omega, by go_num, rfl, Lib.hid (by have := rest_false hb.out; rw [show j - a2 + 1 = j + 1 - a2 by omega] at this; exact this)⟩
                          case measure => simp [RowKit.intOf]; omega
                        · obtain ⟨bb, bo, hbe, hbcell⟩ := HB5.out (by omega)
                          cases hbe
                          have hbc := hbcell j hjn
                          obtain ⟨x, hx⟩ : ∃ x, x = bs.getD j 0 := ⟨_, rfl⟩
                          rw [← hx] at hbc
                          have HX := Lib.hid hx
                          clear hbcell hx
                          by_cases hx0 : x = 0
                          · have hxi : (x.toNat : Int) = 0 := by rw [hx0]; rfl
                            rw [hxi] at hbc
                            have HX0 := Lib.hid hx0
                            clear hxi hx0
                            go_wp2_with fail
                            go_round
                            case rel => exact ⟨j + 1, true, by omega, by omega, by go_num, rfl, Lib.hid (rest_step (by rw [HL.out]; exact hjn) hj1 hb.out (by rw [← HX.out, HX0.out]))⟩
                            case measure => simp [RowKit.intOf]; omega
                          · have hxi : ((x.toNat : Int) == 0) = false := by
                              rw [beq_eq_false_iff_ne]
                              intro hh
                              exact hx0 (UInt8.toNat_inj.1 (by simpa using hh))
                            have HX0 := Lib.hid hx0
                            clear hx0
                            go_wp2_with fail
                            go_round
                            case rel => exact ⟨j + 1, false, by omega, by omega, by go_num, rfl, Lib.hid (rest_stop (by rw [HL.out]; exact hjn) hj1 (by rw [← HX.out]; exact HX0.out))⟩
                            case measure => simp [RowKit.intOf]; omega
                      · have hbr : b = rr := by rw [hb.out, HRR.out, List.take_of_length_le (by rw [List.length_drop, HL.out]; omega)]
                        subst hbr
                        go_wp2_with fail
                        refine (place_any w5 g a2 t4 S HS5.out).mono ?_
                        rintro e w6 ⟨rfl, rfl⟩
                        go_wp2_with fail
                        refine (rest_any w5 g a2 t4 S HS5.out).mono ?_
                        rintro e w6 ⟨rfl, hs6, hk6⟩
                        rw [HSB.out, ← HRR.out]
                        have HR6 : Hid (ReadInv w g S a2 w6) := Lib.hid ⟨⟨t4, hs6⟩, HK5.out.trans hk6⟩
                        clear hs6 hk6
                        go_wp2_with fail
                        go_roundw
                        case rel => exact ⟨kk + 1, a2, by omega, H2, by go_num, rfl, HR6⟩
                        case measure => simp [RowKit.intOf]; omega
              · skip
                have hR : bodR bs a (k : Int) = (2, [], n) := by unfold bodR; rw [if_pos ⟨hur0, hur1⟩, Int.toNat_natCast, ← HP.out, HL.out, if_neg hPn]
                have HR0 := Lib.hid hR
                clear hR
                go_wp2_with fail
                refine (body_res _ g a t S HS.out HOFF.out _).mono ?_
                intro e w4 h4
                rw [HSB.out, HR0.out] at h4
                obtain ⟨p4, m4, c4, t4, rfl, hX4, hb4, hp4, hs4, hk4⟩ := h4
                dsimp only at hX4 hb4 hs4
                obtain rfl : m4 = 0 := by simpa using hX4.symm
                clear hX4 hb4 hp4
                have HS4 := Lib.hid hs4
                have HK4 := Lib.hid (HK.out.then hk4 GNEW.out)
                have hcV4 := (World.cell?_of_block (a := ⟨ab, ao + kk * 2, none⟩) (HK4.out.block ab hab id)).trans HCV.out
                clear hs4 hk4
                have H2 : n ≤ n := Nat.le_refl _
                go_wp2_with fail
                refine (may_yes _ _ (by omega) (by omega)).mono ?_
                rintro e w6 ⟨rfl, rfl⟩
                go_wp2_with fail
                refine (lpad_any _ k _ (by omega) (by omega)).mono ?_
                rintro e w6 ⟨rfl, rfl⟩
                rw [← HP.out]
                go_wp2_with fail
                go_quiet (fail)
                have HS5 := Lib.hid (HS4.out.kept0 ((Byt.Kept.refl noneB w4).drewN nq))
                have HK5 := Lib.hid (HK4.out.drewN nq)
                generalize hw5 : w4.drewN nq = w5 at HS5 HK5 ⊢
                clear hw5 hcV4
                have hb5 := HB.out.kept HK5.out (fun _ _ _ => id)
                have HB5 := Lib.hid hb5
                clear hb5
                obtain ⟨rr, hrr⟩ : ∃ rr, rr = restB (bs.drop n) := ⟨_, rfl⟩
                have HRR := Lib.hid hrr
                clear hrr
                go_wp2_with fail
                go_loop [15, 16] (fun r i => ∃ (j : Nat) (b : Bool), n ≤ j ∧ j ≤ n ∧ i = .int .i64 j ∧ r = .bool b ∧ Hid (b = restB ((bs.drop n).take (j - n)))) (fun _ i => n - (RowKit.intOf i).toNat)
                case atStart => exact ⟨n, true, Nat.le_refl _, H2, rfl, rfl, Lib.hid (by rw [Nat.sub_self, List.take_zero]; rfl)⟩
                case round =>
                  obtain ⟨j, b, hj1, hj2, rfl, rfl, hb⟩ := hrel
                  by_cases hjn : j < n
                  · cases b
                    · go_wp2_with fail
                      go_round
                      case rel => exact ⟨j + 1, false, by omega, by omega, by go_num, rfl, Lib.hid (by have := rest_false hb.out; rw [show j - n + 1 = j + 1 - n by omega] at this; exact this)⟩
                      case measure => simp [RowKit.intOf]; omega
                    · obtain ⟨bb, bo, hbe, hbcell⟩ := HB5.out (by omega)
                      cases hbe
                      have hbc := hbcell j hjn
                      obtain ⟨x, hx⟩ : ∃ x, x = bs.getD j 0 := ⟨_, rfl⟩
                      rw [← hx] at hbc
                      have HX := Lib.hid hx
                      clear hbcell hx
                      by_cases hx0 : x = 0
                      · have hxi : (x.toNat : Int) = 0 := by rw [hx0]; rfl
                        rw [hxi] at hbc
                        have HX0 := Lib.hid hx0
                        clear hxi hx0
                        go_wp2_with fail
                        go_round
                        case rel => exact ⟨j + 1, true, by omega, by omega, by go_num, rfl, Lib.hid (rest_step (by rw [HL.out]; exact hjn) hj1 hb.out (by rw [← HX.out, HX0.out]))⟩
                        case measure => simp [RowKit.intOf]; omega
                      · have hxi : ((x.toNat : Int) == 0) = false := by
                          rw [beq_eq_false_iff_ne]
                          intro hh
                          exact hx0 (UInt8.toNat_inj.1 (by simpa using hh))
                        have HX0 := Lib.hid hx0
                        clear hx0
                        go_wp2_with fail
                        go_round
                        case rel => exact ⟨j + 1, false, by omega, by omega, by go_num, rfl, Lib.hid (rest_stop (by rw [HL.out]; exact hjn) hj1 (by rw [← HX.out]; exact HX0.out))⟩
                        case measure => simp [RowKit.intOf]; omega
                  · have hbr : b = rr := by rw [hb.out, HRR.out, List.take_of_length_le (by rw [List.length_drop, HL.out]; omega)]
                    subst hbr
                    go_wp2_with fail
                    refine (place_any w5 g n t4 S HS5.out).mono ?_
                    rintro e w6 ⟨rfl, rfl⟩
                    go_wp2_with fail
                    refine (rest_any w5 g n t4 S HS5.out).mono ?_
                    rintro e w6 ⟨rfl, hs6, hk6⟩
                    rw [HSB.out, ← HRR.out]
                    have HR6 : Hid (ReadInv w g S n w6) := Lib.hid ⟨⟨t4, hs6⟩, HK5.out.trans hk6⟩
                    clear hs6 hk6
                    go_wp2_with fail
                    go_roundw
                    case rel => exact ⟨kk + 1, n, by omega, H2, by go_num, rfl, HR6⟩
                    case measure => simp [RowKit.intOf]; omega
          · skip
            have hR : bodR bs a u = (4, [], a) := by unfold bodR; rw [if_neg hur]
            have HR0 := Lib.hid hR
            clear hR
            go_wp2_with fail
            refine (body_res _ g a t S HS.out HOFF.out _).mono ?_
            intro e w4 h4
            rw [HSB.out, HR0.out] at h4
            obtain ⟨p4, m4, c4, t4, rfl, hX4, hb4, hp4, hs4, hk4⟩ := h4
            dsimp only at hX4 hb4 hs4
            obtain rfl : m4 = 0 := by simpa using hX4.symm
            clear hX4 hb4 hp4
            have HS4 := Lib.hid hs4
            have HK4 := Lib.hid (HK.out.then hk4 GNEW.out)
            have hcV4 := (World.cell?_of_block (a := ⟨ab, ao + kk * 2, none⟩) (HK4.out.block ab hab id)).trans HCV.out
            clear hs4 hk4
            have H2 : a ≤ n := hale
            go_wp2_with fail
            refine (may_no _ _ hur).mono ?_
            rintro e w6 ⟨rfl, rfl⟩
            go_wp2_with fail
            go_quiet (fail)
            have HS5 := Lib.hid (HS4.out.kept0 ((Byt.Kept.refl noneB w4).drewN nq))
            have HK5 := Lib.hid (HK4.out.drewN nq)
            generalize hw5 : w4.drewN nq = w5 at HS5 HK5 ⊢
            clear hw5 hcV4
            have hb5 := HB.out.kept HK5.out (fun _ _ _ => id)
            have HB5 := Lib.hid hb5
            clear hb5
            obtain ⟨rr, hrr⟩ : ∃ rr, rr = restB (bs.drop a) := ⟨_, rfl⟩
            have HRR := Lib.hid hrr
            clear hrr
            go_wp2_with fail
            go_loop [15, 16] (fun r i => ∃ (j : Nat) (b : Bool), a ≤ j ∧ j ≤ n ∧ i = .int .i64 j ∧ r = .bool b ∧ Hid (b = restB ((bs.drop a).take (j - a)))) (fun _ i => n - (RowKit.intOf i).toNat)
            case atStart => exact ⟨a, true, Nat.le_refl _, H2, rfl, rfl, Lib.hid (by rw [Nat.sub_self, List.take_zero]; rfl)⟩
            case round =>
              obtain ⟨j, b, hj1, hj2, rfl, rfl, hb⟩ := hrel
              by_cases hjn : j < n
              · cases b
                · go_wp2_with fail
                  go_round
                  case rel => exact ⟨j + 1, false, by omega, by omega, by go_num, rfl, Lib.hid (by have := rest_false hb.out; rw [show j - a + 1 = j + 1 - a by omega] at this; exact this)⟩
                  case measure => simp [RowKit.intOf]; omega
                · obtain ⟨bb, bo, hbe, hbcell⟩ := HB5.out (by omega)
                  cases hbe
                  have hbc := hbcell j hjn
                  obtain ⟨x, hx⟩ : ∃ x, x = bs.getD j 0 := ⟨_, rfl⟩
                  rw [← hx] at hbc
                  have HX := Lib.hid hx
                  clear hbcell hx
                  by_cases hx0 : x = 0
                  · have hxi : (x.toNat : Int) = 0 := by rw [hx0]; rfl
                    rw [hxi] at hbc
                    have HX0 := Lib.hid hx0
                    clear hxi hx0
                    go_wp2_with fail
                    go_round
                    case rel => exact ⟨j + 1, true, by omega, by omega, by go_num, rfl, Lib.hid (rest_step (by rw [HL.out]; exact hjn) hj1 hb.out (by rw [← HX.out, HX0.out]))⟩
                    case measure => simp [RowKit.intOf]; omega
                  · have hxi : ((x.toNat : Int) == 0) = false := by
                      rw [beq_eq_false_iff_ne]
                      intro hh
                      exact hx0 (UInt8.toNat_inj.1 (by simpa using hh))
                    have HX0 := Lib.hid hx0
                    clear hx0
                    go_wp2_with fail
                    go_round
                    case rel => exact ⟨j + 1, false, by omega, by omega, by go_num, rfl, Lib.hid (rest_stop (by rw [HL.out]; exact hjn) hj1 (by rw [← HX.out]; exact HX0.out))⟩
                    case measure => simp [RowKit.intOf]; omega
              · have hbr : b = rr := by rw [hb.out, HRR.out, List.take_of_length_le (by rw [List.length_drop, HL.out]; omega)]
                subst hbr
                go_wp2_with fail
                refine (place_any w5 g a t4 S HS5.out).mono ?_
                rintro e w6 ⟨rfl, rfl⟩
                go_wp2_with fail
                refine (rest_any w5 g a t4 S HS5.out).mono ?_
                rintro e w6 ⟨rfl, hs6, hk6⟩
                rw [HSB.out, ← HRR.out]
                have HR6 : Hid (ReadInv w g S a w6) := Lib.hid ⟨⟨t4, hs6⟩, HK5.out.trans hk6⟩
                clear hs6 hk6
                go_wp2_with fail
                go_roundw
                case rel => exact ⟨kk + 1, a, by omega, H2, by go_num, rfl, HR6⟩
                case measure => simp [RowKit.intOf]; omega
        · by_cases han : a = n
          · have hbeq : ((a : Int) == (n : Int)) = true := by rw [han]; simp
            have HAN := Lib.hid han
            clear han
            have hR : blkR bs a = (14, [], a) := by unfold blkR; rw [HL.out, if_pos HAN.out]
            have HR0 := Lib.hid hR
            clear hR
            go_wp2_with fail
            refine (block_res _ g a t S HS.out HOFF.out).mono ?_
            intro e w4 h4
            rw [HSB.out, HR0.out] at h4
            obtain ⟨p4, m4, c4, t4, rfl, hX4, hb4, hp4, hs4, hk4⟩ := h4
            dsimp only at hX4 hb4 hs4
            obtain rfl : m4 = 0 := by simpa using hX4.symm
            clear hX4 hb4 hp4
            have HS4 := Lib.hid hs4
            have HK4 := Lib.hid (HK.out.then hk4 GNEW.out)
            have hcV4 := (World.cell?_of_block (a := ⟨ab, ao + kk * 2, none⟩) (HK4.out.block ab hab id)).trans HCV.out
            clear hs4 hk4
            have H2 : a ≤ n := hale
            go_wp2_with fail
            refine (may_yes _ _ (by omega) (by omega)).mono ?_
            rintro e w6 ⟨rfl, rfl⟩
            go_wp2_with fail
            go_quiet (fail)
            have HS5 := Lib.hid (HS4.out.kept0 ((Byt.Kept.refl noneB w4).drewN nq))
            have HK5 := Lib.hid (HK4.out.drewN nq)
            generalize hw5 : w4.drewN nq = w5 at HS5 HK5 ⊢
            clear hw5 hcV4
            have hb5 := HB.out.kept HK5.out (fun _ _ _ => id)
            have HB5 := Lib.hid hb5
            clear hb5
            obtain ⟨rr, hrr⟩ : ∃ rr, rr = restB (bs.drop a) := ⟨_, rfl⟩
            have HRR := Lib.hid hrr
            clear hrr
            go_wp2_with fail
            go_loop [15, 16] (fun r i => ∃ (j : Nat) (b : Bool), a ≤ j ∧ j ≤ n ∧ i = .int .i64 j ∧ r = .bool b ∧ Hid (b = restB ((bs.drop a).take (j - a)))) (fun _ i => n - (RowKit.intOf i).toNat)
            case atStart => exact ⟨a, true, Nat.le_refl _, H2, rfl, rfl, Lib.hid (by rw [Nat.sub_self, List.take_zero]; rfl)⟩
            case round =>
              obtain ⟨j, b, hj1, hj2, rfl, rfl, hb⟩ := hrel
              by_cases hjn : j < n
              · cases b
                · go_wp2_with fail
                  go_round
                  case rel => exact ⟨j + 1, false, by omega, by omega, by go_num, rfl, Lib.hid (by have := rest_false hb.out; rw [show j - a + 1 = j + 1 - a by omega] at this; exact this)⟩
                  case measure => simp [RowKit.intOf]; omega
                · obtain ⟨bb, bo, hbe, hbcell⟩ := HB5.out (by omega)
                  cases hbe
                  have hbc := hbcell j hjn
                  obtain ⟨x, hx⟩ : ∃ x, x = bs.getD j 0 := ⟨_, rfl⟩
                  rw [← hx] at hbc
                  have HX := Lib.hid hx
                  clear hbcell hx
                  by_cases hx0 : x = 0
                  · have hxi : (x.toNat : Int) = 0 := by rw [hx0]; rfl
                    rw [hxi] at hbc
                    have HX0 := Lib.hid hx0
                    clear hxi hx0
                    go_wp2_with fail
                    go_round
                    case rel => exact ⟨j + 1, true, by omega, by omega, by go_num, rfl, Lib.hid (rest_step (by rw [HL.out]; exact hjn) hj1 hb.out (by rw [← HX.out, HX0.out]))⟩
                    case measure => simp [RowKit.intOf]; omega
                  · have hxi : ((x.toNat : Int) == 0) = false := by
                      rw [beq_eq_false_iff_ne]
                      intro hh
                      exact hx0 (UInt8.toNat_inj.1 (by simpa using hh))
                    have HX0 := Lib.hid hx0
                    clear hx0
                    go_wp2_with fail
                    go_round
                    case rel => exact ⟨j + 1, false, by omega, by omega, by go_num, rfl, Lib.hid (rest_stop (by rw [HL.out]; exact hjn) hj1 (by rw [← HX.out]; exact HX0.out))⟩
                    case measure => simp [RowKit.intOf]; omega
              · have hbr : b = rr := by rw [hb.out, HRR.out, List.take_of_length_le (by rw [List.length_drop, HL.out]; omega)]
                subst hbr
                go_wp2_with fail
                refine (place_any w5 g a t4 S HS5.out).mono ?_
                rintro e w6 ⟨rfl, rfl⟩
                go_wp2_with fail
                refine (rest_any w5 g a t4 S HS5.out).mono ?_
                rintro e w6 ⟨rfl, hs6, hk6⟩
                rw [HSB.out, ← HRR.out]
                have HR6 : Hid (ReadInv w g S a w6) := Lib.hid ⟨⟨t4, hs6⟩, HK5.out.trans hk6⟩
                clear hs6 hk6
                go_wp2_with fail
                go_roundw
                case rel => exact ⟨kk + 1, a, by omega, H2, by go_num, rfl, HR6⟩
                case measure => simp [RowKit.intOf]; omega
          · have hbeq : ((a : Int) == (n : Int)) = false := by rw [beq_eq_false_iff_ne]; omega
            have HAN := Lib.hid han
            clear han
            by_cases hPn : a + 512 ≤ n
            · skip
              have hR : blkR bs a = (0, (bs.drop a).take 512, a + 512) := by unfold blkR; rw [HL.out, if_neg HAN.out, if_pos hPn]
              have HR0 := Lib.hid hR
              clear hR
              have hpad : padN 512 = 512 := by decide
              have HPAD := Lib.hid hpad
              clear hpad
              go_wp2_with fail
              refine (block_res _ g a t S HS.out HOFF.out).mono ?_
              intro e w4 h4
              rw [HSB.out, HR0.out] at h4
              obtain ⟨p4, m4, c4, t4, rfl, hX4, hb4, hp4, hs4, hk4⟩ := h4
              dsimp only at hX4 hb4 hs4
              obtain rfl : 512 = m4 := by rw [← hX4, List.length_take, List.length_drop, HL.out]; omega
              obtain ⟨ds, hds⟩ : ∃ ds : ByteArray, ds = ⟨((bs.drop a).take 512).toArray⟩ := ⟨_, rfl⟩
              have cs1 : ∀ q, (convert 22 9 (.slice p4 512 c4)).run Tryd.prog (w4.drewN q) = .ok (.string ds) (w4.drewN q) := fun q => by
                rw [hds]
                exact conv_at (hb4.kept ((Byt.Kept.refl noneB w4).drewN q) (fun _ _ _ => id)) hX4 _ _ _ Tryd.underlying22 Tryd.underlying5 Tryd.underlying9 c4
              have HDS := Lib.hid hds
              have HS4 := Lib.hid hs4
              have HK4 := Lib.hid (HK.out.then hk4 GNEW.out)
              have hcV4 := (World.cell?_of_block (a := ⟨ab, ao + kk * 2, none⟩) (HK4.out.block ab hab id)).trans HCV.out
              obtain ⟨eb, eo, rfl, _⟩ := HB.out (by omega)
              have cs2 : ∀ q c, (convert 22 9 (.slice (some ⟨eb, eo + a, none⟩) 512 c)).run Tryd.prog (w4.drewN q) = .ok (.string ds) (w4.drewN q) := fun q c => by
                rw [HDS.out]
                have hd := HB.out.drop hale hc0 HL.out
                rw [if_neg (by omega)] at hd
                have hd2 := (hd.take (k := 512) (by omega)).kept (HK4.out.drewN q) (fun _ _ _ => id)
                simp only [Option.map_some, add_plain] at hd2
                exact conv_at hd2 (by rw [List.length_take, List.length_drop, HL.out]; omega) _ _ _ Tryd.underlying22 Tryd.underlying5 Tryd.underlying9 c
              clear hs4 hk4 hX4 hb4 hp4 hds
              obtain ⟨a2, ha2⟩ : ∃ a2, a + 512 = a2 := ⟨_, rfl⟩
              have HS4 : Hid (Src w4 g S a2 t4) := Lib.hid (by rw [← ha2]; exact HS4.out)
              have hA2 : (a : Int) + 512 = (a2 : Int) := by omega
              have hs1 : (a : Int) ≤ (a2 : Int) := by omega
              have hs2 : (a2 : Int) ≤ (cap0 : Int) := by omega
              have hs3 : a2 - a = 512 := by omega
              have hs4 : ¬ cap0 = a := by omega
              have H2 : a2 ≤ n := by omega
              clear ha2
              go_wp2_with fail
              refine (may_yes _ _ (by omega) (by omega)).mono ?_
              rintro e w6 ⟨rfl, rfl⟩
              go_wp2_with fail
              refine (lpad_any _ 512 _ (by omega) (by omega)).mono ?_
              rintro e w6 ⟨rfl, rfl⟩
              rw [HPAD.out]
              go_wp2_with fail
              refine (lpad_any _ 512 _ (by omega) (by omega)).mono ?_
              rintro e w6 ⟨rfl, rfl⟩
              rw [HPAD.out]
              go_wp2_with fail
              go_quiet (fail)
              have HS5 := Lib.hid (HS4.out.kept0 ((Byt.Kept.refl noneB w4).drewN nq))
              have HK5 := Lib.hid (HK4.out.drewN nq)
              generalize hw5 : w4.drewN nq = w5 at HS5 HK5 ⊢
              clear hw5 hcV4
              have hb5 := HB.out.kept HK5.out (fun _ _ _ => id)
              have HB5 := Lib.hid hb5
              clear hb5
              obtain ⟨rr, hrr⟩ : ∃ rr, rr = restB (bs.drop a2) := ⟨_, rfl⟩
              have HRR := Lib.hid hrr
              clear hrr
              go_wp2_with fail
              go_loop [15, 16] (fun r i => ∃ (j : Nat) (b : Bool), a2 ≤ j ∧ j ≤ n ∧ i = .int .i64 j ∧ r = .bool b ∧ Hid (b = restB ((bs.drop a2).take (j - a2)))) (fun _ i => n - (RowKit.intOf i).toNat)
              case atStart => exact ⟨a2, true, Nat.le_refl _, H2, rfl, rfl, Lib.hid (by rw [Nat.sub_self, List.take_zero]; rfl)⟩
              case round =>
                obtain ⟨j, b, hj1, hj2, rfl, rfl, hb⟩ := hrel
                by_cases hjn : j < n
                · cases b
                  · go_wp2_with fail
                    go_round
                    case rel => exact ⟨j + 1, false, by omega, by omega, by go_num, rfl, Lib.hid (by have := rest_false hb.out; rw [show j - a2 + 1 = j + 1 - a2 by omega] at this; exact this)⟩
                    case measure => simp [RowKit.intOf]; omega
                  · obtain ⟨bb, bo, hbe, hbcell⟩ := HB5.out (by omega)
                    cases hbe
                    have hbc := hbcell j hjn
                    obtain ⟨x, hx⟩ : ∃ x, x = bs.getD j 0 := ⟨_, rfl⟩
                    rw [← hx] at hbc
                    have HX := Lib.hid hx
                    clear hbcell hx
                    by_cases hx0 : x = 0
                    · have hxi : (x.toNat : Int) = 0 := by rw [hx0]; rfl
                      rw [hxi] at hbc
                      have HX0 := Lib.hid hx0
                      clear hxi hx0
                      go_wp2_with fail
                      go_round
                      case rel => exact ⟨j + 1, true, by omega, by omega, by go_num, rfl, Lib.hid (rest_step (by rw [HL.out]; exact hjn) hj1 hb.out (by rw [← HX.out, HX0.out]))⟩
                      case measure => simp [RowKit.intOf]; omega
                    · have hxi : ((x.toNat : Int) == 0) = false := by
                        rw [beq_eq_false_iff_ne]
                        intro hh
                        exact hx0 (UInt8.toNat_inj.1 (by simpa using hh))
                      have HX0 := Lib.hid hx0
                      clear hx0
                      go_wp2_with fail
                      go_round
                      case rel => exact ⟨j + 1, false, by omega, by omega, by go_num, rfl, Lib.hid (rest_stop (by rw [HL.out]; exact hjn) hj1 (by rw [← HX.out]; exact HX0.out))⟩
                      case measure => simp [RowKit.intOf]; omega
                · have hbr : b = rr := by rw [hb.out, HRR.out, List.take_of_length_le (by rw [List.length_drop, HL.out]; omega)]
                  subst hbr
                  go_wp2_with fail
                  refine (place_any w5 g a2 t4 S HS5.out).mono ?_
                  rintro e w6 ⟨rfl, rfl⟩
                  go_wp2_with fail
                  refine (rest_any w5 g a2 t4 S HS5.out).mono ?_
                  rintro e w6 ⟨rfl, hs6, hk6⟩
                  rw [HSB.out, ← HRR.out]
                  have HR6 : Hid (ReadInv w g S a2 w6) := Lib.hid ⟨⟨t4, hs6⟩, HK5.out.trans hk6⟩
                  clear hs6 hk6
                  go_wp2_with fail
                  go_roundw
                  case rel => exact ⟨kk + 1, a2, by omega, H2, by go_num, rfl, HR6⟩
                  case measure => simp [RowKit.intOf]; omega
            · skip
              have hR : blkR bs a = (2, [], n) := by unfold blkR; rw [HL.out, if_neg HAN.out, if_neg hPn]
              have HR0 := Lib.hid hR
              clear hR
              have hpad : padN 512 = 512 := by decide
              have HPAD := Lib.hid hpad
              clear hpad
              go_wp2_with fail
              refine (block_res _ g a t S HS.out HOFF.out).mono ?_
              intro e w4 h4
              rw [HSB.out, HR0.out] at h4
              obtain ⟨p4, m4, c4, t4, rfl, hX4, hb4, hp4, hs4, hk4⟩ := h4
              dsimp only at hX4 hb4 hs4
              obtain rfl : m4 = 0 := by simpa using hX4.symm
              clear hX4 hb4 hp4
              have HS4 := Lib.hid hs4
              have HK4 := Lib.hid (HK.out.then hk4 GNEW.out)
              have hcV4 := (World.cell?_of_block (a := ⟨ab, ao + kk * 2, none⟩) (HK4.out.block ab hab id)).trans HCV.out
              clear hs4 hk4
              have H2 : n ≤ n := Nat.le_refl _
              go_wp2_with fail
              refine (may_yes _ _ (by omega) (by omega)).mono ?_
              rintro e w6 ⟨rfl, rfl⟩
              go_wp2_with fail
              refine (lpad_any _ 512 _ (by omega) (by omega)).mono ?_
              rintro e w6 ⟨rfl, rfl⟩
              rw [HPAD.out]
              go_wp2_with fail
              go_quiet (fail)
              have HS5 := Lib.hid (HS4.out.kept0 ((Byt.Kept.refl noneB w4).drewN nq))
              have HK5 := Lib.hid (HK4.out.drewN nq)
              generalize hw5 : w4.drewN nq = w5 at HS5 HK5 ⊢
              clear hw5 hcV4
              have hb5 := HB.out.kept HK5.out (fun _ _ _ => id)
              have HB5 := Lib.hid hb5
              clear hb5
              obtain ⟨rr, hrr⟩ : ∃ rr, rr = restB (bs.drop n) := ⟨_, rfl⟩
              have HRR := Lib.hid hrr
              clear hrr
              go_wp2_with fail
              go_loop [15, 16] (fun r i => ∃ (j : Nat) (b : Bool), n ≤ j ∧ j ≤ n ∧ i = .int .i64 j ∧ r = .bool b ∧ Hid (b = restB ((bs.drop n).take (j - n)))) (fun _ i => n - (RowKit.intOf i).toNat)
              case atStart => exact ⟨n, true, Nat.le_refl _, H2, rfl, rfl, Lib.hid (by rw [Nat.sub_self, List.take_zero]; rfl)⟩
              case round =>
                obtain ⟨j, b, hj1, hj2, rfl, rfl, hb⟩ := hrel
                by_cases hjn : j < n
                · cases b
                  · go_wp2_with fail
                    go_round
                    case rel => exact ⟨j + 1, false, by omega, by omega, by go_num, rfl, Lib.hid (by have := rest_false hb.out; rw [show j - n + 1 = j + 1 - n by omega] at this; exact this)⟩
                    case measure => simp [RowKit.intOf]; omega
                  · obtain ⟨bb, bo, hbe, hbcell⟩ := HB5.out (by omega)
                    cases hbe
                    have hbc := hbcell j hjn
                    obtain ⟨x, hx⟩ : ∃ x, x = bs.getD j 0 := ⟨_, rfl⟩
                    rw [← hx] at hbc
                    have HX := Lib.hid hx
                    clear hbcell hx
                    by_cases hx0 : x = 0
                    · have hxi : (x.toNat : Int) = 0 := by rw [hx0]; rfl
                      rw [hxi] at hbc
                      have HX0 := Lib.hid hx0
                      clear hxi hx0
                      go_wp2_with fail
                      go_round
                      case rel => exact ⟨j + 1, true, by omega, by omega, by go_num, rfl, Lib.hid (rest_step (by rw [HL.out]; exact hjn) hj1 hb.out (by rw [← HX.out, HX0.out]))⟩
                      case measure => simp [RowKit.intOf]; omega
                    · have hxi : ((x.toNat : Int) == 0) = false := by
                        rw [beq_eq_false_iff_ne]
                        intro hh
                        exact hx0 (UInt8.toNat_inj.1 (by simpa using hh))
                      have HX0 := Lib.hid hx0
                      clear hx0
                      go_wp2_with fail
                      go_round
                      case rel => exact ⟨j + 1, false, by omega, by omega, by go_num, rfl, Lib.hid (rest_stop (by rw [HL.out]; exact hjn) hj1 (by rw [← HX.out]; exact HX0.out))⟩
                      case measure => simp [RowKit.intOf]; omega
                · have hbr : b = rr := by rw [hb.out, HRR.out, List.take_of_length_le (by rw [List.length_drop, HL.out]; omega)]
                  subst hbr
                  go_wp2_with fail
                  refine (place_any w5 g n t4 S HS5.out).mono ?_
                  rintro e w6 ⟨rfl, rfl⟩
                  go_wp2_with fail
                  refine (rest_any w5 g n t4 S HS5.out).mono ?_
                  rintro e w6 ⟨rfl, hs6, hk6⟩
                  rw [HSB.out, ← HRR.out]
                  have HR6 : Hid (ReadInv w g S n w6) := Lib.hid ⟨⟨t4, hs6⟩, HK5.out.trans hk6⟩
                  clear hs6 hk6
                  go_wp2_with fail
                  go_roundw
                  case rel => exact ⟨kk + 1, n, by omega, H2, by go_num, rfl, HR6⟩
                  case measure => simp [RowKit.intOf]; omega
      · obtain rfl : kk = n3 := by omega
        go_wp2_with fail
        refine (ans03_any _).mono ?_
        rintro e w6 ⟨rfl, hk6⟩
        have HK6 := Lib.hid (HK.out.trans hk6)
        clear hk6
        go_wp2
        go_ret
        exact ⟨rfl, HK6.out.below (Nat.le_refl _) (fun _ h => h.elim)⟩
theorem blockReads (a0 : Option Addr) (len0 cap0 : Nat) (z0 : List Int) (a1 : Option Addr) (len1 cap1 : Nat) (z1 : List Int) (a3 : Option Addr) (len3 cap3 : Nat) (V3 : Nat → Bool) (U3 : Nat → Int) (w : World)
    (w0 : IsRow .u8 w a0 len0 cap0 z0) (b0 : cap0 * 1 ≤ 140737488351232) (w1 : IsRow .i64 w a1 len1 cap1 z1) (b1 : cap1 * 8 ≤ 140737488351232) (w3 : AAt w a3 len3 V3 U3) (c3 : len3 ≤ cap3 ∧ cap3 ≤ maxLen) :
    Calls Tryd.prog 3 #[.slice a0 len0 cap0, .slice a1 len1 cap1, .slice a3 len3 cap3] w fun e w' => e = .returned (.bool true) ∧ Below w.heap.size w w' := by
  obtain ⟨hb, hl, hc, _⟩ := bat_of_row w0
  obtain ⟨hi1, hl1, hc1, _⟩ := iat_of_row w1
  exact blockReads' a0 len0 cap0 _ a1 len1 cap1 _ a3 len3 cap3 V3 U3 w hb hl hc (by omega) hi1 hl1 (by omega) w3 c3
end Go.Proofs.YtindibabpfdljaaDoor.Walk
