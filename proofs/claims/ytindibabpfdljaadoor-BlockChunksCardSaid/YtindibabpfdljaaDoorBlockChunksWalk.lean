/- The walk over BlockChunks: it returns true for every input, and writes nothing that was there. -/
import Derived.Test.YtindibabpfdljaaDoorBlockRes
namespace Go.Proofs.YtindibabpfdljaaDoor.Walk
open Go.ChangeShapes Go.WideShapes Go.ChangeAt Go.RowKit Go.Proofs.YtindibabpfdljaaDoor.Base Go.Proofs.YtindibabpfdljaaDoor.Byt Go.Proofs.YtindibabpfdljaaDoor.Num Go.Proofs.YtindibabpfdljaaDoor.Block Go.Lib
set_option linter.unusedVariables false

/-- the loop's relation: both sources are at one place -/
def TwoInv (w : World) (g1 : Nat) (S1 : Sv) (g2 : Nat) (S2 : Sv) (wr : World) : Prop := ∃ a t1 t2, Src wr g1 S1 a t1 ∧ Src wr g2 S2 a t2 ∧ Byt.Kept noneB w wr
set_option maxHeartbeats 3200000 in
theorem blockChunks' (a0 : Option Addr) (n cap0 : Nat) (bs : List UInt8) (a1 : Option Addr) (n1 cap1 : Nat) (zs1 : List Int) (a2 : Option Addr) (n2 cap2 : Nat) (zs2 : List Int) (a3 : Option Addr) (n3 cap3 : Nat) (V : Nat → Bool) (U : Nat → Int) (w : World)
    (hb : BAt w a0 n bs) (hl : bs.length = n) (hi1 : IAt w a1 n1 zs1) (hl1 : zs1.length = n1) (hm1 : n1 * 8 ≤ 140737488351232) (hi2 : IAt w a2 n2 zs2) (hl2 : zs2.length = n2) (hm2 : n2 * 8 ≤ 140737488351232) (ha : AAt w a3 n3 V U) (hm3 : n3 ≤ cap3 ∧ cap3 ≤ maxLen) :
    Calls Tryd.prog 4 #[.slice a0 n cap0, .slice a1 n1 cap1, .slice a2 n2 cap2, .slice a3 n3 cap3] w fun e w' => e = .returned (.bool true) ∧ Below w.heap.size w w' := by
  have HB := Lib.hid hb
  have HL := Lib.hid hl
  have HI1 := Lib.hid hi1
  have HL1 := Lib.hid hl1
  have HM1 := Lib.hid hm1
  have HI2 := Lib.hid hi2
  have HL2 := Lib.hid hl2
  have HM2 := Lib.hid hm2
  have HA := Lib.hid ha
  clear hb hl hi1 hl1 hm1 hi2 hl2 hm2 ha
  by_cases hbig : 5000 < n ∨ 40 < n3
  · have hbb : (decide (5000 < (n : Int)) || decide (40 < (n3 : Int))) = true := by simp; omega
    clear hbig
    go_enter Tryd.func4, Tryd.ntmps4
    go_wp2_with fail
    all_goals
      refine (ans03_any _).mono ?_
      rintro e w2 ⟨rfl, hk⟩
      have HK := Lib.hid hk
      clear hk
      go_wp2
      go_ret
      exact ⟨rfl, HK.out.below (Nat.le_refl _) (fun _ h => h.elim)⟩
  · have hn : n ≤ 5000 := by omega
    have hn3 : n3 ≤ 40 := by omega
    clear hbig
    go_enter Tryd.func4, Tryd.ntmps4
    go_wp2_with fail
    refine (new_any w a0 n cap0 bs a1 n1 cap1 zs1 HB.out HL.out (by omega) HI1.out HL1.out HM1.out).mono ?_
    rintro e wa ⟨g1, S1, rfl, hg1, hSb1, _, _, hoff1, _, _, hsa, hka⟩
    have HG1 := Lib.hid hg1
    have HSB1 := Lib.hid hSb1
    have HOFF1 := Lib.hid hoff1
    have HSa := Lib.hid hsa
    have HKa := Lib.hid hka
    clear hg1 hSb1 hoff1 hsa hka
    go_wp2_with fail
    refine (new_any wa a0 n cap0 bs a2 n2 cap2 zs2 (HB.out.kept HKa.out (fun _ _ _ => id)) HL.out (by omega) (HI2.out.kept HKa.out (fun _ _ _ => id)) HL2.out HM2.out).mono ?_
    rintro e wb ⟨g2, S2, rfl, hg2, hSb2, _, _, hoff2, hp2, hq2, hsb, hkb⟩
    have HG2 := Lib.hid hg2
    have HSB2 := Lib.hid hSb2
    have HOFF2 := Lib.hid hoff2
    have HSb := Lib.hid hsb
    have HKb := Lib.hid (HKa.out.trans hkb)
    have HSab := Lib.hid (HSa.out.kept0 hkb)
    have HNE : Hid (g1 ≠ g2) := Lib.hid (by have := HSa.out.lt; omega)
    have HAP2 : Hid (S2.apart g1) := Lib.hid ⟨fun x hx => by have := HSa.out.lt; have := hp2 x hx; omega, fun x hx => by have := HSa.out.lt; have := hq2 x hx; omega⟩
    clear hg2 hSb2 hoff2 hp2 hq2 hsb hkb
    go_wp2_with fail
    go_loopw [11] (fun i wr => ∃ k : Nat, k ≤ n3 ∧ i = .int .i64 k ∧ Hid (TwoInv w g1 S1 g2 S2 wr)) (fun i _ => n3 - (RowKit.intOf i).toNat)
    case atStart => exact ⟨0, by omega, rfl, Lib.hid ⟨0, 0, 0, HSab.out, HSb.out, HKb.out⟩⟩
    case round =>
      obtain ⟨k, hk, rfl, hinv⟩ := hrel
      obtain ⟨a, t1, t2, hs, ht, hkk⟩ := hinv.out
      have HS := Lib.hid hs
      have HT := Lib.hid ht
      have HK := Lib.hid hkk
      clear hs ht hkk
      by_cases hlt : k < n3
      · obtain ⟨ab, ao, rfl, hab, hcells⟩ := HA.out (by omega)
        obtain ⟨hcV, hcU, hwf⟩ := hcells k hlt
        have hblk := HK.out.block ab hab id
        have hcV' := (World.cell?_of_block (a := ⟨ab, ao + k * 2, none⟩) hblk).trans hcV
        have hcU' := (World.cell?_of_block (a := ⟨ab, ao + k * 2 + 1, none⟩) hblk).trans hcU
        clear hcells hcV hcU hblk hwf
        obtain ⟨v, hv⟩ : ∃ v, V k = v := ⟨_, rfl⟩
        obtain ⟨u, hu⟩ : ∃ u, U k = u := ⟨_, rfl⟩
        rw [hv] at hcV'
        rw [hu] at hcU'
        clear hv hu
        rcases v with _ | _
        · skip
          go_wp2_with fail
          refine (body_res _ g1 a t1 S1 HS.out HOFF1.out u).mono ?_
          intro e w4 h4
          rw [HSB1.out] at h4
          generalize hR : bodR bs a u = R at h4
          obtain ⟨E, X, a'⟩ := R
          obtain ⟨p4, m4, c4, t4, rfl, hX4, hb4, hp4, hs4, hk4⟩ := h4
          have HX4 := Lib.hid hX4
          have HB4 := Lib.hid hb4
          have HP4 := Lib.hid hp4
          have HS4 := Lib.hid hs4
          have HK4 := Lib.hid hk4
          have HT4 := Lib.hid (HT.out.kept1 hk4 (Ne.symm HNE.out) HAP2.out)
          clear hX4 hb4 hp4 hs4 hk4
          have hblk := (HK.out.then HK4.out (fun i hi => Or.inl (by have h : i = g1 := hi; have := HG1.out; omega))).block ab hab id
          have hblk0 := HK.out.block ab hab id
          have hcU4 := ((World.cell?_of_block (a := ⟨ab, ao + k * 2 + 1, none⟩) hblk).trans (World.cell?_of_block (a := ⟨ab, ao + k * 2 + 1, none⟩) hblk0).symm).trans hcU'
          have HRES := Lib.hid hR
          clear hblk hblk0 hR
          go_wp2_with fail
          refine (body_res _ g2 a t2 S2 HT4.out HOFF2.out u).mono ?_
          intro e w5 h5
          rw [HSB2.out, HRES.out] at h5
          obtain ⟨p5, m5, c5, t5, rfl, hX5, hb5, hp5, hs5, hk5⟩ := h5
          dsimp only at hX5 hb5 hs5
          have HX5 := Lib.hid hX5
          have HB5 := Lib.hid hb5
          have HS5 := Lib.hid hs5
          have HS45 := Lib.hid (HSa.out.since HS4.out hk5 (fun i hi => by have h : i = g2 := hi; have := HG2.out; omega))
          have hb45 := HB4.out.kept hk5 (fun _ x hx e => by
            have h1 := HP4.out x hx
            have h2 := HT.out.lt
            have h3 : x.block = g2 := e
            omega)
          have HK5 := Lib.hid (((HK.out.then HK4.out (fun i hi => Or.inl (by have h : i = g1 := hi; have := HG1.out; omega))).then hk5 (fun i hi => Or.inl (by have h : i = g2 := hi; have := HG2.out; have := HKa.out.size; omega))))
          have cs1 : (convert 22 9 (.slice p4 m4 c4)).run Tryd.prog w5 = .ok (.string ⟨X.toArray⟩) w5 := conv_at hb45 HX4.out _ _ _ Tryd.underlying22 Tryd.underlying5 Tryd.underlying9 c4
          have cs2 : (convert 22 9 (.slice p5 m5 c5)).run Tryd.prog w5 = .ok (.string ⟨X.toArray⟩) w5 := conv_at HB5.out HX5.out _ _ _ Tryd.underlying22 Tryd.underlying5 Tryd.underlying9 c5
          obtain ⟨ds, hds⟩ : ∃ ds : ByteArray, ds = ⟨X.toArray⟩ := ⟨_, rfl⟩
          rw [← hds] at cs1 cs2
          clear hX5 hb5 hp5 hs5 hk5 hb45 hds
          go_wp2_with fail
          refine (place_any w5 g1 a' t4 S1 HS45.out).mono ?_
          rintro e w6 ⟨rfl, rfl⟩
          go_wp2_with fail
          refine (place_any w5 g2 a' t5 S2 HS5.out).mono ?_
          rintro e w6 ⟨rfl, rfl⟩
          go_wp2
          go_roundw
          case rel => exact ⟨k + 1, by omega, by go_num, Lib.hid ⟨a', t4, t5, HS45.out, HS5.out, HK5.out⟩⟩
          case measure => simp [RowKit.intOf]; omega
        · skip
          go_wp2_with fail
          refine (block_res _ g1 a t1 S1 HS.out HOFF1.out).mono ?_
          intro e w4 h4
          rw [HSB1.out] at h4
          generalize hR : blkR bs a = R at h4
          obtain ⟨E, X, a'⟩ := R
          obtain ⟨p4, m4, c4, t4, rfl, hX4, hb4, hp4, hs4, hk4⟩ := h4
          have HX4 := Lib.hid hX4
          have HB4 := Lib.hid hb4
          have HP4 := Lib.hid hp4
          have HS4 := Lib.hid hs4
          have HK4 := Lib.hid hk4
          have HT4 := Lib.hid (HT.out.kept1 hk4 (Ne.symm HNE.out) HAP2.out)
          clear hX4 hb4 hp4 hs4 hk4
          have HRES := Lib.hid hR
          clear hR
          go_wp2_with fail
          refine (block_res _ g2 a t2 S2 HT4.out HOFF2.out).mono ?_
          intro e w5 h5
          rw [HSB2.out, HRES.out] at h5
          obtain ⟨p5, m5, c5, t5, rfl, hX5, hb5, hp5, hs5, hk5⟩ := h5
          dsimp only at hX5 hb5 hs5
          have HX5 := Lib.hid hX5
          have HB5 := Lib.hid hb5
          have HS5 := Lib.hid hs5
          have HS45 := Lib.hid (HSa.out.since HS4.out hk5 (fun i hi => by have h : i = g2 := hi; have := HG2.out; omega))
          have hb45 := HB4.out.kept hk5 (fun _ x hx e => by
            have h1 := HP4.out x hx
            have h2 := HT.out.lt
            have h3 : x.block = g2 := e
            omega)
          have HK5 := Lib.hid (((HK.out.then HK4.out (fun i hi => Or.inl (by have h : i = g1 := hi; have := HG1.out; omega))).then hk5 (fun i hi => Or.inl (by have h : i = g2 := hi; have := HG2.out; have := HKa.out.size; omega))))
          have cs1 : (convert 22 9 (.slice p4 m4 c4)).run Tryd.prog w5 = .ok (.string ⟨X.toArray⟩) w5 := conv_at hb45 HX4.out _ _ _ Tryd.underlying22 Tryd.underlying5 Tryd.underlying9 c4
          have cs2 : (convert 22 9 (.slice p5 m5 c5)).run Tryd.prog w5 = .ok (.string ⟨X.toArray⟩) w5 := conv_at HB5.out HX5.out _ _ _ Tryd.underlying22 Tryd.underlying5 Tryd.underlying9 c5
          obtain ⟨ds, hds⟩ : ∃ ds : ByteArray, ds = ⟨X.toArray⟩ := ⟨_, rfl⟩
          rw [← hds] at cs1 cs2
          clear hX5 hb5 hp5 hs5 hk5 hb45 hds
          go_wp2_with fail
          refine (place_any w5 g1 a' t4 S1 HS45.out).mono ?_
          rintro e w6 ⟨rfl, rfl⟩
          go_wp2_with fail
          refine (place_any w5 g2 a' t5 S2 HS5.out).mono ?_
          rintro e w6 ⟨rfl, rfl⟩
          go_wp2
          go_roundw
          case rel => exact ⟨k + 1, by omega, by go_num, Lib.hid ⟨a', t4, t5, HS45.out, HS5.out, HK5.out⟩⟩
          case measure => simp [RowKit.intOf]; omega
      · obtain rfl : k = n3 := by omega
        go_wp2_with fail
        refine (ans03_any _).mono ?_
        rintro e w6 ⟨rfl, hk6⟩
        have HK6 := Lib.hid (HK.out.trans hk6)
        clear hk6
        go_wp2
        go_ret
        exact ⟨rfl, HK6.out.below (Nat.le_refl _) (fun _ h => h.elim)⟩
theorem blockChunks (a0 : Option Addr) (len0 cap0 : Nat) (z0 : List Int) (a1 : Option Addr) (len1 cap1 : Nat) (z1 : List Int) (a2 : Option Addr) (len2 cap2 : Nat) (z2 : List Int) (a3 : Option Addr) (len3 cap3 : Nat) (V3 : Nat → Bool) (U3 : Nat → Int) (w : World)
    (w0 : IsRow .u8 w a0 len0 cap0 z0) (b0 : cap0 * 1 ≤ 140737488351232) (w1 : IsRow .i64 w a1 len1 cap1 z1) (b1 : cap1 * 8 ≤ 140737488351232) (w2 : IsRow .i64 w a2 len2 cap2 z2) (b2 : cap2 * 8 ≤ 140737488351232) (w3 : AAt w a3 len3 V3 U3) (c3 : len3 ≤ cap3 ∧ cap3 ≤ maxLen) :
    Calls Tryd.prog 4 #[.slice a0 len0 cap0, .slice a1 len1 cap1, .slice a2 len2 cap2, .slice a3 len3 cap3] w fun e w' => e = .returned (.bool true) ∧ Below w.heap.size w w' := by
  obtain ⟨hb, hl, hc, _⟩ := bat_of_row w0
  obtain ⟨hi1, hl1, hc1, _⟩ := iat_of_row w1
  obtain ⟨hi2, hl2, hc2, _⟩ := iat_of_row w2
  exact blockChunks' a0 len0 cap0 _ a1 len1 cap1 _ a2 len2 cap2 _ a3 len3 cap3 V3 U3 w hb hl hi1 hl1 (by omega) hi2 hl2 (by omega) w3 c3
end Go.Proofs.YtindibabpfdljaaDoor.Walk
