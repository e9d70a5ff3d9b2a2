/- The walk over AttrApplies: what any records make of any header. -/
import Derived.Test.YtfmhdkemigpjjaaDoorAttrLaws
import Derived.Test.YtfmhdkemigpjjaaDoorAttrRApply
import Derived.Test.YtfmhdkemigpjjaaDoorRecRowsOpen
namespace Go.Proofs.YtfmhdkemigpjjaaDoor.Walk
open Go.ChangeShapes Go.WideShapes Go.ChangeAt Go.RowKit Go.Shelf Go.Proofs.YtfmhdkemigpjjaaDoor.Base Go.Proofs.YtfmhdkemigpjjaaDoor.Byt Go.Proofs.YtfmhdkemigpjjaaDoor.Txt Go.Proofs.YtfmhdkemigpjjaaDoor.Rec Go.Proofs.YtfmhdkemigpjjaaDoor.Bk Go.Proofs.YtfmhdkemigpjjaaDoor.Hp Go.Proofs.YtfmhdkemigpjjaaDoor.Head Go.Proofs.YtfmhdkemigpjjaaDoor.Attr Go.Lib
set_option linter.unusedVariables false
set_option maxRecDepth 100000

/-- the records of the first k lists -/
def catR (R : Nat → RecL) : Nat → RecL
  | 0 => []
  | k + 1 => catR R k ++ R k
theorem catR_mem {R : Nat → RecL} {k : Nat} {r : List UInt8 × List UInt8} (h : r ∈ catR R k) : ∃ i, i < k ∧ r ∈ R i := by
  induction k with
  | zero => cases h
  | succ k ih =>
    rcases List.mem_append.1 h with h | h
    · obtain ⟨i, hi, hr⟩ := ih h
      exact ⟨i, by omega, hr⟩
    · exact ⟨k, by omega, h⟩
set_option maxHeartbeats 8000000 in
theorem attrApplies (hv : HeadV) (a : Option Addr) (len cap : Nat) (A : Nat → Option Addr) (M C : Nat → Nat) (R : Nat → List (List UInt8 × List UInt8)) (a1 : Option Addr) (len1 cap1 : Nat) (own : List (List UInt8 × List UInt8)) (w : World)
    (wf0 : ∀ i, (Lit.int .i64 (numH hv i)).wf = true) (nl0 : hv.name.length ≤ 140737488351232) (ll0 : hv.link.length ≤ 140737488351232)
    (ra : RowsAt w a len A M C R) (lc : len ≤ cap) (cm : cap ≤ maxLen) (mz : ∀ i, i < len → M i ≤ C i ∧ C i ≤ maxLen ∧ C i * 32 ≤ 140737488351232 ∧ ∀ r ∈ R i, r.1.length ≤ 140737488351232 ∧ r.2.length ≤ 140737488351232)
    (ra1 : RecsAt w a1 len1 own) (lc1 : len1 ≤ cap1) (cm1 : cap1 ≤ maxLen) (sz1 : ∀ r ∈ own, r.1.length ≤ 140737488351232 ∧ r.2.length ≤ 140737488351232) (b1 : cap1 * 32 ≤ 140737488351232) :
    Calls Tryd.prog 3 #[.agg (headC hv), .slice a len cap, .slice a1 len1 cap1] w fun e w' => e = .returned (.bool true) ∧ Below w.heap.size w w' := by
  have HL : Hid (∀ i, i < 6 → (valueD (lastD (catR R len)) own (keyT i)).length ≤ 140737488351232) := Lib.hid (fun i _ => valueD_len (fun r hr => by
    obtain ⟨j, hj, hr⟩ := catR_mem hr
    exact ((mz j hj).2.2.2 r hr).2) (fun r hr => (sz1 r hr).2))
  have HMZ : Hid (∀ i, i < len → M i ≤ 4398046511104) := Lib.hid (fun i hi => by have := mz i hi; omega)
  have HRA := Lib.hid ra
  have HRC := Lib.hid ra1
  have hl : (len : Int) ≤ 9223372036854775807 := by unfold maxLen at cm; omega
  have hl1 : (len1 : Int) ≤ 4398046511104 := by omega
  have hl1n : len1 ≤ 4611686018427387904 := by omega
  obtain ⟨i0, hi0, hz0, hz1, hz2⟩ := info_parts infoRec
  have HI := Lib.hid hi0
  have HZ0 := Lib.hid hz0
  have HZ1 := Lib.hid hz1
  have HZ2 := Lib.hid hz2
  have HL1N := Lib.hid hl1n
  clear ra ra1 sz1 mz cm cm1 hi0 hz0 hz1 hz2 wf0 nl0 ll0 lc lc1 b1 hl1n
  simp only [headC]
  go_enter Tryd.func3, Tryd.ntmps3
  go_wp2_with fail
  obtain ⟨Wb, hWb⟩ : ∃ Wb, w.alloc (.cells #[.string (str hv.name), .string (str hv.link), .int .u8 (hv.kind.toNat : Int), .int .i64 hv.mode, .int .i64 hv.uid, .int .i64 hv.gid, .int .i64 hv.time, .int .i64 hv.size, .bool hv.gnu] 25) = Wb := ⟨_, rfl⟩
  have HX : Hid (Below w.heap.size w Wb ∧ Blk Wb w.heap.size 25 (headC hv) ∧ Wb.heap.size = w.heap.size + 1) := Lib.hid (by
    rw [← hWb]
    exact ⟨(Below.refl _ w).alloc (Nat.le_refl _) _, Blk.new w 25 (headC hv), by simp⟩)
  have HRA2 := Lib.hid (HRA.out.below HX.out.1)
  have HRC2 := Lib.hid (HRC.out.below HX.out.1)
  rw [hWb]
  clear hWb HRA HRC
  rw [show w.heap.size + 1 = Wb.heap.size from HX.out.2.2.symm]
  have H0 := Lib.hid (StO.new (Below.refl _ Wb))
  obtain ⟨W0, hW0⟩ : ∃ W0, Wb.alloc (.cells #[.map none] 31) = W0 := ⟨_, rfl⟩
  rw [hW0] at H0 ⊢
  clear hW0
  go_loopw [8, 9] (fun v i wr => ∃ (j : Nat) (mb : Option Nat), j ≤ len ∧ j ≤ 10 ∧ i = .int .i64 (j : Int) ∧ Hid (StO Wb wr Wb.heap.size mb (moreF noneF (catR R j)) ∧ wr.ownsRow Wb.heap.size 43 2 v (catR R j).length (flatR (catR R j)) ∧ (catR R j).length ≤ 10 * j)) (fun _ i _ => len - (RowKit.intOf i).toNat)
  case atStart => exact ⟨0, none, Nat.zero_le _, Nat.zero_le _, rfl, Lib.hid ⟨H0.out, ⟨rfl, .inl ⟨rfl, rfl⟩⟩, Nat.le_refl _⟩⟩
  case round =>
    obtain ⟨j, mb, hj, hj10, rfl, hI⟩ := hrel
    by_cases hlt : j < len
    · have hltz : (j : Int) < (len : Int) := by omega
      obtain ⟨b, o, rfl, hb, hc⟩ := (HRA2.out.below hI.out.1.2.2.2) (by omega)
      have x0 := (hc j hlt).1
      have x1 := (((Below.refl wr.heap.size wr).alloc (Nat.le_refl _) (.cells #[] 43)).cell (p := ⟨b, o + j, none⟩) hb).trans x0
      have HRJ := Lib.hid (hc j hlt).2
      have hmj := HMZ.out j hlt
      have HJ := Lib.hid (And.intro hlt hj10)
      clear hc hb
      by_cases t1 : (10 : Int) < (len : Int)
      · go_wp2_with fail
        refine (ans07_any _).mono ?_
        rintro e w1 ⟨rfl, hb⟩
        have HB : Hid (Below w.heap.size w w1) := Lib.hid (HX.out.1.trans ((hI.out.1.2.2.2.trans (hb.mono hI.out.1.2.2.2.size)).mono HX.out.1.size))
        clear hb
        go_wp2
        go_ret
        exact ⟨rfl, HB.out⟩
      · by_cases t2 : (10 : Int) < (M j : Int)
        · go_wp2_with fail
          refine (ans07_any _).mono ?_
          rintro e w1 ⟨rfl, hb⟩
          have HB : Hid (Below w.heap.size w w1) := Lib.hid (HX.out.1.trans ((hI.out.1.2.2.2.trans (hb.mono hI.out.1.2.2.2.size)).mono HX.out.1.size))
          clear hb
          go_wp2
          go_ret
          exact ⟨rfl, HB.out⟩
        · by_cases t3 : (20 : Int) < (len1 : Int)
          · go_wp2_with fail
            refine (ans07_any _).mono ?_
            rintro e w1 ⟨rfl, hb⟩
            have HB : Hid (Below w.heap.size w w1) := Lib.hid (HX.out.1.trans ((hI.out.1.2.2.2.trans (hb.mono hI.out.1.2.2.2.size)).mono HX.out.1.size))
            clear hb
            go_wp2
            go_ret
            exact ⟨rfl, HB.out⟩
          · have HM10 : Hid (M j ≤ 10 ∧ len ≤ 10) := Lib.hid (by omega)
            go_wp2_with (at_builtin; refine append_recs rfl _ _ 27 rfl wr.heap.size 43 i0 (.agg #[.string ⟨#[]⟩, .string ⟨#[]⟩]) Tryd.underlying27 HI.out HZ0.out HZ1.out HZ2.out rfl _ 0 [] rfl (World.ownsRow_made wr #[] 0 (Nat.le_refl _) (by decide) rfl) (A j) (M j) (C j) (R j) rfl (HRJ.out.below ((Below.refl _ _).alloc (Nat.le_refl _) _)) (by have := HM10.out; omega) (by simp) ?_)
            intro v4 w4 hown4 hgrow4
            have HG4 : Hid (Below wr.heap.size wr w4) := Lib.hid ((((Below.refl wr.heap.size wr).alloc (Nat.le_refl _) _)).grown hgrow4 (by simp) (by intro k hk; simp [Value.ownBlock] at hk; omega))
            obtain ⟨p4, c4, rfl, _, _, hr4⟩ : ∃ p c, v4 = .slice p (R j).length c ∧ (R j).length ≤ c ∧ c ≤ maxLen ∧ RecsAt w4 p (R j).length (R j) := recs_own (by
              rw [HRJ.out.1]
              simpa using hown4)
            obtain ⟨n4, hn4⟩ : ∃ n4, (R j).length = n4 := ⟨_, rfl⟩
            have HN4 : Hid (n4 ≤ 10) := Lib.hid (by rw [← hn4, HRJ.out.1]; exact HM10.out.1)
            rw [hn4] at hr4
            rw [hn4]
            have HR4 := Lib.hid hr4
            have H4 := Lib.hid (And.intro (hI.out.1.below HG4.out) (own_below hI.out.2.1 HG4.out))
            clear hown4 hgrow4 hr4 hn4 HG4 x0 x1
            go_wp2_with fail
            refine (show Calls _ _ _ _ (GlobPost _ Wb.heap.size mb (moreF noneF (catR R j)) (R j)) from global_any _ _ _ _ _ _ _ _ H4.out.1.1 (by have := HN4.out; omega) HR4.out).mono ?_
            intro e w5 hp
            obtain ⟨rfl, B, hs5, hk5⟩ := H4.out.1.global hp
            rw [moreF_more] at hs5
            have ho5 := ownsRow_kept H4.out.2 hk5 (fun k hk => own_off H4.out.1.1 H4.out.2 hk)
            have H5 := Lib.hid (And.intro hs5 ho5)
            obtain ⟨b', o', hbo, hb', hc'⟩ := (HRA2.out.below hs5.2.2.2) (by have := HJ.out; omega)
            cases hbo
            have x0 := (hc' j HJ.out.1).1
            have HRJ5 := Lib.hid (hc' j HJ.out.1).2
            clear hp hs5 hk5 ho5 hb' hc' H4 HR4
            go_wp2_with (at_builtin; refine append_recs rfl _ _ 27 rfl Wb.heap.size 43 i0 (.agg #[.string ⟨#[]⟩, .string ⟨#[]⟩]) Tryd.underlying27 HI.out HZ0.out HZ1.out HZ2.out rfl _ _ _ rfl H5.out.2 (A j) (M j) (C j) (R j) rfl HRJ5.out (by have := HM10.out; have := hI.out.2.2; have := HJ.out; omega) H5.out.1.2.2.2.size ?_)
            intro v6 w6 hown6 hgrow6
            have hkg : Kept (fun k => Value.ownBlock _ = some k) w5 w6 := ⟨hgrow6.os, hgrow6.tape, hgrow6.output, hgrow6.size, fun k hk hn => hgrow6.block k hk (fun e => hn e.symm)⟩
            have HN : Hid (StO Wb w6 Wb.heap.size (some B) (moreF noneF (catR R (j + 1))) ∧ w6.ownsRow Wb.heap.size 43 2 v6 (catR R (j + 1)).length (flatR (catR R (j + 1))) ∧ (catR R (j + 1)).length ≤ 10 * (j + 1)) := Lib.hid (by
              have hlen : (catR R (j + 1)).length = (catR R j).length + M j := by rw [catR, List.length_append, HRJ.out.1]
              refine ⟨⟨H5.out.1.1.kept hkg (fun k hk hh => own_off H5.out.1.1 H5.out.2 hh hk), Nat.le_refl _, H5.out.1.2.2.1, below_own H5.out.1.2.2.2 H5.out.2 (Nat.le_refl _) hgrow6⟩, ?_, ?_⟩
              · rw [hlen]; exact hown6
              · rw [hlen]; have := hI.out.2.2; have := HM10.out; omega)
            clear hown6 hgrow6 hkg
            go_wp2
            go_roundw
            case rel => exact ⟨j + 1, some B, by have := HJ.out; omega, by have := HJ.out; have := HM10.out; omega, by go_num, HN⟩
            case measure => have := HJ.out; simp [RowKit.intOf]; omega
    · obtain rfl : j = len := by omega
      have hltz : ¬ ((j : Int) < (j : Int)) := by omega
      obtain ⟨p6, c6, rfl, _, _, hr6⟩ := recs_own hI.out.2.1
      have HST := Lib.hid hI.out.1
      have HN6 : Hid ((catR R j).length ≤ 100) := Lib.hid (by have := hI.out.2.2; omega)
      obtain ⟨G, hG⟩ : ∃ G, catR R j = G := ⟨_, rfl⟩
      rw [hG] at hr6 HST HN6 HL
      clear hI
      rw [hG]
      obtain ⟨n6, hn6⟩ : ∃ n6, G.length = n6 := ⟨_, rfl⟩
      rw [hn6] at hr6 HN6
      rw [hn6]
      have HR6 := Lib.hid hr6
      obtain ⟨c0, c1, c2, c3, c4, c5, c6', c7, c8⟩ := head9 (HX.out.2.1.below HST.out.2.2.2 HX.out.2.1.lt)
      clear hr6 hn6 hG
      go_wp2_with fail
      rw [moreF_none] at HST
      refine (apply_any _ _ hv a1 len1 cap1 own _ HST.out.ptr HL1N.out (HRC2.out.below HST.out.2.2.2) HL.out).mono ?_
      rintro e w7 ⟨rfl, hb⟩
      obtain ⟨X, hX⟩ : ∃ X, applyD (lastD G) own hv = X := ⟨_, rfl⟩
      have HXX := Lib.hid hX
      rw [hX, headA_eq]
      clear c0 c1 c2 c3 c4 c5 c6' c7 c8 hX
      have hb7 := hb.alloc hb.size (.cells (headC X.1) 25)
      have H7 : Hid (Below Wb.heap.size Wb (w7.alloc (.cells (headC X.1) 25))) := Lib.hid (HST.out.2.2.2.trans (hb7.mono HST.out.2.2.2.size))
      have HR7 := Lib.hid (HR6.out.below hb7)
      have hbx := Blk.new w7 25 (headC X.1)
      clear hb hb7 HST HR6
      simp only [headC] at H7 hbx HR7
      obtain ⟨c0, c1, c2, c3, c4, c5, c6', c7, c8⟩ := head9 (HX.out.2.1.below H7.out HX.out.2.1.lt)
      have HB8 := Lib.hid hbx
      clear hbx
      go_wp2_with fail
      refine (rapply_any _ _ _ G a1 len1 cap1 own hv _ (by have := HN6.out; omega) HL1N.out HR7.out (HRC2.out.below H7.out) HL.out).mono ?_
      rintro e w9 ⟨rfl, hb⟩
      rw [HXX.out, headA_eq]
      have hb9 := hb.alloc hb.size (.cells (headC X.1) 25)
      have H9 : Hid (Below Wb.heap.size Wb (w9.alloc (.cells (headC X.1) 25))) := Lib.hid (H7.out.trans (hb9.mono H7.out.size))
      have hby := Blk.new w9 25 (headC X.1)
      have hbx := HB8.out.below hb9 HB8.out.lt
      clear c0 c1 c2 c3 c4 c5 c6' c7 c8 hb hb9 H7 HB8 HR7
      simp only [headC] at H9 hby hbx
      have HYY := Lib.hid (And.intro hbx hby)
      clear hbx hby
      go_wp2_with fail
      refine (ans07_any _).mono ?_
      rintro e w10 ⟨rfl, hb⟩
      obtain ⟨c0, c1, c2, c3, c4, c5, c6', c7, c8⟩ := head9 (h := X.1) (HYY.out.1.below hb HYY.out.1.lt)
      obtain ⟨d0, d1, d2, d3, d4, d5, d6, d7, d8⟩ := head9 (h := X.1) (HYY.out.2.below hb HYY.out.2.lt)
      have EQ := fun w => eqH_self X.1 w
      have H10 : Hid (Below w.heap.size w w10) := Lib.hid (HX.out.1.trans ((H9.out.trans (hb.mono H9.out.size)).mono HX.out.1.size))
      clear hb HYY H9
      go_wp2
      go_ret
      exact ⟨by simp, H10.out⟩
end Go.Proofs.YtfmhdkemigpjjaaDoor.Walk
