/- The walk over AttrParts: global records in two parts are as in one. -/
import Derived.Test.YtfmhdkemigpjjaaDoorAttrLaws
namespace Go.Proofs.YtfmhdkemigpjjaaDoor.Walk
open Go.ChangeShapes Go.WideShapes Go.ChangeAt Go.RowKit Go.Shelf Go.Proofs.YtfmhdkemigpjjaaDoor.Base Go.Proofs.YtfmhdkemigpjjaaDoor.Byt Go.Proofs.YtfmhdkemigpjjaaDoor.Txt Go.Proofs.YtfmhdkemigpjjaaDoor.Rec Go.Proofs.YtfmhdkemigpjjaaDoor.Bk Go.Proofs.YtfmhdkemigpjjaaDoor.Hp Go.Proofs.YtfmhdkemigpjjaaDoor.Head Go.Proofs.YtfmhdkemigpjjaaDoor.Attr Go.Lib
set_option linter.unusedVariables false
set_option maxRecDepth 100000

set_option maxHeartbeats 8000000 in
theorem attrParts (hv : HeadV) (a : Option Addr) (len cap : Nat) (rs : List (List UInt8 × List UInt8)) (a1 : Option Addr) (len1 cap1 : Nat) (ss : List (List UInt8 × List UInt8)) (a2 : Option Addr) (len2 cap2 : Nat) (own : List (List UInt8 × List UInt8)) (w : World)
    (wf0 : ∀ i, (Lit.int .i64 (numH hv i)).wf = true) (nl0 : hv.name.length ≤ 140737488351232) (ll0 : hv.link.length ≤ 140737488351232)
    (ra : RecsAt w a len rs) (lc : len ≤ cap) (cm : cap ≤ maxLen) (sz : ∀ r ∈ rs, r.1.length ≤ 140737488351232 ∧ r.2.length ≤ 140737488351232) (b0 : cap * 32 ≤ 140737488351232)
    (ra1 : RecsAt w a1 len1 ss) (lc1 : len1 ≤ cap1) (cm1 : cap1 ≤ maxLen) (sz1 : ∀ r ∈ ss, r.1.length ≤ 140737488351232 ∧ r.2.length ≤ 140737488351232) (b1 : cap1 * 32 ≤ 140737488351232)
    (ra2 : RecsAt w a2 len2 own) (lc2 : len2 ≤ cap2) (cm2 : cap2 ≤ maxLen) (sz2 : ∀ r ∈ own, r.1.length ≤ 140737488351232 ∧ r.2.length ≤ 140737488351232) (b2 : cap2 * 32 ≤ 140737488351232) :
    Calls Tryd.prog 7 #[.agg (headC hv), .slice a len cap, .slice a1 len1 cap1, .slice a2 len2 cap2] w fun e w' => e = .returned (.bool true) ∧ Below w.heap.size w w' := by
  have HL : Hid (∀ i, i < 6 → (valueD (lastD (rs ++ ss)) own (keyT i)).length ≤ 140737488351232) := Lib.hid (fun i _ => valueD_len (fun r hr => by
    rcases List.mem_append.1 hr with hr | hr
    · exact (sz r hr).2
    · exact (sz1 r hr).2) (fun r hr => (sz2 r hr).2))
  have HRA := Lib.hid ra
  have HRB := Lib.hid ra1
  have HRC := Lib.hid ra2
  have HLA := Lib.hid ra.1
  have HLB := Lib.hid ra1.1
  have hl : (len : Int) ≤ 4398046511104 := by omega
  have hl1 : (len1 : Int) ≤ 4398046511104 := by omega
  have hl2 : (len2 : Int) ≤ 4398046511104 := by omega
  obtain ⟨i0, hi0, hz0, hz1, hz2⟩ := info_parts infoRec
  have HI := Lib.hid hi0
  have HZ0 := Lib.hid hz0
  have HZ1 := Lib.hid hz1
  have HZ2 := Lib.hid hz2
  clear ra ra1 ra2 sz sz1 sz2 cm cm1 cm2 hi0 hz0 hz1 hz2 wf0 nl0 ll0
  simp only [headC]
  by_cases hbig : (100 : Int) < (len : Int) + (len1 : Int) + (len2 : Int)
  · go_enter Tryd.func7, Tryd.ntmps7
    go_wp2_with fail
    refine (ans07_any _).mono ?_
    rintro e w1 ⟨rfl, hb⟩
    have HB : Hid (Below w.heap.size w w1) := Lib.hid (((Below.refl _ w).alloc (Nat.le_refl _) _).trans (hb.mono (by simp)))
    clear hb
    go_wp2
    go_ret
    exact ⟨rfl, HB.out⟩
  · have h30 : (len : Int) + (len1 : Int) + (len2 : Int) ≤ 100 := by omega
    have H30 := Lib.hid h30
    go_enter Tryd.func7, Tryd.ntmps7
    go_wp2_with fail
    obtain ⟨Wb, hWb⟩ : ∃ Wb, w.alloc (.cells #[.string (str hv.name), .string (str hv.link), .int .u8 (hv.kind.toNat : Int), .int .i64 hv.mode, .int .i64 hv.uid, .int .i64 hv.gid, .int .i64 hv.time, .int .i64 hv.size, .bool hv.gnu] 25) = Wb := ⟨_, rfl⟩
    have HX : Hid (Below w.heap.size w Wb ∧ Blk Wb w.heap.size 25 (headC hv) ∧ Wb.heap.size = w.heap.size + 1) := Lib.hid (by
      rw [← hWb]
      exact ⟨(Below.refl _ w).alloc (Nat.le_refl _) _, Blk.new w 25 (headC hv), by simp⟩)
    have HRA2 := Lib.hid (HRA.out.below HX.out.1)
    have HRB2 := Lib.hid (HRB.out.below HX.out.1)
    have HRC2 := Lib.hid (HRC.out.below HX.out.1)
    rw [hWb]
    clear hWb HRA HRB HRC
    rw [show w.heap.size + 1 = Wb.heap.size from HX.out.2.2.symm]
    have H0 : Hid (StO Wb ((Wb.alloc (.cells #[.map none] 31)).alloc (.cells #[.map none] 31)) Wb.heap.size none noneF ∧ StO Wb ((Wb.alloc (.cells #[.map none] 31)).alloc (.cells #[.map none] 31)) (Wb.heap.size + 1) none noneF) := Lib.hid (by
      refine ⟨(StO.new (Below.refl _ Wb)).below ((Below.refl _ _).alloc (Nat.le_refl _) _), ?_⟩
      have := StO.new (w0 := Wb) ((Below.refl _ Wb).alloc (Nat.le_refl _) (.cells #[.map none] 31))
      rwa [World.size_alloc] at this)
    obtain ⟨W0, hW0⟩ : ∃ W0, (Wb.alloc (.cells #[.map none] 31)).alloc (.cells #[.map none] 31) = W0 := ⟨_, rfl⟩
    rw [hW0] at H0 ⊢
    clear hW0
    refine (show Calls _ _ _ _ (GlobPost _ Wb.heap.size none noneF rs) from global_any _ _ _ _ _ _ _ _ H0.out.1.1 (by omega) (HRA2.out.below H0.out.1.2.2.2)).mono ?_
    intro e w1 hp
    obtain ⟨rfl, B, hs1, hk1⟩ := H0.out.1.global hp
    have H1 : Hid (StO Wb w1 Wb.heap.size (some B) (moreF noneF rs) ∧ StO Wb w1 (Wb.heap.size + 1) none noneF) := Lib.hid ⟨hs1, H0.out.2.1.kept hk1 (fun k hk => by
      rcases hk with rfl | hk
      · exact off_cell H0.out.1.1 H0.out.2.1.1 (by omega)
      · cases hk), H0.out.2.2.1, H0.out.2.2.2.1, hs1.2.2.2⟩
    clear hp hs1 hk1 H0
    go_wp2_with fail
    refine (show Calls _ _ _ _ (GlobPost _ Wb.heap.size (some B) (moreF noneF rs) ss) from global_any _ _ _ _ _ _ _ _ H1.out.1.1 (by omega) (HRB2.out.below H1.out.1.2.2.2)).mono ?_
    intro e w2 hp
    obtain ⟨rfl, B2, hs2, hk2⟩ := H1.out.1.global hp
    rw [moreF_more] at hs2
    have H2 : Hid (StO Wb w2 Wb.heap.size (some B2) (moreF noneF (rs ++ ss)) ∧ StO Wb w2 (Wb.heap.size + 1) none noneF) := Lib.hid ⟨hs2, H1.out.2.1.kept hk2 (fun k hk => by
      rcases hk with rfl | hk
      · exact off_cell H1.out.1.1 H1.out.2.1.1 (by omega)
      · cases hk), H1.out.2.2.1, H1.out.2.2.2.1, hs2.2.2.2⟩
    clear hp hs2 hk2 H1
    go_wp2_with (at_builtin; refine append_recs rfl _ _ 27 rfl w2.heap.size 43 i0 (.agg #[.string ⟨#[]⟩, .string ⟨#[]⟩]) Tryd.underlying27 HI.out HZ0.out HZ1.out HZ2.out rfl _ 0 [] rfl (World.ownsRow_made w2 #[] 0 (Nat.le_refl _) (by decide) rfl) a len cap rs rfl ((HRA2.out.below H2.out.1.2.2.2).below ((Below.refl _ _).alloc (Nat.le_refl _) _)) (by have := H30.out; omega) (by simp) ?_)
    intro v4 w4 hown4 hgrow4
    have HG4 : Hid (Below w2.heap.size w2 w4) := Lib.hid ((((Below.refl w2.heap.size w2).alloc (Nat.le_refl _) _)).grown hgrow4 (by simp) (by intro k hk; simp [Value.ownBlock] at hk; omega))
    have HO4 : Hid (w4.ownsRow w2.heap.size 43 2 v4 len (flatR rs)) := Lib.hid (by simpa using hown4)
    clear hown4 hgrow4
    go_wp2_with (at_builtin; refine append_recs rfl _ _ 27 rfl w2.heap.size 43 i0 (.agg #[.string ⟨#[]⟩, .string ⟨#[]⟩]) Tryd.underlying27 HI.out HZ0.out HZ1.out HZ2.out rfl _ len rs rfl HO4.out a1 len1 cap1 ss rfl ((HRB2.out.below H2.out.1.2.2.2).below HG4.out) (by have := H30.out; omega) HG4.out.size ?_)
    intro v5 w5 hown5 hgrow5
    have HG5 : Hid (Below w2.heap.size w2 w5) := Lib.hid (below_own HG4.out HO4.out (Nat.le_refl _) hgrow5)
    obtain ⟨p6, c6, rfl, _, _, hr6⟩ : ∃ p c, v5 = .slice p (rs ++ ss).length c ∧ (rs ++ ss).length ≤ c ∧ c ≤ maxLen ∧ RecsAt w5 p (rs ++ ss).length (rs ++ ss) := recs_own (by
      have e : (rs ++ ss).length = len + len1 := by rw [List.length_append, HLA.out, HLB.out]
      rw [e]
      exact hown5)
    obtain ⟨n6, hn6⟩ : ∃ n6, (rs ++ ss).length = n6 := ⟨_, rfl⟩
    have HN6 : Hid (n6 = len + len1) := Lib.hid (by rw [← hn6, List.length_append, HLA.out, HLB.out])
    rw [hn6] at hr6
    rw [hn6]
    have HR6 := Lib.hid hr6
    have H5 : Hid (StO Wb w5 Wb.heap.size (some B2) (moreF noneF (rs ++ ss)) ∧ StO Wb w5 (Wb.heap.size + 1) none noneF) := Lib.hid ⟨H2.out.1.below HG5.out, H2.out.2.below HG5.out⟩
    clear hown5 hgrow5 hr6 hn6 H2 HG5 HG4 HO4
    go_wp2_with fail
    refine (show Calls _ _ _ _ (GlobPost _ (Wb.heap.size + 1) none noneF (rs ++ ss)) from global_any _ _ _ _ _ _ _ _ H5.out.2.1 (by have := HN6.out; omega) HR6.out).mono ?_
    intro e w6 hp
    obtain ⟨rfl, B3, hs6, hk6⟩ := H5.out.2.global hp
    have H6 : Hid (StO Wb w6 Wb.heap.size (some B2) (moreF noneF (rs ++ ss)) ∧ StO Wb w6 (Wb.heap.size + 1) (some B3) (moreF noneF (rs ++ ss))) := Lib.hid ⟨⟨H5.out.1.1.kept hk6 (fun k hk hh => by
      rcases hh with rfl | hh
      · exact off_cell H5.out.1.1 H5.out.2.1.1 (by omega) hk
      · cases hh), H5.out.1.2.1, H5.out.1.2.2.1, hs6.2.2.2⟩, hs6⟩
    clear hp hs6 hk6 H5 HR6
    obtain ⟨c0, c1, c2, c3, c4, c5, c6', c7, c8⟩ := head9 (HX.out.2.1.below H6.out.1.2.2.2 HX.out.2.1.lt)
    go_wp2_with fail
    rw [moreF_none] at H6
    refine (apply_any _ _ hv a2 len2 cap2 own _ H6.out.1.ptr (by omega) (HRC2.out.below H6.out.1.2.2.2) HL.out).mono ?_
    rintro e w7 ⟨rfl, hb⟩
    obtain ⟨X, hX⟩ : ∃ X, applyD (lastD (rs ++ ss)) own hv = X := ⟨_, rfl⟩
    have HXX := Lib.hid hX
    rw [hX, headA_eq]
    clear c0 c1 c2 c3 c4 c5 c6' c7 c8 hX
    have hb7 := hb.alloc hb.size (.cells (headC X.1) 25)
    have H7 : Hid (StO Wb (w7.alloc (.cells (headC X.1) 25)) Wb.heap.size (some B2) (lastD (rs ++ ss)) ∧ StO Wb (w7.alloc (.cells (headC X.1) 25)) (Wb.heap.size + 1) (some B3) (lastD (rs ++ ss))) := Lib.hid ⟨H6.out.1.below hb7, H6.out.2.below hb7⟩
    have hbx := Blk.new w7 25 (headC X.1)
    clear hb hb7 H6
    simp only [headC] at H7 hbx
    obtain ⟨c0, c1, c2, c3, c4, c5, c6', c7, c8⟩ := head9 (HX.out.2.1.below H7.out.1.2.2.2 HX.out.2.1.lt)
    have HB8 := Lib.hid hbx
    clear hbx
    go_wp2_with fail
    refine (apply_any _ _ hv a2 len2 cap2 own _ H7.out.2.ptr (by omega) (HRC2.out.below H7.out.1.2.2.2) HL.out).mono ?_
    rintro e w9 ⟨rfl, hb⟩
    rw [HXX.out, headA_eq]
    have hb9 := hb.alloc hb.size (.cells (headC X.1) 25)
    have H9 : Hid (Below Wb.heap.size Wb (w9.alloc (.cells (headC X.1) 25))) := Lib.hid (H7.out.1.2.2.2.trans (hb9.mono H7.out.1.2.2.2.size))
    have hby := Blk.new w9 25 (headC X.1)
    have hbx := HB8.out.below hb9 HB8.out.lt
    clear c0 c1 c2 c3 c4 c5 c6' c7 c8 hb hb9 H7 HB8
    simp only [headC] at H9 hby hbx
    have HYY := Lib.hid (And.intro hbx hby)
    clear hbx hby
    go_wp2_with fail
    refine (ans07_any _).mono ?_
    rintro e w10 ⟨rfl, hb⟩
    obtain ⟨c0, c1, c2, c3, c4, c5, c6', c7, c8⟩ := head9 (h := X.1) (HYY.out.1.below hb HYY.out.1.lt)
    obtain ⟨d0, d1, d2, d3, d4, d5, d6, d7, d8⟩ := head9 (h := X.1) (HYY.out.2.below hb HYY.out.2.lt)
    have EQ := fun w => eqH_self X.1 w
    have H10 : Hid (Below w.heap.size w w10) := Lib.hid (HX.out.1.trans ((H9.out.trans (hb.mono H9.out.size)).mono HX.out.1.size))
    clear hb HYY H9
    go_wp2
    go_ret
    exact ⟨by simp, H10.out⟩
end Go.Proofs.YtfmhdkemigpjjaaDoor.Walk
