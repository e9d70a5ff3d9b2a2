/- The walk over AttrKept: a list that was handed in is not kept, a state is not changed by what is asked of it; a state that is none. -/
import Derived.Test.YtfmhdkemigpjjaaDoorAttrLaws
import Derived.Test.YtfmhdkemigpjjaaDoorAttrRApply
import Derived.Deep.DeepCutAuto
namespace Go.Proofs.YtfmhdkemigpjjaaDoor.Walk
open Go.ChangeShapes Go.WideShapes Go.ChangeAt Go.RowKit Go.Shelf Go.Proofs.YtfmhdkemigpjjaaDoor.Base Go.Proofs.YtfmhdkemigpjjaaDoor.Byt Go.Proofs.YtfmhdkemigpjjaaDoor.Txt Go.Proofs.YtfmhdkemigpjjaaDoor.Rec Go.Proofs.YtfmhdkemigpjjaaDoor.Bk Go.Proofs.YtfmhdkemigpjjaaDoor.Hp Go.Proofs.YtfmhdkemigpjjaaDoor.Head Go.Proofs.YtfmhdkemigpjjaaDoor.Attr Go.Lib
set_option linter.unusedVariables false
set_option maxRecDepth 100000

/-- a row of records that may be written over -/
def OverR (w0 w : World) (p : Option Addr) (n : Nat) : Prop := n = 0 ∨ ∃ gb cur, p = some ⟨gb, 0, none⟩ ∧ Blk w gb 43 cur ∧ 2 * n ≤ cur.size ∧ w0.heap.size ≤ gb
theorem OverR.below {w0 w w' : World} {p : Option Addr} {n : Nat} (h : OverR w0 w p n) (hb : Below w.heap.size w w') : OverR w0 w' p n :=
  h.imp id fun ⟨gb, cur, hp, hk, hn⟩ => ⟨gb, cur, hp, hk.below hb hk.lt, hn⟩
theorem OverR.keptS {S : Nat → Prop} {w0 w w' : World} {p : Option Addr} {n : Nat} (h : OverR w0 w p n) (hk : Kept S w w') (hn : ∀ gb cur, Blk w gb 43 cur → ¬ S gb) : OverR w0 w' p n :=
  h.imp id fun ⟨gb, cur, hp, hb, h⟩ => ⟨gb, cur, hp, hb.keptS hk (hn gb cur hb), h⟩
set_option maxHeartbeats 8000000 in
theorem attrKept (hv : HeadV) (a : Option Addr) (len cap : Nat) (rs : List (List UInt8 × List UInt8)) (a1 : Option Addr) (len1 cap1 : Nat) (own : List (List UInt8 × List UInt8)) (w : World)
    (wf0 : ∀ i, (Lit.int .i64 (numH hv i)).wf = true) (nl0 : hv.name.length ≤ 140737488351232) (ll0 : hv.link.length ≤ 140737488351232)
    (ra : RecsAt w a len rs) (lc : len ≤ cap) (cm : cap ≤ maxLen) (sz : ∀ r ∈ rs, r.1.length ≤ 140737488351232 ∧ r.2.length ≤ 140737488351232) (b0 : cap * 32 ≤ 140737488351232)
    (ra1 : RecsAt w a1 len1 own) (lc1 : len1 ≤ cap1) (cm1 : cap1 ≤ maxLen) (sz1 : ∀ r ∈ own, r.1.length ≤ 140737488351232 ∧ r.2.length ≤ 140737488351232) (b1 : cap1 * 32 ≤ 140737488351232) :
    Calls Tryd.prog 6 #[.agg (headC hv), .slice a len cap, .slice a1 len1 cap1] w fun e w' => e = .returned (.bool true) ∧ Below w.heap.size w w' := by
  have HL1 : Hid (∀ i, i < 6 → (valueD (lastD rs) [] (keyT i)).length ≤ 140737488351232) := Lib.hid (fun i _ => valueD_len (fun r hr => (sz r hr).2) (by simp))
  have HL2 : Hid (∀ i, i < 6 → (valueD (lastD rs) own (keyT i)).length ≤ 140737488351232) := Lib.hid (fun i _ => valueD_len (fun r hr => (sz r hr).2) (fun r hr => (sz1 r hr).2))
  have HL3 : Hid (∀ i, i < 6 → (valueD noneF own (keyT i)).length ≤ 140737488351232) := Lib.hid (fun i _ => by rw [← lastD_nil]; exact valueD_len (by simp) (fun r hr => (sz1 r hr).2))
  have HRA := Lib.hid ra
  have HRC := Lib.hid ra1
  have HLA := Lib.hid ra.1
  have hl : (len : Int) ≤ 4398046511104 := by omega
  have hl1 : (len1 : Int) ≤ 4398046511104 := by omega
  obtain ⟨i0, hi0, hz0, hz1, hz2⟩ := info_parts infoRec
  have HI := Lib.hid hi0
  have HZ0 := Lib.hid hz0
  have HZ1 := Lib.hid hz1
  have HZ2 := Lib.hid hz2
  clear ra ra1 sz sz1 cm cm1 hi0 hz0 hz1 hz2 wf0 nl0 ll0
  simp only [headC]
  by_cases hbig : (100 : Int) < (len : Int) + (len1 : Int)
  · go_enter Tryd.func6, Tryd.ntmps6
    go_wp2_with fail
    refine (ans07_any _).mono ?_
    rintro e w1 ⟨rfl, hb⟩
    have HB : Hid (Below w.heap.size w w1) := Lib.hid (((Below.refl _ w).alloc (Nat.le_refl _) _).trans (hb.mono (by simp)))
    clear hb
    go_wp2
    go_ret
    exact ⟨rfl, HB.out⟩
  · have h30 : (len : Int) + (len1 : Int) ≤ 100 := by omega
    have H30 := Lib.hid h30
    go_enter Tryd.func6, Tryd.ntmps6
    obtain ⟨Wb, hWb⟩ : ∃ Wb, w.alloc (.cells #[.string (str hv.name), .string (str hv.link), .int .u8 (hv.kind.toNat : Int), .int .i64 hv.mode, .int .i64 hv.uid, .int .i64 hv.gid, .int .i64 hv.time, .int .i64 hv.size, .bool hv.gnu] 25) = Wb := ⟨_, rfl⟩
    have HX : Hid (Below w.heap.size w Wb ∧ Blk Wb w.heap.size 25 (headC hv) ∧ Wb.heap.size = w.heap.size + 1) := Lib.hid (by
      rw [← hWb]
      exact ⟨(Below.refl _ w).alloc (Nat.le_refl _) _, Blk.new w 25 (headC hv), by simp⟩)
    have HRA2 := Lib.hid (HRA.out.below HX.out.1)
    have HRC2 := Lib.hid (HRC.out.below HX.out.1)
    have HWB := Lib.hid hWb
    clear hWb HRA HRC
    go_upto_region 3 with fail
    rw [HWB.out]
    clear HWB
    have H0 := Lib.hid (StO.new (Below.refl _ Wb))
    obtain ⟨W0, hW0⟩ : ∃ W0, Wb.alloc (.cells #[.map none] 31) = W0 := ⟨_, rfl⟩
    have HW0 := Lib.hid hW0
    rw [hW0] at H0
    clear hW0
    go_upto_region 4 with fail
    rw [HW0.out]
    clear HW0
    go_wp2_with (at_builtin; refine append_recs rfl _ _ 27 rfl W0.heap.size 43 i0 (.agg #[.string ⟨#[]⟩, .string ⟨#[]⟩]) Tryd.underlying27 HI.out HZ0.out HZ1.out HZ2.out rfl _ 0 [] rfl (World.ownsRow_made W0 #[] 0 (Nat.le_refl _) (by decide) rfl) a len cap rs rfl ((HRA2.out.below H0.out.2.2.2).below ((Below.refl _ _).alloc (Nat.le_refl _) _)) (by have := H30.out; omega) (by simp) ?_)
    intro v4 w4 hown4 hgrow4
    have HG4 : Hid (Below W0.heap.size W0 w4) := Lib.hid ((((Below.refl W0.heap.size W0).alloc (Nat.le_refl _) _)).grown hgrow4 (by simp) (by intro k hk; simp [Value.ownBlock] at hk; omega))
    have hown4' : w4.ownsRow W0.heap.size 43 2 v4 rs.length (flatR rs) := by rw [HLA.out]; simpa using hown4
    obtain ⟨p4, c4, hv4, _, _, hr4⟩ := recs_own hown4'
    rw [HLA.out] at hr4 hv4
    have ho4 : OverR Wb w4 p4 len := by
      rcases hown4'.2 with ⟨_, h0⟩ | ⟨gb, cap4, cur, he, hge, hheap, hle, _, hsz, _⟩
      · exact .inl (by rw [← HLA.out]; exact h0)
      · refine .inr ⟨gb, cur, ?_, hheap, by rw [HLA.out] at hle; omega, Nat.le_trans H0.out.2.2.2.size hge⟩
        rw [hv4] at he
        injection he
    subst hv4
    have HR4 := Lib.hid hr4
    have H4 := Lib.hid (And.intro (H0.out.below HG4.out) ho4)
    clear hown4 hown4' hgrow4 hr4 ho4 HG4 H0
    obtain ⟨c0, c1, c2, c3, c4', c5, c6, c7, c8⟩ := head9 (HX.out.2.1.below H4.out.1.2.2.2 HX.out.2.1.lt)
    clear c0 c1 c2 c3 c4' c5 c6 c7 c8
    go_wp2_with fail
    refine (show Calls _ _ _ _ (GlobPost _ Wb.heap.size none noneF rs) from global_any _ _ _ _ _ _ _ _ H4.out.1.1 (by omega) HR4.out).mono ?_
    intro e w5 hp
    obtain ⟨rfl, B, hs5, hk5⟩ := H4.out.1.global hp
    rw [moreF_none] at hs5
    have ho5 := H4.out.2.keptS hk5 (fun gb cur hb => off_cell H4.out.1.1 hb (blk_ne hb H4.out.1.1.1 (by decide)))
    have H5 := Lib.hid (And.intro hs5 ho5)
    clear hp hs5 hk5 ho5 H4 HR4
    obtain ⟨c0, c1, c2, c3, c4', c5, c6, c7, c8⟩ := head9 (HX.out.2.1.below H5.out.1.2.2.2 HX.out.2.1.lt)
    go_wp2_with fail
    refine (apply_any _ _ hv none 0 0 [] _ H5.out.1.ptr (by omega) (recs_nil _ _) HL1.out).mono ?_
    rintro e w6 ⟨rfl, hb⟩
    obtain ⟨X, hX⟩ : ∃ X, applyD (lastD rs) [] hv = X := ⟨_, rfl⟩
    have HXX := Lib.hid hX
    rw [hX, headA_eq]
    have hb6 := hb.alloc hb.size (.cells (headC X.1) 25)
    have H6 : Hid (StO Wb (w6.alloc (.cells (headC X.1) 25)) Wb.heap.size (some B) (lastD rs) ∧ OverR Wb (w6.alloc (.cells (headC X.1) 25)) p4 len ∧ Blk (w6.alloc (.cells (headC X.1) 25)) w6.heap.size 25 (headC X.1) ∧ Wb.heap.size ≤ w6.heap.size) := Lib.hid ⟨H5.out.1.below hb6, H5.out.2.below hb6, Blk.new _ _ _, Nat.le_trans H5.out.1.2.2.2.size hb.size⟩
    clear c0 c1 c2 c3 c4' c5 c6 c7 c8 hX hb hb6 H5
    obtain ⟨W6, hW6⟩ : ∃ W6, w6.alloc (.cells (headC X.1) 25) = W6 := ⟨_, rfl⟩
    obtain ⟨g9, hg9⟩ : ∃ g9, w6.heap.size = g9 := ⟨_, rfl⟩
    rw [hW6, hg9] at H6
    have HW6 := Lib.hid (And.intro hW6 hg9)
    clear hW6 hg9
    go_wp2_with fail
    simp only [headC] at HW6
    rw [HW6.out.1, HW6.out.2]
    clear HW6
    go_loopw [11] (fun i wr => ∃ (j : Nat), j ≤ len ∧ i = .int .i64 (j : Int) ∧ Hid (StO Wb wr Wb.heap.size (some B) (lastD rs) ∧ OverR Wb wr p4 len ∧ Blk wr g9 25 (headC X.1) ∧ Wb.heap.size ≤ g9)) (fun i _ => len - (RowKit.intOf i).toNat)
    case atStart => exact ⟨0, Nat.zero_le _, rfl, H6⟩
    case round =>
      obtain ⟨j, hj, rfl, hI⟩ := hrel
      by_cases hlt : j < len
      · have hltz : (j : Int) < (len : Int) := by omega
        obtain ⟨gb, cur, rfl, hcb, hcn, hge⟩ : ∃ gb cur, p4 = some ⟨gb, 0, none⟩ ∧ Blk wr gb 43 cur ∧ 2 * len ≤ cur.size ∧ Wb.heap.size ≤ gb := by
          rcases hI.out.2.1 with h | h
          · omega
          · exact h
        obtain ⟨x0, hx0⟩ : ∃ x, wr.cell? ⟨gb, j * 2, none⟩ = some x := ⟨_, by rw [hcb.cell, Array.getElem?_eq_getElem (show j * 2 < cur.size by omega)]⟩
        obtain ⟨x1, hx1⟩ : ∃ x, wr.cell? ⟨gb, j * 2 + 1, none⟩ = some x := ⟨_, by rw [hcb.cell, Array.getElem?_eq_getElem (show j * 2 + 1 < cur.size by omega)]⟩
        have f0 := hcb.frozen (j * 2)
        have f1 := hcb.frozen (j * 2 + 1)
        have HN : Hid (StO Wb ((wr.setCell ⟨gb, j * 2, none⟩ (.string ⟨#[112, 97, 116, 104]⟩)).setCell ⟨gb, j * 2 + 1, none⟩ (.string ⟨#[116, 117, 114, 110, 101, 100]⟩)) Wb.heap.size (some B) (lastD rs) ∧ OverR Wb ((wr.setCell ⟨gb, j * 2, none⟩ (.string ⟨#[112, 97, 116, 104]⟩)).setCell ⟨gb, j * 2 + 1, none⟩ (.string ⟨#[116, 117, 114, 110, 101, 100]⟩)) (some ⟨gb, 0, none⟩) len ∧ Blk ((wr.setCell ⟨gb, j * 2, none⟩ (.string ⟨#[112, 97, 116, 104]⟩)).setCell ⟨gb, j * 2 + 1, none⟩ (.string ⟨#[116, 117, 114, 110, 101, 100]⟩)) g9 25 (headC X.1) ∧ Wb.heap.size ≤ g9) := Lib.hid (by
          obtain ⟨hst, _, hbx, h9⟩ := hI.out
          have hk : Kept (oneB gb) wr ((wr.setCell ⟨gb, j * 2, none⟩ (.string ⟨#[112, 97, 116, 104]⟩)).setCell ⟨gb, j * 2 + 1, none⟩ (.string ⟨#[116, 117, 114, 110, 101, 100]⟩)) := ((Kept.refl (oneB gb) wr).setCell (a := ⟨gb, j * 2, none⟩) (.inr rfl) _).setCell (a := ⟨gb, j * 2 + 1, none⟩) (.inr rfl) _
          refine ⟨⟨hst.1.kept hk (fun k hk hh => ?_), hst.2.1, hst.2.2.1, hst.2.2.2.trans (hk.below hst.2.2.2.size (fun k hk => by rw [show k = gb from hk]; exact hge))⟩, .inr ⟨gb, _, rfl, (hcb.set (j * 2) _ (by omega)).set (j * 2 + 1) _ (by rw [Array.size_set]; omega), by rw [Array.size_set, Array.size_set]; exact hcn, hge⟩, hbx.keptS hk (fun e => blk_ne hbx hcb (by decide) e), h9⟩
          rw [show k = gb from hh] at hk
          exact off_cell hst.1 hcb (blk_ne hcb hst.1.1 (by decide)) hk)
        clear hcb hcn hge
        go_wp2
        go_roundw
        case rel => exact ⟨j + 1, by omega, by go_num, HN⟩
        case measure => simp [RowKit.intOf]; omega
      · obtain rfl : j = len := by omega
        have hltz : ¬ ((j : Int) < (j : Int)) := by omega
        obtain ⟨hst, -, hbx, h9⟩ := hI.out
        have H7 := Lib.hid (And.intro hst hbx)
        obtain ⟨c0, c1, c2, c3, c4', c5, c6, c7, c8⟩ := head9 (HX.out.2.1.below hst.2.2.2 HX.out.2.1.lt)
        clear hst hbx hI
        go_wp2_with fail
        refine (apply_any _ _ hv a1 len1 cap1 own _ H7.out.1.ptr (by omega) (HRC2.out.below H7.out.1.2.2.2) HL2.out).mono ?_
        rintro e w8 ⟨rfl, hb⟩
        have H8 := Lib.hid (And.intro (H7.out.1.below hb) (H7.out.2.below hb H7.out.2.lt))
        clear c0 c1 c2 c3 c4' c5 c6 c7 c8 hb H7
        obtain ⟨c0, c1, c2, c3, c4', c5, c6, c7, c8⟩ := head9 (HX.out.2.1.below H8.out.1.2.2.2 HX.out.2.1.lt)
        go_wp2_with fail
        refine (apply_any _ _ hv none 0 0 [] _ H8.out.1.ptr (by omega) (recs_nil _ _) HL1.out).mono ?_
        rintro e w9 ⟨rfl, hb⟩
        rw [HXX.out, headA_eq]
        have hb9 := hb.alloc hb.size (.cells (headC X.1) 25)
        have hbx := H8.out.2.below hb9 H8.out.2.lt
        have hby := Blk.new w9 25 (headC X.1)
        have hbb : Below Wb.heap.size Wb (w9.alloc (.cells (headC X.1) 25)) := H8.out.1.2.2.2.trans (hb9.mono H8.out.1.2.2.2.size)
        clear c0 c1 c2 c3 c4' c5 c6 c7 c8 hb hb9 H8
        simp only [headC] at hbx hby hbb
        have H9 := Lib.hid (And.intro hbb (And.intro hbx hby))
        clear hbx hby hbb
        obtain ⟨c0, c1, c2, c3, c4', c5, c6, c7, c8⟩ := head9 (HX.out.2.1.below H9.out.1 HX.out.2.1.lt)
        go_wp2_with fail
        refine (apply_any none noneF hv a1 len1 cap1 own _ (StP.nil _) (by omega) (HRC2.out.below H9.out.1) HL3.out).mono ?_
        rintro e w10 ⟨rfl, hb⟩
        obtain ⟨Y, hY⟩ : ∃ Y, applyD noneF own hv = Y := ⟨_, rfl⟩
        have HYY := Lib.hid hY
        rw [hY, headA_eq]
        have hb10 := hb.alloc hb.size (.cells (headC Y.1) 25)
        have hbx := H9.out.2.1.below hb10 (Blk.lt H9.out.2.1)
        have hby := H9.out.2.2.below hb10 (Blk.lt H9.out.2.2)
        have hbz := Blk.new w10 25 (headC Y.1)
        have hbb : Below Wb.heap.size Wb (w10.alloc (.cells (headC Y.1) 25)) := H9.out.1.trans (hb10.mono H9.out.1.size)
        clear c0 c1 c2 c3 c4' c5 c6 c7 c8 hb hb10 H9 hY
        simp only [headC] at hbx hby hbz hbb
        have H10 := Lib.hid (And.intro hbb (And.intro hbx (And.intro hby hbz)))
        clear hbx hby hbz hbb
        obtain ⟨c0, c1, c2, c3, c4', c5, c6, c7, c8⟩ := head9 (HX.out.2.1.below H10.out.1 HX.out.2.1.lt)
        go_wp2_with fail
        refine (rapply_any none 0 0 [] a1 len1 cap1 own hv _ (by omega) (by omega) (recs_nil _ _) (HRC2.out.below H10.out.1) HL3.out).mono ?_
        rintro e w11 ⟨rfl, hb⟩
        rw [lastD_nil, HYY.out, headA_eq]
        have hb11 := hb.alloc hb.size (.cells (headC Y.1) 25)
        have hbx := H10.out.2.1.below hb11 (Blk.lt H10.out.2.1)
        have hby := H10.out.2.2.1.below hb11 (Blk.lt H10.out.2.2.1)
        have hbz := H10.out.2.2.2.below hb11 (Blk.lt H10.out.2.2.2)
        have hbu := Blk.new w11 25 (headC Y.1)
        have hbb : Below Wb.heap.size Wb (w11.alloc (.cells (headC Y.1) 25)) := H10.out.1.trans (hb11.mono H10.out.1.size)
        clear c0 c1 c2 c3 c4' c5 c6 c7 c8 hb hb11 H10
        simp only [headC] at hbx hby hbz hbu hbb
        have H11 := Lib.hid (And.intro hbb (And.intro hbx (And.intro hby (And.intro hbz hbu))))
        clear hbx hby hbz hbu hbb
        go_wp2_with fail
        refine (ans07_any _).mono ?_
        rintro e w12 ⟨rfl, hb⟩
        obtain ⟨p0, p1, p2, p3, p4, p5, p6, p7, p8⟩ := head9 (h := X.1) (H11.out.2.1.below hb (Blk.lt H11.out.2.1))
        obtain ⟨q0, q1, q2, q3, q4, q5, q6, q7, q8⟩ := head9 (h := X.1) (H11.out.2.2.1.below hb (Blk.lt H11.out.2.2.1))
        obtain ⟨r0, r1, r2, r3, r4, r5, r6, r7, r8⟩ := head9 (h := Y.1) (H11.out.2.2.2.1.below hb (Blk.lt H11.out.2.2.2.1))
        obtain ⟨s0, s1, s2, s3, s4, s5, s6, s7, s8⟩ := head9 (h := Y.1) (H11.out.2.2.2.2.below hb (Blk.lt H11.out.2.2.2.2))
        have EQ := fun w => eqH_self X.1 w
        have EQ2 := fun w => eqH_self Y.1 w
        have H12 : Hid (Below w.heap.size w w12) := Lib.hid (HX.out.1.trans ((H11.out.1.trans (hb.mono H11.out.1.size)).mono HX.out.1.size))
        clear hb H11
        go_wp2
        go_ret
        exact ⟨by simp, H12.out⟩
end Go.Proofs.YtfmhdkemigpjjaaDoor.Walk
