/- The walk over AttrLast: a record behind all others counts; empty ones hide the others; other keys change nothing. -/
import Derived.Test.YtfmhdkemigpjjaaDoorAttrLaws
import Derived.Test.YtfmhdkemigpjjaaDoorAttrLastReg
import Derived.Deep.DeepCutAuto
namespace Go.Proofs.YtfmhdkemigpjjaaDoor.Walk
open Go.ChangeShapes Go.WideShapes Go.ChangeAt Go.RowKit Go.Shelf Go.Proofs.YtfmhdkemigpjjaaDoor.Base Go.Proofs.YtfmhdkemigpjjaaDoor.Byt Go.Proofs.YtfmhdkemigpjjaaDoor.Txt Go.Proofs.YtfmhdkemigpjjaaDoor.Rec Go.Proofs.YtfmhdkemigpjjaaDoor.Bk Go.Proofs.YtfmhdkemigpjjaaDoor.Hp Go.Proofs.YtfmhdkemigpjjaaDoor.Head Go.Proofs.YtfmhdkemigpjjaaDoor.Mp Go.Proofs.YtfmhdkemigpjjaaDoor.Attr Go.Lib
set_option linter.unusedVariables false
set_option maxRecDepth 100000

def hidR : RecL := [(keyT 4, []), (keyT 5, []), (keyT 0, []), (keyT 1, []), (keyT 2, []), (keyT 3, [])]
theorem hid_last {i : Nat} (h : i < 6) : lastD hidR (keyT i) = some [] := by
  rcases (show i = 0 ∨ i = 1 ∨ i = 2 ∨ i = 3 ∨ i = 4 ∨ i = 5 by omega) with rfl | rfl | rfl | rfl | rfl | rfl <;> decide
theorem hid_value (F : Glob) (own : RecL) {i : Nat} (h : i < 6) : valueD F (own ++ hidR) (keyT i) = [] := by
  unfold valueD
  rw [lastD_app, hid_last h]
theorem other_value (F : Glob) (own : RecL) (v : List UInt8) {i : Nat} (h : i < 6) : valueD F (own ++ [([99, 111, 109, 109, 101, 110, 116], v)]) (keyT i) = valueD F own (keyT i) := by
  unfold valueD
  rw [lastD_snoc, if_neg]
  rcases (show i = 0 ∨ i = 1 ∨ i = 2 ∨ i = 3 ∨ i = 4 ∨ i = 5 by omega) with rfl | rfl | rfl | rfl | rfl | rfl <;> (show ¬ ([99, 111, 109, 109, 101, 110, 116] : List UInt8) = _; decide)
theorem last_value (F : Glob) (own : RecL) (k v : List UInt8) : valueD F (own ++ [(k, v)]) k = v := by
  unfold valueD
  rw [lastD_snoc, if_pos rfl]
theorem recs_hid (w : World) : RecsAt (w.alloc (.cells #[.string ⟨#[112, 97, 116, 104]⟩, .string ⟨#[]⟩, .string ⟨#[108, 105, 110, 107, 112, 97, 116, 104]⟩, .string ⟨#[]⟩, .string ⟨#[117, 105, 100]⟩, .string ⟨#[]⟩, .string ⟨#[103, 105, 100]⟩, .string ⟨#[]⟩, .string ⟨#[109, 116, 105, 109, 101]⟩, .string ⟨#[]⟩, .string ⟨#[115, 105, 122, 101]⟩, .string ⟨#[]⟩] 43)) (some ⟨w.heap.size, 0, none⟩) 6 hidR := by
  refine ⟨rfl, fun _ => ⟨w.heap.size, 0, rfl, by simp, fun i hi => ?_⟩⟩
  have hb := Blk.new w 43 #[.string ⟨#[112, 97, 116, 104]⟩, .string ⟨#[]⟩, .string ⟨#[108, 105, 110, 107, 112, 97, 116, 104]⟩, .string ⟨#[]⟩, .string ⟨#[117, 105, 100]⟩, .string ⟨#[]⟩, .string ⟨#[103, 105, 100]⟩, .string ⟨#[]⟩, .string ⟨#[109, 116, 105, 109, 101]⟩, .string ⟨#[]⟩, .string ⟨#[115, 105, 122, 101]⟩, .string ⟨#[]⟩]
  rw [Nat.zero_add]
  rcases (show i = 0 ∨ i = 1 ∨ i = 2 ∨ i = 3 ∨ i = 4 ∨ i = 5 by omega) with rfl | rfl | rfl | rfl | rfl | rfl
  · exact ⟨hb.cell 0, hb.cell 1⟩
  · exact ⟨hb.cell 2, hb.cell 3⟩
  · exact ⟨hb.cell 4, hb.cell 5⟩
  · exact ⟨hb.cell 6, hb.cell 7⟩
  · exact ⟨hb.cell 8, hb.cell 9⟩
  · exact ⟨hb.cell 10, hb.cell 11⟩
set_option maxHeartbeats 8000000 in
theorem attrLast (hv : HeadV) (a : Option Addr) (len cap : Nat) (rs : List (List UInt8 × List UInt8)) (a1 : Option Addr) (len1 cap1 : Nat) (own : List (List UInt8 × List UInt8)) (key value : ByteArray) (w : World)
    (wf0 : ∀ i, (Lit.int .i64 (numH hv i)).wf = true) (nl0 : hv.name.length ≤ 140737488351232) (ll0 : hv.link.length ≤ 140737488351232)
    (ra : RecsAt w a len rs) (lc : len ≤ cap) (cm : cap ≤ maxLen) (sz : ∀ r ∈ rs, r.1.length ≤ 140737488351232 ∧ r.2.length ≤ 140737488351232) (b0 : cap * 32 ≤ 140737488351232)
    (ra1 : RecsAt w a1 len1 own) (lc1 : len1 ≤ cap1) (cm1 : cap1 ≤ maxLen) (sz1 : ∀ r ∈ own, r.1.length ≤ 140737488351232 ∧ r.2.length ≤ 140737488351232) (b1 : cap1 * 32 ≤ 140737488351232)
    (bk : key.size ≤ 140737488351232) (bv : value.size ≤ 140737488351232) :
    Calls Tryd.prog 5 #[.agg (headC hv), .slice a len cap, .slice a1 len1 cap1, .string key, .string value] w fun e w' => e = .returned (.bool true) ∧ Below w.heap.size w w' := by
  obtain ⟨k, rfl⟩ : ∃ k, key = str k := ⟨_, (str_of key).symm⟩
  obtain ⟨v, rfl⟩ : ∃ v, value = str v := ⟨_, (str_of value).symm⟩
  have hL1 : ∀ i, i < 6 → (valueD (lastD rs) own (keyT i)).length ≤ 140737488351232 := fun i _ => valueD_len (fun r hr => (sz r hr).2) (fun r hr => (sz1 r hr).2)
  have HL2 : Hid (∀ i, i < 6 → (valueD (lastD rs) (own ++ [([99, 111, 109, 109, 101, 110, 116], v)]) (keyT i)).length ≤ 140737488351232) := Lib.hid (fun i hi => by rw [other_value _ _ _ hi]; exact hL1 i hi)
  have HL3 : Hid (∀ i, i < 6 → (valueD (lastD rs) (own ++ hidR) (keyT i)).length ≤ 140737488351232) := Lib.hid (fun i hi => by rw [hid_value _ _ hi]; simp)
  have HL1 := Lib.hid hL1
  have HRA := Lib.hid ra
  have HRC := Lib.hid ra1
  have HLC := Lib.hid ra1.1
  have hl : (len : Int) ≤ 4398046511104 := by omega
  have hl1 : (len1 : Int) ≤ 4398046511104 := by omega
  obtain ⟨i0, hi0, hz0, hz1, hz2⟩ := info_parts infoRec
  have HI := Lib.hid hi0
  have HZ0 := Lib.hid hz0
  have HZ1 := Lib.hid hz1
  have HZ2 := Lib.hid hz2
  clear ra ra1 sz sz1 cm cm1 hi0 hz0 hz1 hz2 wf0 nl0 ll0 hL1 bk bv
  simp only [headC]
  by_cases hbig : (100 : Int) < (len : Int) + (len1 : Int)
  · go_enter Tryd.func5, Tryd.ntmps5
    go_wp2_with fail
    refine (ans07_any _).mono ?_
    rintro e w1 ⟨rfl, hb⟩
    have HB : Hid (Below w.heap.size w w1) := Lib.hid (((Below.refl _ w).alloc (Nat.le_refl _) _).trans (hb.mono (by simp)))
    clear hb
    go_wp2
    go_ret
    exact ⟨rfl, HB.out⟩
  · have h30 : (len : Int) + (len1 : Int) ≤ 100 := by omega
    have H30 := Lib.hid h30
    go_enter Tryd.func5, Tryd.ntmps5
    obtain ⟨Wb, hWb⟩ : ∃ Wb, w.alloc (.cells #[.string (str hv.name), .string (str hv.link), .int .u8 (hv.kind.toNat : Int), .int .i64 hv.mode, .int .i64 hv.uid, .int .i64 hv.gid, .int .i64 hv.time, .int .i64 hv.size, .bool hv.gnu] 25) = Wb := ⟨_, rfl⟩
    have HX : Hid (Below w.heap.size w Wb ∧ Blk Wb w.heap.size 25 (headC hv) ∧ Wb.heap.size = w.heap.size + 1) := Lib.hid (by
      rw [← hWb]
      exact ⟨(Below.refl _ w).alloc (Nat.le_refl _) _, Blk.new w 25 (headC hv), by simp⟩)
    have HRA2 := Lib.hid (HRA.out.below HX.out.1)
    have HRC2 := Lib.hid (HRC.out.below HX.out.1)
    have HWB := Lib.hid hWb
    clear hWb HRA HRC
    go_upto_region 3 with fail
    rw [HWB.out]
    clear HWB
    have H0 := Lib.hid (StO.new (Below.refl _ Wb))
    go_wp2_with fail
    refine (show Calls _ _ _ _ (GlobPost _ Wb.heap.size none noneF rs) from global_any _ _ _ _ _ _ _ _ H0.out.1 (by omega) (HRA2.out.below H0.out.2.2.2)).mono ?_
    intro e w5 hp
    obtain ⟨rfl, B, hs5, -⟩ := H0.out.global hp
    rw [moreF_none] at hs5
    have H5 := Lib.hid hs5
    clear hp hs5 H0
    obtain ⟨c0, c1, c2, c3, c4, c5, c6, c7, c8⟩ := head9 (HX.out.2.1.below H5.out.2.2.2 HX.out.2.1.lt)
    go_wp2_with fail
    refine (apply_any _ _ hv a1 len1 cap1 own _ H5.out.ptr (by omega) (HRC2.out.below H5.out.2.2.2) HL1.out).mono ?_
    rintro e w6 ⟨rfl, hb⟩
    obtain ⟨X, hX⟩ : ∃ X, applyD (lastD rs) own hv = X := ⟨_, rfl⟩
    have HXX := Lib.hid hX
    rw [hX, headA_eq]
    have hb6 := hb.alloc hb.size (.cells (headC X.1) 25)
    obtain ⟨W6, hW6⟩ : ∃ W6, w6.alloc (.cells (headC X.1) 25) = W6 := ⟨_, rfl⟩
    obtain ⟨g6, hg6⟩ : ∃ g6, w6.heap.size = g6 := ⟨_, rfl⟩
    have H6 : Hid (StO Wb W6 Wb.heap.size (some B) (lastD rs) ∧ Blk W6 g6 25 (headC X.1)) := Lib.hid (by
      rw [← hW6, ← hg6]
      exact ⟨H5.out.below hb6, Blk.new _ _ _⟩)
    have HW6 := Lib.hid (And.intro hW6 hg6)
    clear c0 c1 c2 c3 c4 c5 c6 c7 c8 hX hb hb6 H5 hW6 hg6
    go_wp2_with fail
    simp only [headC] at HW6
    rw [HW6.out.1, HW6.out.2]
    clear HW6
    refine wp_region_any (by kernel_rfl) (last6_region (w3 := W6) Wb.heap.size w.heap.size hv a1 len1 cap1 own v X (show 103 ≤ 103 from Nat.le_refl 103) rfl rfl (HX.out.2.1.below H6.out.1.2.2.2 HX.out.2.1.lt) rfl (HRC2.out.below H6.out.1.2.2.2) (by have := H30.out; omega) rfl (fun wi p c hbi hri => by
      have hh := apply_any _ _ hv p (len1 + 1) c (own ++ [([99, 111, 109, 109, 101, 110, 116], v)]) wi (H6.out.1.below hbi).ptr (by have := H30.out; omega) hri HL2.out
      rw [applyD_congr hv (fun i hi => other_value (lastD rs) own v hi), HXX.out] at hh
      exact hh) ?_)
    intro γ w7 hb7 hge7 hbx7
    have H7 : Hid (StO Wb w7 Wb.heap.size (some B) (lastD rs) ∧ Blk w7 g6 25 (headC X.1) ∧ Blk w7 γ.bx 25 (headC X.1)) := Lib.hid ⟨H6.out.1.below hb7, H6.out.2.below hb7 H6.out.2.lt, hbx7⟩
    clear hb7 hge7 hbx7 H6
    simp only [Exit.then]
    apply_assumption
    go_wp2_with fail
    have hba : Below w7.heap.size w7 (w7.alloc (.cells #[.string ⟨#[112, 97, 116, 104]⟩, .string ⟨#[]⟩, .string ⟨#[108, 105, 110, 107, 112, 97, 116, 104]⟩, .string ⟨#[]⟩, .string ⟨#[117, 105, 100]⟩, .string ⟨#[]⟩, .string ⟨#[103, 105, 100]⟩, .string ⟨#[]⟩, .string ⟨#[109, 116, 105, 109, 101]⟩, .string ⟨#[]⟩, .string ⟨#[115, 105, 122, 101]⟩, .string ⟨#[]⟩] 43)) := (Below.refl _ _).alloc (Nat.le_refl _) _
    have hrh := recs_hid w7
    obtain ⟨W8, hW8⟩ : ∃ W8, w7.alloc (.cells #[.string ⟨#[112, 97, 116, 104]⟩, .string ⟨#[]⟩, .string ⟨#[108, 105, 110, 107, 112, 97, 116, 104]⟩, .string ⟨#[]⟩, .string ⟨#[117, 105, 100]⟩, .string ⟨#[]⟩, .string ⟨#[103, 105, 100]⟩, .string ⟨#[]⟩, .string ⟨#[109, 116, 105, 109, 101]⟩, .string ⟨#[]⟩, .string ⟨#[115, 105, 122, 101]⟩, .string ⟨#[]⟩] 43) = W8 := ⟨_, rfl⟩
    rw [hW8] at hba hrh ⊢
    have H8 : Hid (StO Wb W8 Wb.heap.size (some B) (lastD rs) ∧ Blk W8 g6 25 (headC X.1) ∧ Blk W8 γ.bx 25 (headC X.1)) := Lib.hid ⟨H7.out.1.below hba, H7.out.2.1.below hba H7.out.2.1.lt, H7.out.2.2.below hba H7.out.2.2.lt⟩
    have HRH := Lib.hid hrh
    clear hba hrh hW8 H7
    refine wp_region_any (by kernel_rfl) (last8_region (w3 := W8) Wb.heap.size w.heap.size hv a1 len1 cap1 own _ 6 hidR (hv, 0) (show 103 ≤ 103 from Nat.le_refl 103) rfl rfl (HX.out.2.1.below H8.out.1.2.2.2 HX.out.2.1.lt) rfl (HRC2.out.below H8.out.1.2.2.2) (by have := H30.out; omega) rfl HRH.out (fun wi p c hbi hri => by
      have hh := apply_any _ _ hv p (len1 + 6) c (own ++ hidR) wi (H8.out.1.below hbi).ptr (by have := H30.out; omega) hri HL3.out
      rw [applyD_empty hv (fun i hi => hid_value (lastD rs) own hi)] at hh
      exact hh) ?_)
    intro δ w9 hb9 hge9 hbx9
    have H9 : Hid (StO Wb w9 Wb.heap.size (some B) (lastD rs) ∧ Blk w9 g6 25 (headC X.1) ∧ Blk w9 γ.bx 25 (headC X.1) ∧ Blk w9 δ.bx 25 (headC hv)) := Lib.hid ⟨H8.out.1.below hb9, H8.out.2.1.below hb9 H8.out.2.1.lt, H8.out.2.2.below hb9 H8.out.2.2.lt, hbx9⟩
    clear hb9 hge9 hbx9 H8 HRH
    simp only [Exit.then]
    apply_assumption
    go_wp2_with fail
    refine (ans07_any _).mono ?_
    rintro e w10 ⟨rfl, hb⟩
    have H10 := Lib.hid (H9.out.1.below hb)
    obtain ⟨p0, p1, p2, p3, p4, p5, p6, p7, p8⟩ := head9 (h := X.1) (H9.out.2.1.below hb H9.out.2.1.lt)
    obtain ⟨q0, q1, q2, q3, q4, q5, q6, q7, q8⟩ := head9 (h := X.1) (H9.out.2.2.1.below hb H9.out.2.2.1.lt)
    obtain ⟨r0, r1, r2, r3, r4, r5, r6, r7, r8⟩ := head9 (h := hv) (H9.out.2.2.2.below hb H9.out.2.2.2.lt)
    obtain ⟨c0, c1, c2, c3, c4, c5, c6, c7, c8⟩ := head9 (h := hv) (HX.out.2.1.below H10.out.2.2.2 HX.out.2.1.lt)
    have EQ := fun w => eqH_self X.1 w
    have EQ2 := fun w => eqH_self hv w
    clear hb H9
    go_wp2_with (at_builtin; refine append_recs_g rfl _ _ rfl _ rfl a1 len1 cap1 rfl w10.heap.size 0 [] (World.ownsRow_made w10 #[] 0 (Nat.le_refl _) (by decide) rfl) own ((HRC2.out.below H10.out.2.2.2).below ((Below.refl _ _).alloc (Nat.le_refl _) _)) (by have := H30.out; omega) (by simp) ?_)
    intro v4 w11 hown4 hgrow4
    have HG4 : Hid (Below w10.heap.size w10 w11) := Lib.hid ((((Below.refl w10.heap.size w10).alloc (Nat.le_refl _) _)).grown hgrow4 (by simp) (by intro k hk; simp [Value.ownBlock] at hk; omega))
    have HO4 : Hid (w11.ownsRow w10.heap.size 43 2 v4 len1 (flatR own)) := Lib.hid (by simpa using hown4)
    clear hown4 hgrow4 p0 p1 p2 p3 p4 p5 p6 p7 p8 q0 q1 q2 q3 q4 q5 q6 q7 q8 r0 r1 r2 r3 r4 r5 r6 r7 r8 c0 c1 c2 c3 c4 c5 c6 c7 c8 EQ EQ2
    have HBA : Hid (Below w11.heap.size w11 (w11.alloc (.cells #[.string (str k), .string (str v)] 43))) := Lib.hid ((Below.refl _ _).alloc (Nat.le_refl _) _)
    go_wp2_with (at_builtin; refine append_recs_g rfl _ _ rfl _ rfl (some ⟨w11.heap.size, 0, none⟩) 1 1 rfl w10.heap.size len1 own (own_below HO4.out HBA.out) [(k, v)] (recs_one w11 k v) (by have := H30.out; omega) (Nat.le_trans HG4.out.size HBA.out.size) ?_)
    intro v5 w12 hown5 hgrow5
    have HG5 : Hid (Below w10.heap.size w10 w12) := Lib.hid (below_own (HG4.out.trans (HBA.out.mono HG4.out.size)) (own_below HO4.out HBA.out) (Nat.le_refl _) hgrow5)
    have hlen : (own ++ [(k, v)]).length = len1 + 1 := by rw [List.length_append, HLC.out]; rfl
    rw [← hlen] at hown5
    obtain ⟨p6, c6, rfl, _, _, hr6⟩ := recs_own hown5
    rw [hlen] at hr6
    rw [hlen]
    have HR6 := Lib.hid hr6
    have H12 := Lib.hid (H10.out.below HG5.out)
    clear hown5 hgrow5 hr6 hlen HG5 HG4 HO4 HBA H10
    go_wp2_with fail
    refine (value_any _ _ k p6 (len1 + 1) c6 (own ++ [(k, v)]) _ H12.out.ptr (by have := H30.out; omega) HR6.out).mono ?_
    rintro e w13 ⟨rfl, hb⟩
    rw [last_value]
    have H13 : Hid (Below w.heap.size w w13) := Lib.hid (HX.out.1.trans ((H12.out.2.2.2.trans (hb.mono H12.out.2.2.2.size)).mono HX.out.1.size))
    clear hb H12 HR6
    go_wp2
    go_ret
    exact ⟨by simp, H13.out⟩
end Go.Proofs.YtfmhdkemigpjjaaDoor.Walk
