/- The walk over AttrValues: what counts of any key. -/
import Derived.Test.YtfmhdkemigpjjaaDoorAttrLaws
import Derived.Test.YtfmhdkemigpjjaaDoorAttrRef
namespace Go.Proofs.YtfmhdkemigpjjaaDoor.Walk
open Go.ChangeShapes Go.WideShapes Go.ChangeAt Go.RowKit Go.Shelf Go.Proofs.YtfmhdkemigpjjaaDoor.Base Go.Proofs.YtfmhdkemigpjjaaDoor.Byt Go.Proofs.YtfmhdkemigpjjaaDoor.Txt Go.Proofs.YtfmhdkemigpjjaaDoor.Rec Go.Proofs.YtfmhdkemigpjjaaDoor.Bk Go.Proofs.YtfmhdkemigpjjaaDoor.Attr Go.Lib
set_option linter.unusedVariables false
set_option maxRecDepth 100000

set_option maxHeartbeats 4000000 in
theorem attrValues (a : Option Addr) (len cap : Nat) (rs : List (List UInt8 × List UInt8)) (a1 : Option Addr) (len1 cap1 : Nat) (ss : List (List UInt8 × List UInt8)) (key : ByteArray) (w : World)
    (ra : RecsAt w a len rs) (lc : len ≤ cap) (cm : cap ≤ maxLen) (sz : ∀ r ∈ rs, r.1.length ≤ 140737488351232 ∧ r.2.length ≤ 140737488351232) (b0 : cap * 32 ≤ 140737488351232)
    (ra1 : RecsAt w a1 len1 ss) (lc1 : len1 ≤ cap1) (cm1 : cap1 ≤ maxLen) (sz1 : ∀ r ∈ ss, r.1.length ≤ 140737488351232 ∧ r.2.length ≤ 140737488351232) (b1 : cap1 * 32 ≤ 140737488351232) (bk : key.size ≤ 140737488351232) :
    Calls Tryd.prog 4 #[.slice a len cap, .slice a1 len1 cap1, .string key] w fun e w' => e = .returned (.bool true) ∧ Below w.heap.size w w' := by
  obtain ⟨k, rfl⟩ : ∃ k, key = str k := ⟨_, (str_of key).symm⟩
  have HRA := Lib.hid ra
  have HRB := Lib.hid ra1
  have hl : (len : Int) ≤ 4398046511104 := by omega
  have hl1 : (len1 : Int) ≤ 4398046511104 := by omega
  clear ra ra1 sz sz1 cm cm1 bk
  by_cases hbig : (100 : Int) < (len : Int) + (len1 : Int)
  · go_enter Tryd.func4, Tryd.ntmps4
    go_wp2_with fail
    refine (ans07_any w).mono ?_
    rintro e w1 ⟨rfl, hb⟩
    have HB := Lib.hid hb
    clear hb
    go_wp2
    go_ret
    exact ⟨rfl, HB.out⟩
  · go_enter Tryd.func4, Tryd.ntmps4
    go_wp2_with fail
    have H0 := Lib.hid (StO.new (Below.refl _ w))
    refine (show Calls _ _ _ _ (GlobPost _ w.heap.size none noneF rs) from global_any _ _ _ _ _ _ _ _ H0.out.1 (by omega) (HRA.out.below H0.out.2.2.2)).mono ?_
    intro e w1 hp
    obtain ⟨rfl, B, hs1, -⟩ := H0.out.global hp
    have H1 := Lib.hid hs1
    clear hp hs1 H0
    go_wp2_with fail
    refine (global_nil _ _ _ _).mono ?_
    rintro e w1' ⟨rfl, rfl⟩
    go_wp2_with fail
    refine (ans07_any w1).mono ?_
    rintro e w2 ⟨rfl, hb⟩
    have H2 := Lib.hid (H1.out.below hb)
    clear hb H1
    go_wp2_with fail
    refine (value_any _ _ k a1 len1 cap1 ss _ H2.out.ptr (by omega) (HRB.out.below H2.out.2.2.2)).mono ?_
    rintro e w3 ⟨rfl, hb⟩
    have H3 := Lib.hid (H2.out.below hb)
    clear hb H2
    rw [moreF_none]
    go_wp2_with fail
    refine (rvalue_any a len cap rs a1 len1 cap1 ss k _ (by omega) (by omega) (HRA.out.below H3.out.2.2.2) (HRB.out.below H3.out.2.2.2)).mono ?_
    rintro e w3' ⟨rfl, rfl⟩
    go_wp2_with fail
    refine (value_any none noneF k a1 len1 cap1 ss _ (StP.nil _) (by omega) (HRB.out.below H3.out.2.2.2)).mono ?_
    rintro e w4 ⟨rfl, hb⟩
    have H4 := Lib.hid (H3.out.below hb)
    clear hb H3
    go_wp2_with fail
    refine (rvalue_any none 0 0 [] a1 len1 cap1 ss k _ (by omega) (by omega) (recs_nil _ _) (HRB.out.below H4.out.2.2.2)).mono ?_
    rintro e w4' ⟨rfl, rfl⟩
    rw [lastD_nil]
    go_wp2
    go_ret
    exact ⟨by simp, H4.out.2.2.2⟩
end Go.Proofs.YtfmhdkemigpjjaaDoor.Walk
