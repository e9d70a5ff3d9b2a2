/- The walk over HeadSums: it returns true for every input, and writes nothing that was there. -/
import Derived.Test.YtdnelijkhinpcabDoorHeadPutsWalk
namespace Go.Proofs.YtdnelijkhinpcabDoor.Walk
open Go.ChangeShapes Go.WideShapes Go.ChangeAt Go.RowKit Go.Proofs.YtdnelijkhinpcabDoor.Base Go.Proofs.YtdnelijkhinpcabDoor.Byt Go.Proofs.YtdnelijkhinpcabDoor.Hp Go.Proofs.YtdnelijkhinpcabDoor.Mp Go.Proofs.YtdnelijkhinpcabDoor.Fp Go.Proofs.YtdnelijkhinpcabDoor.Field Go.Proofs.YtdnelijkhinpcabDoor.Head Go.Lib
set_option linter.unusedVariables false
set_option maxRecDepth 100000

theorem wf16 {n : Int} (h : (Lit.int .u16 n).wf = true) : 0 ≤ n ∧ n < 65536 := by
  have h1 : IntKind.u16.min = 0 := rfl
  have h2 : IntKind.u16.max = 65535 := rfl
  simp only [Lit.wf, Bool.and_eq_true, decide_eq_true_eq] at h
  omega
theorem add8 (x : UInt8) (m : Int) (h0 : 0 ≤ m) (h1 : m < 256) : ((x + UInt8.ofNat m.toNat).toNat : Int) = ((x.toNat : Int) + m) % 256 := by
  rw [UInt8.toNat_add, UInt8.toNat_ofNat']
  omega
set_option maxHeartbeats 4000000 in
theorem headSums (h : HeadV) (p m : Int) (w : World) (hwf : ∀ i, (Lit.int .i64 (numH h i)).wf = true) (hnl : h.name.length ≤ 140737488351232) (hll : h.link.length ≤ 140737488351232) (wp : (Lit.int .u16 p).wf = true) (wm : (Lit.int .u8 m).wf = true) :
    Calls Tryd.prog 4 #[.agg (headC h), .int .u16 p, .int .u8 m] w fun e w' => e = .returned (.bool true) ∧ Below w.heap.size w w' := by
  have HB0 : Hid ((w.alloc (.cells (headC h) 25)).heap[w.heap.size]? = some (.cells (headC h) 25 (0, 0))) := Lib.hid (heap_alloc_new _ _)
  have HK0 : Hid (Kept noneB w (w.alloc (.cells (headC h) 25))) := Lib.hid ((Kept.refl _ _).alloc _)
  have l0 := load_head _ _ _ _ _ _ _ _ _ _ _ HB0.out
  have hRP := fun w => (show Calls _ _ _ _ (PutHPost w (putR h)) from rputH_any h hwf hnl hll w)
  have HRP := Lib.hid hRP
  obtain ⟨hp0, hp1⟩ := wf16 wp
  obtain ⟨hm0, hm1⟩ := wf8 wm
  obtain ⟨K, hK⟩ : ∃ K : Nat, p % 512 = (K : Int) := ⟨(p % 512).toNat, by omega⟩
  have hK5 : (K : Int) < 512 := by omega
  unfold headC at l0 HB0 HK0 ⊢
  obtain ⟨n1, hn1⟩ : ∃ n1, (str h.name).size = n1 := ⟨_, rfl⟩
  obtain ⟨n2, hn2⟩ : ∃ n2, (str h.link).size = n2 := ⟨_, rfl⟩
  clear hRP hwf hnl hll wp wm
  by_cases hbig : 1000 < n1
  · go_enter Tryd.func4, Tryd.ntmps4
    go_wp2_with fail
    refine (ans04_any _).mono ?_
    rintro e w1 ⟨rfl, hk1⟩
    go_wp2
    go_ret
    exact ⟨rfl, fin_kept (HK0.out.trans hk1)⟩
  · by_cases hbig2 : 1000 < n2
    · go_enter Tryd.func4, Tryd.ntmps4
      go_wp2_with fail
      refine (ans04_any _).mono ?_
      rintro e w1 ⟨rfl, hk1⟩
      go_wp2
      go_ret
      exact ⟨rfl, fin_kept (HK0.out.trans hk1)⟩
    · go_enter Tryd.func4, Tryd.ntmps4
      go_wp2_with fail
      refine (HRP.out _).mono ?_
      intro e w1 h1
      obtain ⟨hk1, (⟨bs, g, hb, rfl, hR, hg⟩ | ⟨hno, rfl⟩)⟩ := h1
      · have HK1 := Lib.hid (HK0.out.trans hk1)
        have HBS := Lib.hid hb
        have hl : bs.length = 512 := by obtain ⟨p, s, _, _, _, rfl⟩ := putR_some hb; exact blockA_length _
        by_cases hz : m = 0
        · have hzb : (m == 0) = true := by simpa using hz
          clear hk1 hR hg hb l0 hz
          go_wp2_with fail
          refine (ans04_any _).mono ?_
          rintro e w5 ⟨rfl, hk5⟩
          go_wp2
          go_ret
          exact ⟨rfl, fin_kept (HK1.out.trans hk5)⟩
        · have hzb : (m == 0) = false := by simpa using hz
          by_cases hin : 148 ≤ K ∧ K < 156
          · have i1 : (148 : Int) ≤ (K : Int) := by omega
            have i2 : (K : Int) < 156 := by omega
            clear hk1 hR hg hb l0 hz hin
            go_wp2_with fail
            refine (ans04_any _).mono ?_
            rintro e w5 ⟨rfl, hk5⟩
            go_wp2
            go_ret
            exact ⟨rfl, fin_kept (HK1.out.trans hk5)⟩
          · have e1 := hR.cell K (by rw [hl]; omega)
            have f1 := hR.frozen K
            have x0 : (0 : Int) ≤ ((bs.getD K 0).toNat : Int) := by omega
            have x1 : ((bs.getD K 0).toNat : Int) < 256 := by have := (bs.getD K 0).toNat_lt; omega
            obtain ⟨x, hx⟩ : ∃ x, bs.getD K 0 = x := ⟨_, rfl⟩
            have hR2 := hR.set K (x + UInt8.ofNat m.toNat)
            rw [add8 x m hm0 hm1] at hR2
            rw [hx] at e1 x0 x1
            have hne : x + UInt8.ofNat m.toNat ≠ bs.getD K 0 := by
              rw [hx]
              intro e
              have := congrArg (fun z : UInt8 => (z.toNat : Int)) e
              simp only [add8 x m hm0 hm1] at this
              omega
            have HH := Lib.hid (headR_turned hb (k := K) (by omega) hin hne)
            have HL2 : Hid ((bs.set K (x + UInt8.ofNat m.toNat)).length = 512) := Lib.hid (by rw [List.length_set]; exact hl)
            have HR2 := Lib.hid hR2
            have HG := Lib.hid hg
            have HK1a := Lib.hid hk1
            clear hR hg hb l0 hz hx hne hk1 hR2
            by_cases i1 : (148 : Int) ≤ (K : Int)
            · have i2 : ¬ (K : Int) < 156 := by omega
              clear hin
              go_wp2_with fail
              have hb := HR2.out.bat
              rw [HL2.out] at hb
              refine (parseH_any _ 512 512 _ _ HL2.out (Nat.le_refl _) (by decide) hb).mono ?_
              rintro e w3 ⟨rfl, hk3⟩
              rw [HH.out, show headA (zeroH, 3) = .tuple #[.agg #[.string ⟨#[]⟩, .string ⟨#[]⟩, .int .u8 0, .int .i64 0, .int .i64 0, .int .i64 0, .int .i64 0, .int .i64 0, .bool false], .int .i64 3] from rfl]
              have HK3 : Hid (Kept noneB w w3) := Lib.hid ((HK1.out.setCell (a := ⟨g, K, none⟩) (Or.inl (by have := HG.out; rw [World.size_alloc] at this; show w.heap.size ≤ g; omega)) _).trans hk3)
              clear hk3 hb e1 f1
              obtain ⟨w4, hw4⟩ : ∃ w4, w4 = w3.alloc (.cells #[.string ⟨#[]⟩, .string ⟨#[]⟩, .int .u8 0, .int .i64 0, .int .i64 0, .int .i64 0, .int .i64 0, .int .i64 0, .bool false] 25) := ⟨_, rfl⟩
              have HK4 : Hid (Kept noneB w w4) := Lib.hid (by rw [hw4]; exact HK3.out.alloc _)
              go_wp2_with fail
              rw [← hw4]
              clear hw4
              refine (ans04_any _).mono ?_
              rintro e w5 ⟨rfl, hk5⟩
              go_wp2
              go_ret
              exact ⟨rfl, fin_kept (HK4.out.trans hk5)⟩
            · clear hin
              go_wp2_with fail
              have hb := HR2.out.bat
              rw [HL2.out] at hb
              refine (parseH_any _ 512 512 _ _ HL2.out (Nat.le_refl _) (by decide) hb).mono ?_
              rintro e w3 ⟨rfl, hk3⟩
              rw [HH.out, show headA (zeroH, 3) = .tuple #[.agg #[.string ⟨#[]⟩, .string ⟨#[]⟩, .int .u8 0, .int .i64 0, .int .i64 0, .int .i64 0, .int .i64 0, .int .i64 0, .bool false], .int .i64 3] from rfl]
              have HK3 : Hid (Kept noneB w w3) := Lib.hid ((HK1.out.setCell (a := ⟨g, K, none⟩) (Or.inl (by have := HG.out; rw [World.size_alloc] at this; show w.heap.size ≤ g; omega)) _).trans hk3)
              clear hk3 hb e1 f1
              obtain ⟨w4, hw4⟩ : ∃ w4, w4 = w3.alloc (.cells #[.string ⟨#[]⟩, .string ⟨#[]⟩, .int .u8 0, .int .i64 0, .int .i64 0, .int .i64 0, .int .i64 0, .int .i64 0, .bool false] 25) := ⟨_, rfl⟩
              have HK4 : Hid (Kept noneB w w4) := Lib.hid (by rw [hw4]; exact HK3.out.alloc _)
              go_wp2_with fail
              rw [← hw4]
              clear hw4
              refine (ans04_any _).mono ?_
              rintro e w5 ⟨rfl, hk5⟩
              go_wp2
              go_ret
              exact ⟨rfl, fin_kept (HK4.out.trans hk5)⟩
      · have HK1 := Lib.hid (HK0.out.trans hk1)
        clear hk1 hno l0
        go_wp2_with fail
        refine (ans04_any _).mono ?_
        rintro e w5 ⟨rfl, hk5⟩
        go_wp2
        go_ret
        exact ⟨rfl, fin_kept (HK1.out.trans hk5)⟩
end Go.Proofs.YtdnelijkhinpcabDoor.Walk
