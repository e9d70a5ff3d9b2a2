/- The walk over HeadFree: it returns true for every input, and writes nothing that was there. -/
import Derived.Test.YtdnelijkhinpcabDoorHeadSumsWalk
namespace Go.Proofs.YtdnelijkhinpcabDoor.Walk
open Go.ChangeShapes Go.WideShapes Go.ChangeAt Go.RowKit Go.Proofs.YtdnelijkhinpcabDoor.Base Go.Proofs.YtdnelijkhinpcabDoor.Byt Go.Proofs.YtdnelijkhinpcabDoor.Hp Go.Proofs.YtdnelijkhinpcabDoor.Mp Go.Proofs.YtdnelijkhinpcabDoor.Fp Go.Proofs.YtdnelijkhinpcabDoor.Field Go.Proofs.YtdnelijkhinpcabDoor.Head Go.Lib
set_option linter.unusedVariables false
set_option maxRecDepth 100000

def freeN : Nat → Nat
  | 0 => 265 | 1 => 290 | 2 => 296 | 3 => 300 | 4 => 328 | 5 => 329 | 6 => 336 | 7 => 344 | 8 => 500 | _ => 511
theorem freeN_spec {j : Nat} (hj : j < 10) : fld (freeN j) = 11 ∧ freeN j < 512 := by
  rcases (show j = 0 ∨ j = 1 ∨ j = 2 ∨ j = 3 ∨ j = 4 ∨ j = 5 ∨ j = 6 ∨ j = 7 ∨ j = 8 ∨ j = 9 by omega) with rfl | rfl | rfl | rfl | rfl | rfl | rfl | rfl | rfl | rfl <;> decide
theorem freeC_get {j : Nat} (hj : j < 10) : (#[Value.int .i64 265, .int .i64 290, .int .i64 296, .int .i64 300, .int .i64 328, .int .i64 329, .int .i64 336, .int .i64 344, .int .i64 500, .int .i64 511] : Array Value)[j]? = some (.int .i64 (freeN j)) := by
  rcases (show j = 0 ∨ j = 1 ∨ j = 2 ∨ j = 3 ∨ j = 4 ∨ j = 5 ∨ j = 6 ∨ j = 7 ∨ j = 8 ∨ j = 9 by omega) with rfl | rfl | rfl | rfl | rfl | rfl | rfl | rfl | rfl | rfl <;> rfl
set_option maxHeartbeats 4000000 in
theorem headFree (h : HeadV) (p m : Int) (w : World) (hwf : ∀ i, (Lit.int .i64 (numH h i)).wf = true) (hnl : h.name.length ≤ 140737488351232) (hll : h.link.length ≤ 140737488351232) (wp : (Lit.int .u16 p).wf = true) (wm : (Lit.int .u8 m).wf = true) :
    Calls Tryd.prog 5 #[.agg (headC h), .int .u16 p, .int .u8 m] w fun e w' => e = .returned (.bool true) ∧ Below w.heap.size w w' := by
  have HB0 : Hid ((w.alloc (.cells (headC h) 25)).heap[w.heap.size]? = some (.cells (headC h) 25 (0, 0))) := Lib.hid (heap_alloc_new _ _)
  have HK0 : Hid (Kept noneB w (w.alloc (.cells (headC h) 25))) := Lib.hid ((Kept.refl _ _).alloc _)
  have l0 := load_head _ _ _ _ _ _ _ _ _ _ _ HB0.out
  have hRP := fun w => (show Calls _ _ _ _ (PutHPost w (putR h)) from rputH_any h hwf hnl hll w)
  have HRP := Lib.hid hRP
  have EQ := fun w => eqH h h w
  rw [show decide (h = h) = true from decide_eq_true rfl] at EQ
  obtain ⟨hp0, hp1⟩ := wf16 wp
  obtain ⟨hm0, hm1⟩ := wf8 wm
  obtain ⟨J, hJ⟩ : ∃ J : Nat, p % 10 = (J : Int) := ⟨(p % 10).toNat, by omega⟩
  have hJ10 : (J : Int) < 10 := by omega
  unfold headC at EQ l0 HB0 HK0 ⊢
  obtain ⟨n1, hn1⟩ : ∃ n1, (str h.name).size = n1 := ⟨_, rfl⟩
  obtain ⟨n2, hn2⟩ : ∃ n2, (str h.link).size = n2 := ⟨_, rfl⟩
  clear hRP hwf hnl hll wp wm
  by_cases hbig : 1000 < n1
  · go_enter Tryd.func5, Tryd.ntmps5
    go_wp2_with fail
    refine (ans04_any _).mono ?_
    rintro e w1 ⟨rfl, hk1⟩
    go_wp2
    go_ret
    exact ⟨rfl, fin_kept (HK0.out.trans hk1)⟩
  · by_cases hbig2 : 1000 < n2
    · go_enter Tryd.func5, Tryd.ntmps5
      go_wp2_with fail
      refine (ans04_any _).mono ?_
      rintro e w1 ⟨rfl, hk1⟩
      go_wp2
      go_ret
      exact ⟨rfl, fin_kept (HK0.out.trans hk1)⟩
    · go_enter Tryd.func5, Tryd.ntmps5
      go_wp2_with fail
      refine (HRP.out _).mono ?_
      intro e w1 h1
      obtain ⟨hk1, (⟨bs, g, hb, rfl, hR, hg⟩ | ⟨hno, rfl⟩)⟩ := h1
      · have HK1 := Lib.hid (HK0.out.trans hk1)
        have HB1 := Lib.hid (hk1.some_ HB0.out id)
        have hl : bs.length = 512 := by obtain ⟨p, s, _, _, _, rfl⟩ := putR_some hb; exact blockA_length _
        obtain ⟨w2, hw2⟩ : ∃ w2, w2 = w1.alloc (.cells #[.int .i64 265, .int .i64 290, .int .i64 296, .int .i64 300, .int .i64 328, .int .i64 329, .int .i64 336, .int .i64 344, .int .i64 500, .int .i64 511] 3) := ⟨_, rfl⟩
        have hk2 : Kept noneB w1 w2 := by rw [hw2]; exact (Kept.refl _ _).alloc _
        have hfree : w2.heap[w1.heap.size]? = some (.cells #[.int .i64 265, .int .i64 290, .int .i64 296, .int .i64 300, .int .i64 328, .int .i64 329, .int .i64 336, .int .i64 344, .int .i64 500, .int .i64 511] 3 (0, 0)) := by rw [hw2]; exact heap_alloc_new _ _
        have cf := cellsAt hfree J
        rw [freeC_get (by omega)] at cf
        obtain ⟨hf11, hf5⟩ := freeN_spec (j := J) (by omega)
        obtain ⟨F, hF⟩ : ∃ F, F = freeN J := ⟨_, rfl⟩
        rw [← hF] at cf hf11 hf5
        have hF5 : (F : Int) < 512 := by omega
        have hR2 := hR.kept hk2 id
        have e1 := hR2.cell F (by rw [hl]; omega)
        have f1 := hR2.frozen F
        have hR3 := hR2.set F (UInt8.ofNat m.toNat)
        rw [show ((UInt8.ofNat m.toNat).toNat : Int) = m by rw [UInt8.toNat_ofNat']; omega] at hR3
        have HR3 := Lib.hid hR3
        have HL2 : Hid ((bs.set F (UInt8.ofNat m.toNat)).length = 512) := Lib.hid (by rw [List.length_set]; exact hl)
        have HG : Hid (w.heap.size ≤ g) := Lib.hid (by rw [World.size_alloc] at hg; omega)
        have HK2 : Hid (Kept noneB w w2) := Lib.hid (HK1.out.trans hk2)
        have HGB : Hid (w.heap.size ≠ g) := Lib.hid (by rw [World.size_alloc] at hg; omega)
        have HB2 := Lib.hid (hk2.some_ HB1.out id)
        have HFR : Hid (∀ l : List Int, putF (sumTo (bs.set F (UInt8.ofNat m.toNat)) 512 : Nat) 7 = some l → headR (splice (bs.set F (UInt8.ofNat m.toNat)) 148 (bytesOf l)) = (h, 0)) := Lib.hid (fun l hl => headR_free hb (k := F) (by omega) hf11 (UInt8.ofNat m.toNat) (l := l) hl)
        rw [hw2] at cf e1 f1
        clear hk1 hR hg hb l0 hk2 hfree hR2 hR3 hf11 hf5 hl hF
        go_wp2_with fail
        rw [← hw2]
        clear hw2 cf e1 f1
        obtain ⟨bs2, hbs2⟩ : ∃ bs2, bs2 = bs.set F (UInt8.ofNat m.toNat) := ⟨_, rfl⟩
        obtain ⟨w3, hw3⟩ : ∃ w3, w3 = w2.setCell ⟨g, F, none⟩ (.int .u8 m) := ⟨_, rfl⟩
        rw [← hbs2] at HR3 HL2 HFR
        rw [← hw3] at HR3 ⊢
        have HK3 : Hid (Kept (oneB g) w2 w3) := Lib.hid (by rw [hw3]; exact (Kept.refl _ _).setCell (a := ⟨g, F, none⟩) (Or.inr (show oneB g g from rfl)) _)
        clear hbs2 hw3
        have hb3 := HR3.out.bat
        rw [HL2.out] at hb3
        obtain ⟨S, hS⟩ : ∃ S, S = sumTo bs2 512 := ⟨_, rfl⟩
        have hSL := sumTo_le bs2 512
        refine (rsum_any _ 512 512 bs2 w3 (by omega) hb3).mono ?_
        rintro e w3' ⟨rfl, rfl⟩
        rw [← hS] at hSL HFR ⊢
        clear hS hb3
        go_wp2_with fail
        refine (rput_s (S : Int) 7 w3 (WalkArith.wf_i64 (by omega)) (by decide)).mono ?_
        rintro e w4 ⟨v, y, rfl, hp, hk4⟩
        rcases hp with ⟨l, sp, sc, hl, rfl, rfl, hlc, hsrc⟩ | ⟨hl, _, _⟩
        · have HFH := Lib.hid (HFR.out l hl)
          rw [putF_sum (by omega)] at hl
          have hl := Option.some.inj hl
          have hl7 : l.length = 7 := by rw [← hl]; simp [putD_length]
          have HR4 := Lib.hid (HR3.out.kept hk4 id)
          have HK4 : Hid (Kept (oneB g) w2 w4) := Lib.hid (HK3.out.trans (hk4.of_none _))
          have HSRC : Hid (BAt w4 sp (bytesOf l).length (bytesOf l)) := Lib.hid (by rw [bytesOf_length]; exact hsrc)
          have HMN : Hid ((bytesOf l).length = Nat.min 7 364) := Lib.hid (by rw [bytesOf_length, hl7]; rfl)
          have HFIT : Hid (148 + (bytesOf l).length ≤ bs2.length) := Lib.hid (by rw [bytesOf_length, HL2.out, hl7]; omega)
          rw [hl7]
          rw [hl7] at hlc
          clear hl hl7 hsrc hk4
          go_wp2_with (first | (refine wpList_copyB rfl _ _ 27 27 rfl 5 Tryd.underlying27 infoSz (some ⟨g, 148, none⟩) sp 364 364 7 sc rfl rfl g 148 bs2 HR4.out (bytesOf l) HMN.out (fun _ => rfl) HSRC.out HFIT.out ?_; intro w5 hr5 hk5 hs5; have HR5 := Lib.hid hr5.out; have HK5 : Hid (Kept (oneB g) w2 w5) := Lib.hid (HK4.out.trans hk5); clear hr5 hk5 hs5) | fail)
          have HB5 := Lib.hid (HK5.out.some_ HB2.out HGB.out)
          have HK5' : Hid (Kept noneB w w5) := Lib.hid (HK2.out.then HK5.out (fun i hi => Or.inl (by
            have h1 : i = g := hi
            rw [h1]
            exact HG.out)))
          have hb5 := HR5.out.bat
          have hl5 : (splice bs2 148 (bytesOf l)).length = 512 := by rw [length_splice _ _ _ HFIT.out, HL2.out]
          rw [hl5] at hb5
          refine (parseH_any _ 512 512 _ w5 hl5 (Nat.le_refl _) (by decide) hb5).mono ?_
          rintro e w6 ⟨rfl, hk6⟩
          rw [HFH.out]
          unfold headA headC
          have HK6 := Lib.hid (HK5'.out.trans hk6)
          have HB6 := Lib.hid (hk6.some_ HB5.out id)
          clear hk6 hb5 hl5
          obtain ⟨w7, hw7⟩ : ∃ w7, w7 = w6.alloc (.cells #[.string (str h.name), .string (str h.link), .int .u8 (h.kind.toNat : Int), .int .i64 h.mode, .int .i64 h.uid, .int .i64 h.gid, .int .i64 h.time, .int .i64 h.size, .bool h.gnu] 25) := ⟨_, rfl⟩
          obtain ⟨g7, hg7⟩ : ∃ g7, g7 = w6.heap.size := ⟨_, rfl⟩
          have HG7 : Hid (w7.heap[g7]? = some (.cells #[.string (str h.name), .string (str h.link), .int .u8 (h.kind.toNat : Int), .int .i64 h.mode, .int .i64 h.uid, .int .i64 h.gid, .int .i64 h.time, .int .i64 h.size, .bool h.gnu] 25 (0, 0))) := Lib.hid (by rw [hw7, hg7]; exact heap_alloc_new _ _)
          have hk7 : Kept noneB w6 w7 := by rw [hw7]; exact (Kept.refl _ _).alloc _
          have HK7 := Lib.hid (HK6.out.trans hk7)
          have HB7 := Lib.hid (hk7.some_ HB6.out id)
          clear hk7
          go_wp2_with fail
          rw [← hw7, ← hg7]
          clear hw7 hg7
          refine (ans04_any _).mono ?_
          rintro e w8 ⟨rfl, hk8⟩
          have c7 := cellsAt (hk8.some_ HG7.out id)
          have c8 := cellsAt (hk8.some_ HB7.out id)
          go_wp2
          go_ret
          exact ⟨rfl, fin_kept (HK7.out.trans hk8)⟩
        · exfalso
          rw [putF_sum (by omega)] at hl
          cases hl
      · have HK1 := Lib.hid (HK0.out.trans hk1)
        clear hk1 hno l0
        go_wp2_with fail
        refine (ans04_any _).mono ?_
        rintro e w5 ⟨rfl, hk5⟩
        go_wp2
        go_ret
        exact ⟨rfl, fin_kept (HK1.out.trans hk5)⟩
end Go.Proofs.YtdnelijkhinpcabDoor.Walk
