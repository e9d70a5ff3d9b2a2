/- The walk over HeadPuts: it returns true for every input, and writes nothing that was there. -/
import Derived.Test.YtdnelijkhinpcabDoorHeadAns
import Derived.Test.YtdnelijkhinpcabDoorRefPutHead
namespace Go.Proofs.YtdnelijkhinpcabDoor.Walk
open Go.ChangeShapes Go.WideShapes Go.ChangeAt Go.RowKit Go.Proofs.YtdnelijkhinpcabDoor.Base Go.Proofs.YtdnelijkhinpcabDoor.Byt Go.Proofs.YtdnelijkhinpcabDoor.Hp Go.Proofs.YtdnelijkhinpcabDoor.Mp Go.Proofs.YtdnelijkhinpcabDoor.Fp Go.Proofs.YtdnelijkhinpcabDoor.Field Go.Proofs.YtdnelijkhinpcabDoor.Head Go.Lib
set_option linter.unusedVariables false
set_option maxRecDepth 100000

theorem fin_kept {w w' : World} (h : Kept noneB w w') : Below w.heap.size w w' := h.below (Nat.le_refl _) fun _ h => h.elim
set_option maxHeartbeats 4000000 in
theorem headPuts (h : HeadV) (w : World) (hwf : ∀ i, (Lit.int .i64 (numH h i)).wf = true) (hnl : h.name.length ≤ 140737488351232) (hll : h.link.length ≤ 140737488351232) :
    Calls Tryd.prog 3 #[.agg (headC h)] w fun e w' => e = .returned (.bool true) ∧ Below w.heap.size w w' := by
  have HB0 : Hid ((w.alloc (.cells (headC h) 25)).heap[w.heap.size]? = some (.cells (headC h) 25 (0, 0))) := Lib.hid (heap_alloc_new _ _)
  have HK0 : Hid (Kept noneB w (w.alloc (.cells (headC h) 25))) := Lib.hid ((Kept.refl _ _).alloc _)
  have l0 := load_head _ _ _ _ _ _ _ _ _ _ _ HB0.out
  have hPU := fun w => (show Calls _ _ _ _ (PutHPost w (putR h)) from putH_any h hwf hnl hll w)
  have hRP := fun w => (show Calls _ _ _ _ (PutHPost w (putR h)) from rputH_any h hwf hnl hll w)
  have HPU := Lib.hid hPU
  have HRP := Lib.hid hRP
  have EQ := fun w => eqH h h w
  rw [show decide (h = h) = true from decide_eq_true rfl] at EQ
  unfold headC at EQ l0 HB0 HK0 ⊢
  obtain ⟨n1, hn1⟩ : ∃ n1, (str h.name).size = n1 := ⟨_, rfl⟩
  obtain ⟨n2, hn2⟩ : ∃ n2, (str h.link).size = n2 := ⟨_, rfl⟩
  clear hPU hRP hwf hnl hll
  by_cases hbig : 1000 < n1
  · go_enter Tryd.func3, Tryd.ntmps3
    go_wp2_with fail
    refine (ans04_any _).mono ?_
    rintro e w1 ⟨rfl, hk1⟩
    go_wp2
    go_ret
    exact ⟨rfl, fin_kept (HK0.out.trans hk1)⟩
  · by_cases hbig2 : 1000 < n2
    · go_enter Tryd.func3, Tryd.ntmps3
      go_wp2_with fail
      refine (ans04_any _).mono ?_
      rintro e w1 ⟨rfl, hk1⟩
      go_wp2
      go_ret
      exact ⟨rfl, fin_kept (HK0.out.trans hk1)⟩
    · go_enter Tryd.func3, Tryd.ntmps3
      go_wp2_with fail
      refine (HPU.out _).mono ?_
      intro e w1 h1
      obtain ⟨hk1, (⟨bs, g, hb, rfl, hR, hg⟩ | ⟨hno, rfl⟩)⟩ := h1
      · have HB1 := Lib.hid (hk1.some_ HB0.out id)
        have c1 := cellsAt HB1.out
        have HK1 := Lib.hid (HK0.out.trans hk1)
        have HR1 := Lib.hid hR
        have HBS := Lib.hid hb
        clear hk1 hR hg hb l0
        go_wp2_with fail
        refine (HRP.out _).mono ?_
        intro e w2 h2
        obtain ⟨hk2, (⟨bs2, g2, hb2, rfl, hR2, hg2⟩ | ⟨hno, _⟩)⟩ := h2
        case inr => rw [HBS.out] at hno; cases hno
        obtain rfl : bs = bs2 := Option.some.inj (HBS.out.symm.trans hb2)
        have hl : bs.length = 512 := by obtain ⟨p, s, _, _, _, rfl⟩ := putR_some hb2; exact blockA_length _
        have hb1 := (HR1.out.kept hk2 id).bat
        have hb2' := hR2.bat
        rw [hl] at hb1 hb2'
        have cs1 := conv_at hb1 hl _ _ _ Tryd.underlying27 Tryd.underlying5 Tryd.underlying9 512
        have cs2 := conv_at hb2' hl _ _ _ Tryd.underlying27 Tryd.underlying5 Tryd.underlying9 512
        have HBT := Lib.hid hb1
        have HL := Lib.hid hl
        have HH := Lib.hid (headR_put hb2)
        have HK2 := Lib.hid (HK1.out.trans hk2)
        have HB2 := Lib.hid (hk2.some_ HB1.out id)
        have hss : ((⟨bs.toArray⟩ : ByteArray).toList != (⟨bs.toArray⟩ : ByteArray).toList) = false := by simp
        clear hk2 hb2 hR2 hg2 hb1 hb2' hl c1
        go_wp2_with fail
        refine (parseH_any _ 512 512 bs w2 HL.out (Nat.le_refl _) (by decide) HBT.out).mono ?_
        rintro e w3 ⟨rfl, hk3⟩
        rw [HH.out]
        unfold headA headC
        have HK3 := Lib.hid (HK2.out.trans hk3)
        have HB3 := Lib.hid (hk3.some_ HB2.out id)
        clear hk3 cs1 cs2 hss
        obtain ⟨w4, hw4⟩ : ∃ w4, w4 = w3.alloc (.cells #[.string (str h.name), .string (str h.link), .int .u8 (h.kind.toNat : Int), .int .i64 h.mode, .int .i64 h.uid, .int .i64 h.gid, .int .i64 h.time, .int .i64 h.size, .bool h.gnu] 25) := ⟨_, rfl⟩
        obtain ⟨g4, hg4⟩ : ∃ g4, g4 = w3.heap.size := ⟨_, rfl⟩
        have HG4 : Hid (w4.heap[g4]? = some (.cells #[.string (str h.name), .string (str h.link), .int .u8 (h.kind.toNat : Int), .int .i64 h.mode, .int .i64 h.uid, .int .i64 h.gid, .int .i64 h.time, .int .i64 h.size, .bool h.gnu] 25 (0, 0))) := Lib.hid (by rw [hw4, hg4]; exact heap_alloc_new _ _)
        have hk4 : Kept noneB w3 w4 := by rw [hw4]; exact (Kept.refl _ _).alloc _
        have HK4 := Lib.hid (HK3.out.trans hk4)
        have HB4 := Lib.hid (hk4.some_ HB3.out id)
        clear hk4
        go_wp2_with fail
        rw [← hw4, ← hg4]
        clear hw4 hg4
        refine (ans04_any _).mono ?_
        rintro e w5 ⟨rfl, hk5⟩
        have c4 := cellsAt (hk5.some_ HG4.out id)
        have c5 := cellsAt (hk5.some_ HB4.out id)
        go_wp2
        go_ret
        exact ⟨rfl, fin_kept (HK4.out.trans hk5)⟩
      · have HB1 := Lib.hid (hk1.some_ HB0.out id)
        have c1 := cellsAt HB1.out
        have HK1 := Lib.hid (HK0.out.trans hk1)
        have HNO := Lib.hid hno
        clear hk1 hno l0
        go_wp2_with fail
        refine (HRP.out _).mono ?_
        intro e w2 h2
        obtain ⟨hk2, (⟨bs2, g2, hb2, _, hR2, hg2⟩ | ⟨_, rfl⟩)⟩ := h2
        case inl => rw [HNO.out] at hb2; cases hb2
        have cs1 := conv_at (BAt.none_ w2 none) rfl _ _ _ Tryd.underlying27 Tryd.underlying5 Tryd.underlying9 0
        have HK2 := Lib.hid (HK1.out.trans hk2)
        have hss : ((⟨([] : List UInt8).toArray⟩ : ByteArray).toList != (⟨([] : List UInt8).toArray⟩ : ByteArray).toList) = false := by simp
        clear hk2 c1
        go_wp2_with fail
        refine (ans04_any _).mono ?_
        rintro e w5 ⟨rfl, hk5⟩
        go_wp2
        go_ret
        exact ⟨rfl, fin_kept (HK2.out.trans hk5)⟩
end Go.Proofs.YtdnelijkhinpcabDoor.Walk
