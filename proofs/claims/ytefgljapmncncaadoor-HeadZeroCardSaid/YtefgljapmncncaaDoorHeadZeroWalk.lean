/- The walk over HeadZero: it returns true for every input, and writes nothing that was there. -/
import Derived.Test.YtefgljapmncncaaDoorHeadAns
namespace Go.Proofs.YtefgljapmncncaaDoor.Walk
open Go.ChangeShapes Go.WideShapes Go.ChangeAt Go.RowKit Go.Proofs.YtefgljapmncncaaDoor.Base Go.Proofs.YtefgljapmncncaaDoor.Byt Go.Proofs.YtefgljapmncncaaDoor.Hp Go.Proofs.YtefgljapmncncaaDoor.Mp Go.Proofs.YtefgljapmncncaaDoor.Fp Go.Proofs.YtefgljapmncncaaDoor.Field Go.Proofs.YtefgljapmncncaaDoor.Head Go.Lib
set_option linter.unusedVariables false
set_option maxRecDepth 100000

theorem rep_zero (n i : Nat) : (List.replicate n (0 : UInt8)).getD i 0 = 0 := by
  simp only [List.getD, List.getElem?_replicate]
  split <;> rfl
set_option maxHeartbeats 2000000 in
theorem headZero (a : Option Addr) (len cap : Nat) (zs : List Int) (at_ by_ : Int) (w : World) (w0 : IsRow .u8 w a len cap zs) (b0 : cap * 1 ≤ 140737488351232) (w1 : (Lit.int .u16 at_).wf = true) (w2 : (Lit.int .u8 by_).wf = true) :
    Calls Tryd.prog 7 #[.slice a len cap, .int .u16 at_, .int .u8 by_] w fun e w' => e = .returned (.bool true) ∧ Below w.heap.size w w' := by
  have fin : ∀ (w' : World), Kept noneB w w' → Below w.heap.size w w' := fun _ h => h.below (Nat.le_refl _) fun _ h => h.elim
  have FIN := Lib.hid fin
  clear fin
  obtain ⟨hbat, hlen, hlc, hcm⟩ := bat_of_row w0
  obtain ⟨bs, hbs⟩ : ∃ bs, bs = bytesOf (zs.take len) := ⟨_, rfl⟩
  rw [← hbs] at hbat hlen
  clear hbs w0
  have hm' : len ≤ 9223372036854775807 := by unfold maxLen at hcm; omega
  have hu : 0 ≤ at_ ∧ at_ ≤ 65535 := by
    have h1 : IntKind.u16.min = 0 := rfl
    have h2 : IntKind.u16.max = 65535 := rfl
    simp only [Lit.wf, Bool.and_eq_true, decide_eq_true_eq] at w1
    omega
  obtain ⟨hby0, hby1⟩ := wf8 w2
  have H := Lib.hid hbat
  have HL := Lib.hid hlen
  clear hbat hlen w1 w2
  by_cases hlong : 2000 < len
  · go_enter Tryd.func7, Tryd.ntmps7
    go_wp2_with fail
    refine (ans04_any _).mono ?_
    rintro e w1 ⟨rfl, hk1⟩
    go_wp2
    go_ret
    exact ⟨rfl, FIN.out _ hk1⟩
  · have mk : ∀ w : World, (Instr.makeSlice 22 (.int .i64 512) (.int .i64 512)).run Tryd.prog w = .ok (.slice (some ⟨w.heap.size, 0, none⟩) 512 512) (w.alloc (.cells (madeCells #[.int .u8 0] 512) 5)) := fun w => by
      obtain ⟨i0, hi0, hz0, hz1, hz2⟩ := info_parts infoByte
      have h := run_makeSlice (P := Tryd.prog) w 22 5 i0 (.int .u8 0) Tryd.underlying22 hi0 hz0 .i64 .i64 512 512 (by decide) (by decide) (by rw [hz1]; decide) (by rw [hz2]; decide) (by decide)
      rw [hz1] at h
      exact h
    go_enter Tryd.func7, Tryd.ntmps7
    go_wp2_with fail
    go_loop [7, 8] (fun z i => ∃ (k : Nat) (b : Bool), k ≤ len ∧ i = .int .i64 k ∧ z = .bool b ∧ Hid (b = decide (plainTo bs k = 0))) (fun _ i => len - (RowKit.intOf i).toNat)
    case atStart => exact ⟨0, true, by omega, rfl, rfl, Lib.hid (by simp [plainTo])⟩
    case round =>
      obtain ⟨k, b, hk, rfl, rfl, hb⟩ := hrel
      by_cases hlt : k < len
      · obtain ⟨bl, o, rfl, hbw, hcell⟩ := H.out.cell hlt
        have hc := hcell k hlt
        clear hcell
        obtain ⟨x, hx⟩ : ∃ x : Int, x = ((bs.getD k 0).toNat : Int) := ⟨_, rfl⟩
        rw [← hx] at hc
        have hxb := u8_bd (bs.getD k 0)
        rw [← hx] at hxb
        have HX := Lib.hid hx
        clear hx
        obtain ⟨hx0, hx1⟩ := hxb
        cases b
        · go_wp2
          go_round
          case rel => exact ⟨k + 1, false, by omega, by go_num, rfl, Lib.hid (by
            have := hb.out
            rw [Bool.false_eq, decide_eq_false_iff_not] at this ⊢
            rw [plainTo]; omega)⟩
          case measure => simp [RowKit.intOf]; omega
        · go_wp2
          go_round
          case rel => exact ⟨k + 1, x == 0, by omega, by go_num, rfl, Lib.hid (by
            have h1 : plainTo bs k = 0 := by simpa using hb.out.symm
            rw [Bool.eq_iff_iff, beq_iff_eq, decide_eq_true_eq, plainTo, h1]
            have := HX.out
            omega)⟩
          case measure => simp [RowKit.intOf]; omega
      · have hkl : Hid (k = len) := Lib.hid (by omega)
        have HB := hb
        obtain ⟨wb, hwb⟩ : ∃ wb, wb = w.alloc (.cells (madeCells #[.int .u8 0] 512) 5) := ⟨_, rfl⟩
        obtain ⟨g, hg⟩ : ∃ g, g = w.heap.size := ⟨_, rfl⟩
        have hR : RowB wb g (List.replicate 512 0) := by rw [hwb, hg]; exact rowB_made w 512
        have HKB : Hid (Kept noneB w wb) := Lib.hid (by rw [hwb]; exact (Kept.refl noneB w).alloc _)
        have HG : Hid (w.heap.size ≤ g) := Lib.hid (by omega)
        have mkw := mk w
        rw [← hwb, ← hg] at mkw
        clear mk hwb hg
        obtain ⟨y, rfl⟩ : ∃ y : UInt8, by_ = (y.toNat : Int) := ⟨UInt8.ofNat by_.toNat, by
          rw [UInt8.toNat_ofNat_of_lt' (by show by_.toNat < 256; omega)]; omega⟩
        obtain ⟨j, hj⟩ : ∃ j, j = (at_ % 512).toNat := ⟨_, rfl⟩
        have hjl : j < 512 := by omega
        have c0 : wb.cell? ⟨g, (at_ % 512).toNat, none⟩ = some (.int .u8 0) := by
          have := hR.cell j (by rw [List.length_replicate]; exact hjl)
          rw [rep_zero, hj] at this
          exact this
        have f0 := hR.frozen (at_ % 512).toNat
        have hR2 := hR.set j y
        have hz2 : (((plainTo ((List.replicate 512 (0 : UInt8)).set j y) 512 : Nat) : Int) == 0) = ((y.toNat : Int) == 0) := by
          rw [Bool.eq_iff_iff, beq_iff_eq, beq_iff_eq]
          constructor
          · intro h
            have h1 := plainTo_zero.1 (show plainTo ((List.replicate 512 (0 : UInt8)).set j y) 512 = 0 by omega) j hjl
            rw [getD_set _ _ _ _ (by rw [List.length_replicate]; exact hjl), if_pos rfl] at h1
            rw [h1]; rfl
          · intro h
            have hy : y = 0 := UInt8.toNat.inj (by show y.toNat = 0; omega)
            rw [plainTo_zero.2 fun x hx => by
              rw [getD_set _ _ _ _ (by rw [List.length_replicate]; exact hjl), rep_zero, hy]
              split <;> rfl]
            rfl
        have HR2 := Lib.hid hR2
        have HZ2 := Lib.hid hz2
        have HKC : Hid (Kept noneB w (wb.setCell ⟨g, j, none⟩ (.int .u8 (y.toNat : Int)))) := Lib.hid (HKB.out.setCell (Or.inl HG.out) _)
        have HJ := Lib.hid hj
        clear hR hR2 hz2 hj
        go_wp2_with fail
        rw [← HJ.out]
        refine (ans04_any _).mono ?_
        rintro e w1 ⟨rfl, hk1⟩
        have HK1 := Lib.hid (HKC.out.trans hk1)
        have HR3 := Lib.hid (HR2.out.kept hk1 id)
        clear hk1 c0 f0
        go_wp2_with fail
        refine (zero_any a len cap bs _ (by omega) (H.out.kept HK1.out (fun _ _ _ => id))).mono ?_
        rintro e w2 ⟨rfl, rfl⟩
        have hz1 : (((plainTo bs len : Nat) : Int) == 0) = b := by
          rw [HB.out, Bool.eq_iff_iff, beq_iff_eq, decide_eq_true_eq, hkl.out]
          omega
        rw [hz1]
        have hb3 := HR3.out.bat
        rw [List.length_set, List.length_replicate] at hb3
        have HB3 := Lib.hid hb3
        clear hz1 hb3
        go_wp2_with fail
        refine (zero_any _ 512 512 _ _ (by omega) HB3.out).mono ?_
        rintro e w2 ⟨rfl, rfl⟩
        rw [HZ2.out]
        go_wp2_with fail
        refine (zero_any none 0 0 [] _ (by omega) (fun h => absurd h (by omega))).mono ?_
        rintro e w2 ⟨rfl, rfl⟩
        rw [show (((plainTo [] 0 : Nat) : Int) == 0) = true by rw [← plain0 []]; rfl]
        go_wp2
        go_ret
        exact ⟨rfl, FIN.out _ HK1.out⟩
end Go.Proofs.YtefgljapmncncaaDoor.Walk
