import Derived.Test.YtdjedimjhogdoaaGreatDoorZ10
section
namespace Go.Proofs.YtdjedimjhogdoaaGreatDoor.Mem
open Go.ChangeShapes Go.WideShapes Go.ChangeAt Go.RowKit Go.Proofs.YtdjedimjhogdoaaGreatDoor.Base Go.Proofs.YtdjedimjhogdoaaGreatDoor.Byt Go.Proofs.YtdjedimjhogdoaaGreatDoor.Txt Go.Proofs.YtdjedimjhogdoaaGreatDoor.Bk Go.Lib
theorem eqFlt_deep (a b a' b' : Int) (n : Nat) (w : World) : (Op.equalIn (n + 1 + 1) 28 (.agg #[.int .i64 a, .int .i64 b]) (.agg #[.int .i64 a', .int .i64 b'])).run Tryz.prog w = .ok (decide (a = a' ∧ b = b')) w := by
  have hM : Tryz.prog.underlying 28 = some (.struct (Tryz.prog.fieldsOf 28)) := by kernel_rfl
  have pM : Tryz.prog.stoodInHeld 28 = false := by kernel_rfl
  rw [run_equalIn_agg (P := Tryz.prog) w (n + 1) 28 _ _ hM pM]
  clear hM pM
  simp only [Program.fieldsOf, Tryz.underlying28]
  go_simp
  by_cases h4 : a = a' <;> by_cases h5 : b = b' <;> simp [h4, h5]
theorem eqFlt (a b a' b' : Int) (w : World) : (binOp .eql 28 (.agg #[.int .i64 a, .int .i64 b]) (.agg #[.int .i64 a', .int .i64 b'])).run Tryz.prog w = .ok (.bool (decide (a = a' ∧ b = b'))) w := by
  rw [run_eql_struct, show (10000 : Nat) = 9998 + 1 + 1 from rfl, eqFlt_deep]
  rfl
theorem eqFlt_self (a b : Int) (w : World) : (binOp .eql 28 (.agg #[.int .i64 a, .int .i64 b]) (.agg #[.int .i64 a, .int .i64 b])).run Tryz.prog w = .ok (.bool true) w := by
  rw [eqFlt, decide_eq_true ⟨rfl, rfl⟩]
end Go.Proofs.YtdjedimjhogdoaaGreatDoor.Mem
namespace Go.Proofs.YtdjedimjhogdoaaGreatDoor.Walk
open Go.ChangeShapes Go.WideShapes Go.ChangeAt Go.RowKit Go.Proofs.YtdjedimjhogdoaaGreatDoor.Base Go.Proofs.YtdjedimjhogdoaaGreatDoor.Byt Go.Proofs.YtdjedimjhogdoaaGreatDoor.Txt Go.Proofs.YtdjedimjhogdoaaGreatDoor.Bk Go.Proofs.YtdjedimjhogdoaaGreatDoor.Num Go.Proofs.YtdjedimjhogdoaaGreatDoor.Block Go.Proofs.YtdjedimjhogdoaaGreatDoor.Rec Go.Proofs.YtdjedimjhogdoaaGreatDoor.Mem Go.Lib
set_option linter.unusedVariables false
set_option maxRecDepth 100000

set_option maxHeartbeats 4000000 in
theorem memberChunks (a0 : Option Addr) (len0 cap0 : Nat) (z0 : List Int) (a1 : Option Addr) (len1 cap1 : Nat) (z1 : List Int) (w : World) (w0 : IsRow .u8 w a0 len0 cap0 z0) (b0 : cap0 * 1 ≤ 140737488351232) (w1 : IsRow .i64 w a1 len1 cap1 z1) (b1 : cap1 * 8 ≤ 140737488351232) (hT : Need w) :
    Calls Tryz.prog 4 #[.slice a0 len0 cap0, .slice a1 len1 cap1] w fun e w' => e = .returned (.bool true) ∧ Below w.heap.size w w' := by
  obtain ⟨hb, hl, hc, _⟩ := bat_of_row w0
  obtain ⟨hi, hil, hic, _⟩ := iat_of_row w1
  obtain ⟨bs, hbs⟩ : ∃ bs, bs = bytesOf (z0.take len0) := ⟨_, rfl⟩
  obtain ⟨zs, hzs⟩ : ∃ zs, zs = z1.take len1 := ⟨_, rfl⟩
  rw [← hbs] at hb hl
  rw [← hzs] at hi hil
  obtain ⟨n, rfl⟩ : ∃ n, n = len0 := ⟨_, rfl⟩
  have hm8 : len1 * 8 ≤ 140737488351232 := by omega
  have HB := Lib.hid hb
  have HL := Lib.hid hl
  have HI := Lib.hid hi
  have HIL := Lib.hid hil
  have HM8 := Lib.hid hm8
  have HN := Lib.hid hT
  clear hb hl hbs w0 hc b0 hT hi hil hzs w1 hic b1 hm8
  by_cases hbig : 40000 < n
  · go_enter Tryz.func4, Tryz.ntmps4
    go_wp2_with fail
    refine (ans08_any _ HN.out).mono ?_
    rintro e w2 ⟨rfl, hk⟩
    have HK := Lib.hid hk
    clear hk
    go_wp2
    go_ret
    exact ⟨rfl, HK.out⟩
  · have hn : n ≤ 40000 := by omega
    obtain ⟨⟨ms, er, a⟩, hD⟩ : ∃ x, membersD bs = x := ⟨_, rfl⟩
    have hR := memRead_any w a0 n cap0 bs a1 len1 cap1 zs HB.out HL.out (by omega) HI.out HIL.out HM8.out HN.out
    have HR2 : Hid (∀ w', Below w.heap.size w w' → Calls Tryz.prog 12 #[.slice a0 n cap0, .slice none 0 0] w' (ReadD w' bs)) := Lib.hid (fun w' h => memRead_any w' a0 n cap0 bs none 0 0 [] (HB.out.below h) HL.out (by omega) (iat_nil _) rfl (by decide) (HN.out.below h))
    unfold ReadD at hR HR2
    rw [hD] at hR HR2
    have HR := Lib.hid hR
    clear hR hD
    go_enter Tryz.func4, Tryz.ntmps4
    go_wp2_with fail
    refine HR.out.mono ?_
    rintro e w2 ⟨p, c, xs, rfl, hxc, hcm, hx, hm, hb2⟩
    obtain ⟨L, hL⟩ : ∃ L, xs.length = L := ⟨_, rfl⟩
    rw [hL] at hm hxc ⊢
    obtain ⟨A, hA⟩ : ∃ A : Int, (a : Int) = A := ⟨_, rfl⟩
    simp only [hA] at HR2 ⊢
    have HM := Lib.hid hm
    have HX := Lib.hid hx
    have HLN := Lib.hid hL
    have HB2 := Lib.hid hb2
    have HHL := Lib.hid hxc
    clear hm hx hL hb2 HR hxc hA
    go_upto_region 4 with fail
    obtain ⟨w3, hw3⟩ : ∃ w3, w2.alloc (.cells #[.int .i64 er, .int .i64 A] 28) = w3 := ⟨_, rfl⟩
    have hX3 : Blk w3 w2.heap.size 28 #[.int .i64 er, .int .i64 A] := by rw [← hw3]; exact Blk.new w2 _ _
    have h23 : Below w2.heap.size w2 w3 := by rw [← hw3]; exact (Below.refl _ _).alloc (Nat.le_refl _) _
    have HX3 := Lib.hid hX3
    have HB3 := Lib.hid (HB2.out.trans (h23.mono HB2.out.size))
    have HM3 := Lib.hid (HM.out.below h23)
    rw [hw3]
    clear hw3 hX3 h23 HM
    go_wp2_with fail
    refine (HR2.out _ HB3.out).mono ?_
    rintro e w4 ⟨p4, c4, ys, rfl, hyc, hcm4, hy, hm4, hb4⟩
    obtain ⟨L4, hL4⟩ : ∃ L, ys.length = L := ⟨_, rfl⟩
    rw [hL4] at hm4 hyc ⊢
    have HX4 := Lib.hid (HX3.out.below hb4 HX3.out.lt)
    have HM4 := Lib.hid (HM3.out.below hb4)
    have HY := Lib.hid hy
    have HM5 := Lib.hid hm4
    have HB4 := Lib.hid (HB3.out.trans (hb4.mono HB3.out.size))
    clear hm4 hy hL4 hb4 hyc HM3 HX3
    go_upto_region 5 with fail
    obtain ⟨w5, hw5⟩ : ∃ w5, w4.alloc (.cells #[.int .i64 er, .int .i64 A] 28) = w5 := ⟨_, rfl⟩
    have hX5 : Blk w5 w4.heap.size 28 #[.int .i64 er, .int .i64 A] := by rw [← hw5]; exact Blk.new w4 _ _
    have h45 : Below w4.heap.size w4 w5 := by rw [← hw5]; exact (Below.refl _ _).alloc (Nat.le_refl _) _
    have HX5 := Lib.hid hX5
    have HX6 := Lib.hid (HX4.out.below h45 HX4.out.lt)
    have HB5 := Lib.hid (HB4.out.trans (h45.mono HB4.out.size))
    have HMx := Lib.hid (HM4.out.below h45)
    have HMy := Lib.hid (HM5.out.below h45)
    rw [hw5]
    clear hw5 hX5 h45 HM4 HM5 HX4
    go_wp2_with fail
    refine (ans08_any _ (HN.out.below HB5.out)).mono ?_
    rintro e w6 ⟨rfl, hb6⟩
    have x0 := (HX5.out.below hb6 HX5.out.lt).cell 0
    have x1 := (HX5.out.below hb6 HX5.out.lt).cell 1
    have y0 := (HX6.out.below hb6 HX6.out.lt).cell 0
    have y1 := (HX6.out.below hb6 HX6.out.lt).cell 1
    simp only [List.getElem?_toArray, List.getElem?_cons_zero, List.getElem?_cons_succ] at x0 x1 y0 y1
    have EQ := eqFlt_self er A
    have HB6 := Lib.hid (HB5.out.trans (hb6.mono HB5.out.size))
    have HSA := Lib.hid (rsameAll_any p p4 L L4 c c4 xs ys w6 (Nat.le_trans HHL.out hcm) (HMx.out.below hb6) (HMy.out.below hb6))
    have HDE : Hid (decide (xs.map MP.m = ys.map MP.m) = true) := Lib.hid (decide_eq_true (by rw [HX.out, HY.out]))
    clear hb6
    go_wp2_with fail
    refine HSA.out.mono ?_
    rw [HDE.out]
    rintro e w7 ⟨rfl, hb7⟩
    have FIN := Lib.hid (HB6.out.trans (hb7.mono HB6.out.size))
    clear hb7
    go_wp2
    go_ret
    exact ⟨rfl, FIN.out⟩
end Go.Proofs.YtdjedimjhogdoaaGreatDoor.Walk
end
