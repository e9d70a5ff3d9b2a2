import Derived.Test.YtdjedimjhogdoaaGreatDoorZ10
section
namespace Go.Proofs.YtdjedimjhogdoaaGreatDoor.Walk
open Go.ChangeShapes Go.WideShapes Go.ChangeAt Go.RowKit Go.Proofs.YtdjedimjhogdoaaGreatDoor.Base Go.Proofs.YtdjedimjhogdoaaGreatDoor.Byt Go.Proofs.YtdjedimjhogdoaaGreatDoor.Txt Go.Proofs.YtdjedimjhogdoaaGreatDoor.Bk Go.Proofs.YtdjedimjhogdoaaGreatDoor.Num Go.Proofs.YtdjedimjhogdoaaGreatDoor.Block Go.Proofs.YtdjedimjhogdoaaGreatDoor.Rec Go.Proofs.YtdjedimjhogdoaaGreatDoor.Mem Go.Lib
set_option linter.unusedVariables false
set_option maxRecDepth 100000

set_option maxHeartbeats 4000000 in
theorem memberAll (a0 : Option Addr) (len0 cap0 : Nat) (z0 : List Int) (w : World) (w0 : IsRow .u8 w a0 len0 cap0 z0) (b0 : cap0 * 1 ≤ 140737488351232) (hT : Need w) :
    Calls Tryz.prog 6 #[.slice a0 len0 cap0] w fun e w' => e = .returned (.bool true) ∧ Below w.heap.size w w' := by
  obtain ⟨hb, hl, hc, _⟩ := bat_of_row w0
  obtain ⟨bs, hbs⟩ : ∃ bs, bs = bytesOf (z0.take len0) := ⟨_, rfl⟩
  rw [← hbs] at hb hl
  obtain ⟨n, rfl⟩ : ∃ n, n = len0 := ⟨_, rfl⟩
  have HB := Lib.hid hb
  have HL := Lib.hid hl
  have HN := Lib.hid hT
  clear hb hl hbs w0 hc b0 hT
  by_cases hbig : 40000 < n
  · go_enter Tryz.func6, Tryz.ntmps6
    go_wp2_with fail
    refine (ans08_any _ HN.out).mono ?_
    rintro e w2 ⟨rfl, hk⟩
    have HK := Lib.hid hk
    clear hk
    go_wp2
    go_ret
    exact ⟨rfl, HK.out⟩
  · have hn : n ≤ 40000 := by omega
    obtain ⟨⟨ms, er, a⟩, hD⟩ : ∃ x, membersD bs = x := ⟨_, rfl⟩
    have hR := memRead_any w a0 n cap0 bs none 0 0 [] HB.out HL.out (by omega) (iat_nil _) rfl (by decide) HN.out
    unfold ReadD at hR
    rw [hD] at hR
    have HF := Lib.hid (membersD_facts hD)
    have HR := Lib.hid hR
    clear hR hD
    go_enter Tryz.func6, Tryz.ntmps6
    go_wp2_with fail
    refine HR.out.mono ?_
    rintro e w2 ⟨p, c, xs, rfl, hxc, hcm, hx, hm, hb2⟩
    obtain ⟨L, hL⟩ : ∃ L, xs.length = L := ⟨_, rfl⟩
    rw [hL] at hm hxc ⊢
    obtain ⟨A, hA⟩ : ∃ A : Int, (a : Int) = A := ⟨_, rfl⟩
    simp only [hA]
    have HM := Lib.hid hm
    have HX := Lib.hid hx
    have HLN := Lib.hid hL
    have HB2 := Lib.hid hb2
    have hLm : L ≤ maxLen := Nat.le_trans hxc hcm
    unfold maxLen at hLm
    clear hm hx hL hb2 HR
    go_upto_region 4 with fail
    obtain ⟨w3, hw3⟩ : ∃ w3, w2.alloc (.cells #[.int .i64 er, .int .i64 A] 28) = w3 := ⟨_, rfl⟩
    have hX3 : Blk w3 w2.heap.size 28 #[.int .i64 er, .int .i64 A] := by rw [← hw3]; exact Blk.new w2 _ _
    have h23 : Below w2.heap.size w2 w3 := by rw [← hw3]; exact (Below.refl _ _).alloc (Nat.le_refl _) _
    have HX3 := Lib.hid hX3
    have HB3 := Lib.hid (HB2.out.trans (h23.mono HB2.out.size))
    have HM3 := Lib.hid (HM.out.below h23)
    rw [hw3]
    have x0 := hX3.cell 0
    simp only [List.getElem?_toArray, List.getElem?_cons_zero] at x0
    clear hw3 hX3 h23 HM
    rcases HF.out with ⟨hne, hms, hal, ham⟩ | ⟨he, ha, hg⟩
    · have hb1 : (er != 0) = true := by simpa using hne
      have hlm : L = 0 := by
        have := HX.out
        rw [hms] at this
        rw [← HLN.out]
        simpa using this
      subst hlm
      have q1 : (0 : Int) ≤ A := by omega
      have q2 : A ≤ (n : Int) := by rw [← HL.out, ← hA]; omega
      have q3 : A % 512 = 0 := by omega
      clear hne hms hal ham HF hA
      go_wp2_with fail
      refine (ans08_any _ (HN.out.below HB3.out)).mono ?_
      rintro e w4 ⟨rfl, hb4⟩
      have x1 := (HX3.out.below hb4 HX3.out.lt).cell 1
      simp only [List.getElem?_toArray, List.getElem?_cons_zero, List.getElem?_cons_succ] at x1
      have FIN := Lib.hid (HB3.out.trans (hb4.mono HB3.out.size))
      clear hb4 x0
      go_wp2
      go_ret
      exact ⟨rfl, FIN.out⟩
    · subst he
      obtain rfl : A = 0 := by rw [← hA, ha]; rfl
      clear hA ha
      have HG := Lib.hid hg
      clear hg HF
      go_wp2_with fail
      go_loopw [5] (fun i wr => ∃ (k : Nat), k ≤ L ∧ i = .int .i64 (k : Int) ∧ Hid (Below w3.heap.size w3 wr)) (fun i _ => L - (RowKit.intOf i).toNat)
      case atStart => exact ⟨0, Nat.zero_le _, rfl, Lib.hid (Below.refl _ _)⟩
      case round =>
        obtain ⟨k, hk, rfl, hB⟩ := hrel
        by_cases hlt : k < L
        · obtain ⟨b1, o1, rfl, hb1, hB1, hc1⟩ := (HM3.out.below hB.out).cells8 hlt
          have hy1 : goodD (xs.getD k zeroP).m = true := HG.out _ (by
            rw [← HX.out]
            exact List.mem_map_of_mem (getP_mem xs k (by rw [HLN.out]; exact hlt)))
          obtain ⟨y, hy⟩ : ∃ y, xs.getD k zeroP = y := ⟨_, rfl⟩
          rw [hy] at hy1 hc1
          have HY := Lib.hid hy1
          have hltz : (k : Int) < (L : Int) := by omega
          obtain ⟨c0, c1, c2, c3, c4, c5, c6, c7⟩ := hc1
          clear hB1 hb1 hy hy1 x0
          go_wp2_with fail
          refine (rgood_any y.m y.p y.c _ (Nat.le_trans (good_facts HY.out).pathL (by decide)) (Nat.le_trans (good_facts HY.out).targL (by decide))).mono ?_
          rintro e w4 ⟨rfl, hb4⟩
          have HB4 := Lib.hid (hB.out.trans (hb4.mono hB.out.size))
          rw [HY.out]
          clear hb4 c0 c1 c2 c3 c4 c5 c6 c7
          go_wp2
          go_roundw
          case rel => exact ⟨k + 1, by omega, by go_num, HB4⟩
          case measure => simp [RowKit.intOf]; omega
        · have hks : ¬ ((k : Int) < (L : Int)) := by omega
          clear x0
          go_wp2_with fail
          refine (ans08_any _ (HN.out.below (HB3.out.trans (hB.out.mono HB3.out.size)))).mono ?_
          rintro e w4 ⟨rfl, hb4⟩
          have h34 := hB.out.trans (hb4.mono hB.out.size)
          have x1 := (HX3.out.below h34 HX3.out.lt).cell 1
          simp only [List.getElem?_toArray, List.getElem?_cons_zero, List.getElem?_cons_succ] at x1
          have FIN := Lib.hid (HB3.out.trans (h34.mono HB3.out.size))
          clear hb4 h34
          go_wp2
          go_ret
          exact ⟨rfl, FIN.out⟩
end Go.Proofs.YtdjedimjhogdoaaGreatDoor.Walk
end
