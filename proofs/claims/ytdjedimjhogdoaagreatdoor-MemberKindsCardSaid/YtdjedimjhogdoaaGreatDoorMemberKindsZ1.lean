import Derived.Test.YtdjedimjhogdoaaGreatDoorZ10
import Derived.Test.YtdjedimjhogdoaaGreatDoorZ9
import Derived.Test.YtdjedimjhogdoaaGreatDoorZ1
import Derived.OpenShut
import Derived.SizedLaws
import Derived.Test.YtdjedimjhogdoaaGreatDoorZ2
import Derived.Deep.SlicePairs
section
namespace Go.Proofs.YtdjedimjhogdoaaGreatDoor.Mem
open Go.ChangeShapes Go.WideShapes Go.ChangeAt Go.RowKit Go.Proofs.YtdjedimjhogdoaaGreatDoor.Base Go.Proofs.YtdjedimjhogdoaaGreatDoor.Byt Go.Proofs.YtdjedimjhogdoaaGreatDoor.Txt Go.Proofs.YtdjedimjhogdoaaGreatDoor.Bk Go.Lib
theorem eqFlt_deep (a b a' b' : Int) (n : Nat) (w : World) : (Op.equalIn (n + 1 + 1) 28 (.agg #[.int .i64 a, .int .i64 b]) (.agg #[.int .i64 a', .int .i64 b'])).run Tryz.prog w = .ok (decide (a = a' ∧ b = b')) w := by
  have hM : Tryz.prog.underlying 28 = some (.struct (Tryz.prog.fieldsOf 28)) := by kernel_rfl
  have pM : Tryz.prog.stoodInHeld 28 = false := by kernel_rfl
  rw [run_equalIn_agg (P := Tryz.prog) w (n + 1) 28 _ _ hM pM]
  clear hM pM
  simp only [Program.fieldsOf, Tryz.underlying28]
  go_simp
  by_cases h4 : a = a' <;> by_cases h5 : b = b' <;> simp [h4, h5]
theorem eqFlt (a b a' b' : Int) (w : World) : (binOp .eql 28 (.agg #[.int .i64 a, .int .i64 b]) (.agg #[.int .i64 a', .int .i64 b'])).run Tryz.prog w = .ok (.bool (decide (a = a' ∧ b = b'))) w := by
  rw [run_eql_struct, show (10000 : Nat) = 9998 + 1 + 1 from rfl, eqFlt_deep]
  rfl
theorem eqFlt_self (a b : Int) (w : World) : (binOp .eql 28 (.agg #[.int .i64 a, .int .i64 b]) (.agg #[.int .i64 a, .int .i64 b])).run Tryz.prog w = .ok (.bool true) w := by
  rw [eqFlt, decide_eq_true ⟨rfl, rfl⟩]
end Go.Proofs.YtdjedimjhogdoaaGreatDoor.Mem
namespace Go.Proofs.YtdjedimjhogdoaaGreatDoor.Walk
open Go.ChangeShapes Go.WideShapes Go.ChangeAt Go.RowKit Go.Proofs.YtdjedimjhogdoaaGreatDoor.Base Go.Proofs.YtdjedimjhogdoaaGreatDoor.Byt Go.Proofs.YtdjedimjhogdoaaGreatDoor.Txt Go.Proofs.YtdjedimjhogdoaaGreatDoor.Bk Go.Proofs.YtdjedimjhogdoaaGreatDoor.Num Go.Proofs.YtdjedimjhogdoaaGreatDoor.Block Go.Proofs.YtdjedimjhogdoaaGreatDoor.Rec Go.Proofs.YtdjedimjhogdoaaGreatDoor.Mem Go.Lib
set_option linter.unusedVariables false
set_option maxRecDepth 100000

set_option maxHeartbeats 4000000 in
theorem memberChunks (a0 : Option Addr) (len0 cap0 : Nat) (z0 : List Int) (a1 : Option Addr) (len1 cap1 : Nat) (z1 : List Int) (w : World) (w0 : IsRow .u8 w a0 len0 cap0 z0) (b0 : cap0 * 1 ≤ 140737488351232) (w1 : IsRow .i64 w a1 len1 cap1 z1) (b1 : cap1 * 8 ≤ 140737488351232) (hT : Need w) :
    Calls Tryz.prog 4 #[.slice a0 len0 cap0, .slice a1 len1 cap1] w fun e w' => e = .returned (.bool true) ∧ Below w.heap.size w w' := by
  obtain ⟨hb, hl, hc, _⟩ := bat_of_row w0
  obtain ⟨hi, hil, hic, _⟩ := iat_of_row w1
  obtain ⟨bs, hbs⟩ : ∃ bs, bs = bytesOf (z0.take len0) := ⟨_, rfl⟩
  obtain ⟨zs, hzs⟩ : ∃ zs, zs = z1.take len1 := ⟨_, rfl⟩
  rw [← hbs] at hb hl
  rw [← hzs] at hi hil
  obtain ⟨n, rfl⟩ : ∃ n, n = len0 := ⟨_, rfl⟩
  have hm8 : len1 * 8 ≤ 140737488351232 := by omega
  have HB := Lib.hid hb
  have HL := Lib.hid hl
  have HI := Lib.hid hi
  have HIL := Lib.hid hil
  have HM8 := Lib.hid hm8
  have HN := Lib.hid hT
  clear hb hl hbs w0 hc b0 hT hi hil hzs w1 hic b1 hm8
  by_cases hbig : 40000 < n
  · go_enter Tryz.func4, Tryz.ntmps4
    go_wp2_with fail
    refine (ans08_any _ HN.out).mono ?_
    rintro e w2 ⟨rfl, hk⟩
    have HK := Lib.hid hk
    clear hk
    go_wp2
    go_ret
    exact ⟨rfl, HK.out⟩
  · have hn : n ≤ 40000 := by omega
    obtain ⟨⟨ms, er, a⟩, hD⟩ : ∃ x, membersD bs = x := ⟨_, rfl⟩
    have hR := memRead_any w a0 n cap0 bs a1 len1 cap1 zs HB.out HL.out (by omega) HI.out HIL.out HM8.out HN.out
    have HR2 : Hid (∀ w', Below w.heap.size w w' → Calls Tryz.prog 12 #[.slice a0 n cap0, .slice none 0 0] w' (ReadD w' bs)) := Lib.hid (fun w' h => memRead_any w' a0 n cap0 bs none 0 0 [] (HB.out.below h) HL.out (by omega) (iat_nil _) rfl (by decide) (HN.out.below h))
    unfold ReadD at hR HR2
    rw [hD] at hR HR2
    have HR := Lib.hid hR
    clear hR hD
    go_enter Tryz.func4, Tryz.ntmps4
    go_wp2_with fail
    refine HR.out.mono ?_
    rintro e w2 ⟨p, c, xs, rfl, hxc, hcm, hx, hm, hb2⟩
    obtain ⟨L, hL⟩ : ∃ L, xs.length = L := ⟨_, rfl⟩
    rw [hL] at hm hxc ⊢
    obtain ⟨A, hA⟩ : ∃ A : Int, (a : Int) = A := ⟨_, rfl⟩
    simp only [hA] at HR2 ⊢
    have HM := Lib.hid hm
    have HX := Lib.hid hx
    have HLN := Lib.hid hL
    have HB2 := Lib.hid hb2
    have HHL := Lib.hid hxc
    clear hm hx hL hb2 HR hxc hA
    go_upto_region 4 with fail
    obtain ⟨w3, hw3⟩ : ∃ w3, w2.alloc (.cells #[.int .i64 er, .int .i64 A] 28) = w3 := ⟨_, rfl⟩
    have hX3 : Blk w3 w2.heap.size 28 #[.int .i64 er, .int .i64 A] := by rw [← hw3]; exact Blk.new w2 _ _
    have h23 : Below w2.heap.size w2 w3 := by rw [← hw3]; exact (Below.refl _ _).alloc (Nat.le_refl _) _
    have HX3 := Lib.hid hX3
    have HB3 := Lib.hid (HB2.out.trans (h23.mono HB2.out.size))
    have HM3 := Lib.hid (HM.out.below h23)
    rw [hw3]
    clear hw3 hX3 h23 HM
    go_wp2_with fail
    refine (HR2.out _ HB3.out).mono ?_
    rintro e w4 ⟨p4, c4, ys, rfl, hyc, hcm4, hy, hm4, hb4⟩
    obtain ⟨L4, hL4⟩ : ∃ L, ys.length = L := ⟨_, rfl⟩
    rw [hL4] at hm4 hyc ⊢
    have HX4 := Lib.hid (HX3.out.below hb4 HX3.out.lt)
    have HM4 := Lib.hid (HM3.out.below hb4)
    have HY := Lib.hid hy
    have HM5 := Lib.hid hm4
    have HB4 := Lib.hid (HB3.out.trans (hb4.mono HB3.out.size))
    clear hm4 hy hL4 hb4 hyc HM3 HX3
    go_upto_region 5 with fail
    obtain ⟨w5, hw5⟩ : ∃ w5, w4.alloc (.cells #[.int .i64 er, .int .i64 A] 28) = w5 := ⟨_, rfl⟩
    have hX5 : Blk w5 w4.heap.size 28 #[.int .i64 er, .int .i64 A] := by rw [← hw5]; exact Blk.new w4 _ _
    have h45 : Below w4.heap.size w4 w5 := by rw [← hw5]; exact (Below.refl _ _).alloc (Nat.le_refl _) _
    have HX5 := Lib.hid hX5
    have HX6 := Lib.hid (HX4.out.below h45 HX4.out.lt)
    have HB5 := Lib.hid (HB4.out.trans (h45.mono HB4.out.size))
    have HMx := Lib.hid (HM4.out.below h45)
    have HMy := Lib.hid (HM5.out.below h45)
    rw [hw5]
    clear hw5 hX5 h45 HM4 HM5 HX4
    go_wp2_with fail
    refine (ans08_any _ (HN.out.below HB5.out)).mono ?_
    rintro e w6 ⟨rfl, hb6⟩
    have x0 := (HX5.out.below hb6 HX5.out.lt).cell 0
    have x1 := (HX5.out.below hb6 HX5.out.lt).cell 1
    have y0 := (HX6.out.below hb6 HX6.out.lt).cell 0
    have y1 := (HX6.out.below hb6 HX6.out.lt).cell 1
    simp only [List.getElem?_toArray, List.getElem?_cons_zero, List.getElem?_cons_succ] at x0 x1 y0 y1
    have EQ := eqFlt_self er A
    have HB6 := Lib.hid (HB5.out.trans (hb6.mono HB5.out.size))
    have HSA := Lib.hid (rsameAll_any p p4 L L4 c c4 xs ys w6 (Nat.le_trans HHL.out hcm) (HMx.out.below hb6) (HMy.out.below hb6))
    have HDE : Hid (decide (xs.map MP.m = ys.map MP.m) = true) := Lib.hid (decide_eq_true (by rw [HX.out, HY.out]))
    clear hb6
    go_wp2_with fail
    refine HSA.out.mono ?_
    rw [HDE.out]
    rintro e w7 ⟨rfl, hb7⟩
    have FIN := Lib.hid (HB6.out.trans (hb7.mono HB6.out.size))
    clear hb7
    go_wp2
    go_ret
    exact ⟨rfl, FIN.out⟩
end Go.Proofs.YtdjedimjhogdoaaGreatDoor.Walk
end
section
namespace Go.Proofs.YtdjedimjhogdoaaGreatDoor.Mem
open Go.ChangeShapes Go.WideShapes Go.ChangeAt Go.RowKit Go.Proofs.YtdjedimjhogdoaaGreatDoor.Base Go.Proofs.YtdjedimjhogdoaaGreatDoor.Byt Go.Proofs.YtdjedimjhogdoaaGreatDoor.Txt Go.Proofs.YtdjedimjhogdoaaGreatDoor.Bk Go.Proofs.YtdjedimjhogdoaaGreatDoor.Hp Go.Proofs.YtdjedimjhogdoaaGreatDoor.Head Go.Proofs.YtdjedimjhogdoaaGreatDoor.Num Go.Proofs.YtdjedimjhogdoaaGreatDoor.Path Go.Proofs.YtdjedimjhogdoaaGreatDoor.Block Go.Proofs.YtdjedimjhogdoaaGreatDoor.Rec Go.Lib
set_option linter.unusedVariables false
set_option maxRecDepth 100000

def sumB (ms : List MemV) : Nat := (ms.map fun m => m.body.length).sum
def goodL (ms : List MemV) : Bool := decide (ms.length ≤ 60) && (ms.all goodD && decide (sumB ms ≤ 100000))
theorem sumB_snoc (ms : List MemV) (m : MemV) : sumB (ms ++ [m]) = sumB ms + m.body.length := by simp [sumB]
theorem goodL_facts {ms : List MemV} (h : goodL ms = true) : ms.length ≤ 60 ∧ (∀ m ∈ ms, GoodM m) ∧ sumB ms ≤ 100000 := by
  simp only [goodL, Bool.and_eq_true, decide_eq_true_eq, List.all_eq_true] at h
  exact ⟨h.1, fun m hm => good_facts (h.2.1 m hm), h.2.2⟩
theorem sumB_le (ms : List MemV) (h : ∀ m ∈ ms, goodD m = true) : sumB ms ≤ ms.length * 1048576 := by
  induction ms with
  | nil => exact Nat.zero_le _
  | cons m ms ih =>
    have h1 := (good_facts (h m (List.mem_cons_self ..))).body
    have h2 := ih (fun x hx => h x (List.mem_cons_of_mem _ hx))
    simp only [sumB, List.map_cons, List.sum_cons, List.length_cons] at h2 ⊢
    omega
set_option maxHeartbeats 4000000 in
theorem lgood_any (p : Option Addr) (n c : Nat) (xs : List MP) (w : World) (hM : MemsAt w p n xs) (hR : ∀ x ∈ xs, x.m.path.length ≤ 140737488351232 ∧ x.m.target.length ≤ 140737488351232) :
    Calls Tryz.prog 20 #[.slice p n c] w fun e w' => e = .returned (.bool (goodL (xs.map MP.m))) ∧ Below w.heap.size w w' := by
  have HM := Lib.hid hM
  have HL := Lib.hid hM.1
  have HR := Lib.hid hR
  clear hM hR
  go_enter Tryz.func20, Tryz.ntmps20
  go_wp2_with fail
  go_loopw [3, 4] (fun s i wr => ∃ (k S : Nat), k ≤ n ∧ i = .int .i64 (k : Int) ∧ s = .int .i64 (S : Int) ∧ (k = 0 ∨ n ≤ 60) ∧ S ≤ k * 1048576 ∧ Hid (S = sumB ((xs.take k).map MP.m)) ∧ Hid (∀ m ∈ (xs.take k).map MP.m, goodD m = true) ∧ Hid (Below w.heap.size w wr)) (fun _ i _ => n - (RowKit.intOf i).toNat)
  case atStart => exact ⟨0, 0, Nat.zero_le _, rfl, rfl, .inl rfl, Nat.le_refl _, Lib.hid rfl, Lib.hid (by simp), Lib.hid (Below.refl _ _)⟩
  case round =>
    obtain ⟨k, S, hk, rfl, rfl, hk60, hS, hE, hG, hB⟩ := hrel
    by_cases hlt : k < n
    · by_cases h60 : 60 < n
      · have E : Hid (goodL (xs.map MP.m) = false) := Lib.hid (by
          unfold goodL
          rw [List.length_map, HL.out, decide_eq_false (by omega), Bool.false_and])
        have h60i : (60 : Int) < (n : Int) := by omega
        have hltz : (k : Int) < (n : Int) := by omega
        go_wp2
        go_ret
        exact ⟨by rw [E.out]; rfl, hB.out⟩
      · have h60i : ¬ ((60 : Int) < (n : Int)) := by omega
        have hltz : (k : Int) < (n : Int) := by omega
        have hkl : k < xs.length := by rw [HL.out]; exact hlt
        have hT := takeP_succ xs k hkl
        have hmem := getP_mem xs k hkl
        obtain ⟨b1, o1, rfl, hb1, hB1, hc1⟩ := (HM.out.below hB.out).cells8 hlt
        obtain ⟨y, hy⟩ : ∃ y, xs.getD k zeroP = y := ⟨_, rfl⟩
        rw [hy] at hT hmem hc1
        have HT := Lib.hid hT
        have HMEM := Lib.hid hmem
        have HC1 := Lib.hid hc1
        have HB1 := Lib.hid hb1
        obtain ⟨c0, c1, c2, c3, c4, c5, c6, c7⟩ := hc1
        clear hB1 hb1 hy hT hmem hkl
        go_wp2_with fail
        refine (rgood_any y.m y.p y.c _ (HR.out y HMEM.out).1 (HR.out y HMEM.out).2).mono ?_
        rintro e w4 ⟨rfl, hb4⟩
        have HB4 := Lib.hid (hB.out.trans (hb4.mono hB.out.size))
        have y7 := (HC1.out.below HB1.out hb4).2.2.2.2.2.2.2
        clear hb4 c0 c1 c2 c3 c4 c5 c6 c7
        obtain ⟨g, hg⟩ : ∃ g, goodD y.m = g := ⟨_, rfl⟩
        rw [hg]
        cases g with
        | false =>
          have E : Hid (goodL (xs.map MP.m) = false) := Lib.hid (by
            have hf : (xs.map MP.m).all goodD = false := by
              rw [Bool.eq_false_iff]
              intro h
              have hh := List.all_eq_true.1 h y.m (List.mem_map_of_mem HMEM.out)
              rw [hg] at hh
              cases hh
            unfold goodL
            rw [hf, Bool.false_and, Bool.and_false])
          clear hg
          go_wp2
          go_ret
          exact ⟨by rw [E.out]; rfl, HB4.out⟩
        | true =>
          have hbd := (good_facts hg).body
          have HE2 : Hid (S + y.m.body.length = sumB ((xs.take (k + 1)).map MP.m)) := Lib.hid (by rw [HT.out, sumB_snoc, ← hE.out])
          have HG2 : Hid (∀ m ∈ (xs.take (k + 1)).map MP.m, goodD m = true) := Lib.hid (by
            rw [HT.out]
            intro m hm
            rcases List.mem_append.1 hm with h | h
            · exact hG.out m h
            · rw [List.mem_singleton] at h
              rw [h]
              exact hg)
          clear hg
          obtain ⟨bl, hbl⟩ : ∃ bl, y.m.body.length = bl := ⟨_, rfl⟩
          rw [hbl] at hbd HE2 y7
          clear hbl
          have hs2 : S + bl ≤ (k + 1) * 1048576 := by omega
          have hs3 : S + bl ≤ 100000000 := by omega
          go_wp2
          go_roundw
          case rel => exact ⟨k + 1, S + bl, by omega, by go_num, by go_num, by omega, hs2, HE2, HG2, HB4⟩
          case measure => simp [RowKit.intOf]; omega
    · obtain rfl : k = n := by omega
      have hks : ¬ ((k : Int) < (k : Int)) := by omega
      have e : xs.take k = xs := List.take_of_length_le (by rw [HL.out]; exact Nat.le_refl _)
      rw [e] at hE hG
      have E : Hid (goodL (xs.map MP.m) = decide ((S : Int) ≤ 100000)) := Lib.hid (by
        unfold goodL
        rw [List.length_map, HL.out, decide_eq_true (by omega), List.all_eq_true.2 hG.out, ← hE.out, Bool.true_and, Bool.true_and]
        congr 1
        exact propext (by omega))
      clear e
      go_wp2
      go_ret
      exact ⟨by rw [E.out]; rfl, hB.out⟩
end Go.Proofs.YtdjedimjhogdoaaGreatDoor.Mem
end
section
namespace Go.Proofs.YtdjedimjhogdoaaGreatDoor.Head
open Go.ChangeShapes Go.WideShapes Go.ChangeAt Go.RowKit Go.Proofs.YtdjedimjhogdoaaGreatDoor.Base Go.Proofs.YtdjedimjhogdoaaGreatDoor.Byt Go.Proofs.YtdjedimjhogdoaaGreatDoor.Txt Go.Proofs.YtdjedimjhogdoaaGreatDoor.Hp Go.Lib
set_option linter.unusedVariables false
set_option maxRecDepth 100000

theorem list9 {α : Type} (l : List α) (h : l.length = 9) : ∃ a b c d e f g i j, l = [a, b, c, d, e, f, g, i, j] := by
  match l, h with
  | [a, b, c, d, e, f, g, i, j], _ => exact ⟨a, b, c, d, e, f, g, i, j, rfl⟩
theorem list4 {α : Type} (l : List α) (h : l.length = 4) : ∃ a b c d, l = [a, b, c, d] := by
  match l, h with
  | [a, b, c, d], _ => exact ⟨a, b, c, d, rfl⟩
theorem list6 {α : Type} (l : List α) (h : l.length = 6) : ∃ a b c d e f, l = [a, b, c, d, e, f] := by
  match l, h with
  | [a, b, c, d, e, f], _ => exact ⟨a, b, c, d, e, f, rfl⟩
theorem cells9 : Tryz.prog.cellsOf 57 = 9 := by kernel_rfl
theorem cellsM : Tryz.prog.cellsOf 35 = 4 := by kernel_rfl
theorem cellsS : Tryz.prog.cellsOf 9 = 1 := by kernel_rfl
theorem cellsI : Tryz.prog.cellsOf 3 = 1 := by kernel_rfl
theorem cellsU : Tryz.prog.cellsOf 5 = 1 := by kernel_rfl
theorem cellsB : Tryz.prog.cellsOf 4 = 1 := by kernel_rfl
section
variable {H : Type} {enc : TypeId × Value → H} {w : World} {base : Nat} {held : Bool} {spare : Nat → Bool}
theorem head_open {v : Value} {d : DataW H} {ps : List MemPlace} (h : DataW.Trod enc Tryz.prog w base spare held 57 v d ps) :
    ∃ hv : HeadV, v = .agg (headC hv) ∧ (∀ i, (Lit.int .i64 (numH hv i)).wf = true) ∧ ∃ r, d = .agg (.lit (.string hv.name) :: .lit (.string hv.link) :: r) := by
  obtain ⟨fuel, hf⟩ := h
  obtain ⟨xs, n, rfl, hx, hl, hxl, hall⟩ := DataW.trod_struct Tryz.underlying57 hf
  rw [cells9] at hl
  obtain ⟨cs, rfl⟩ : ∃ cs, v = .agg cs := by
    cases v <;> first | exact ⟨_, rfl⟩ | (simp [Value.cells] at hl)
  obtain ⟨a, b, c, e, f, g, i, j, k, hcs⟩ := list9 cs.toList (by simpa [Value.cells] using hl)
  obtain ⟨x0, x1, x2, x3, x4, x5, rfl⟩ := list6 xs (by simpa using hxl)
  have hcells : (Value.agg cs).cells.toList = [a, b, c, e, f, g, i, j, k] := hcs
  rw [hcells] at hall
  have h0 := hall 0 _ rfl
  have h1 := hall 1 _ rfl
  have h2 := hall 2 _ rfl
  have h3 := hall 3 _ rfl
  have h4 := hall 4 _ rfl
  have h5 := hall 5 _ rfl
  simp only [List.getElem_toArray, List.getElem_cons_zero, List.getElem_cons_succ, cellsM, cellsS, cellsI, cellsU, cellsB, List.drop_zero, List.drop_succ_cons, List.take_succ_cons, List.take_zero, List.getElem?_cons_zero, List.getElem?_cons_succ] at h0 h1 h2 h3 h4 h5
  obtain ⟨s0, e0, rfl, z0⟩ := DataW.trod_string Tryz.underlying9 h0
  obtain ⟨s1, e1, rfl, z1⟩ := DataW.trod_string Tryz.underlying9 h1
  obtain ⟨k2, e2, rfl, z2⟩ := DataW.trod_int Tryz.underlying5 h2
  obtain ⟨ys, n', rfl, hy, hl', hyl, hall'⟩ := DataW.trod_struct Tryz.underlying35 h3
  obtain ⟨k4, e4, rfl, z4⟩ := DataW.trod_int Tryz.underlying3 h4
  obtain ⟨k5, e5, rfl⟩ := DataW.trod_bool Tryz.underlying4 h5
  obtain ⟨y0, y1, y2, y3, rfl⟩ := list4 ys (by simpa using hyl)
  have g0 := hall' 0 _ rfl
  have g1 := hall' 1 _ rfl
  have g2 := hall' 2 _ rfl
  have g3 := hall' 3 _ rfl
  simp only [List.getElem_toArray, List.getElem_cons_zero, List.getElem_cons_succ, cellsI, List.drop_zero, List.drop_succ_cons, List.take_succ_cons, List.take_zero, List.getElem?_cons_zero, List.getElem?_cons_succ] at g0 g1 g2 g3
  obtain ⟨m0, f0, rfl, q0⟩ := DataW.trod_int Tryz.underlying3 g0
  obtain ⟨m1, f1, rfl, q1⟩ := DataW.trod_int Tryz.underlying3 g1
  obtain ⟨m2, f2, rfl, q2⟩ := DataW.trod_int Tryz.underlying3 g2
  obtain ⟨m3, f3, rfl, q3⟩ := DataW.trod_int Tryz.underlying3 g3
  simp only [List.cons.injEq, and_true] at e0 e1 e2 e4 e5 f0 f1 f2 f3
  subst e0 e1 e2 e4 e5 f0 f1 f2 f3
  obtain ⟨k0, k1⟩ := wf8 z2
  refine ⟨⟨s0.data.toList, s1.data.toList, UInt8.ofNat k2.toNat, m0, m1, m2, m3, k4, k5⟩, ?_, fun i => ?_, ?_⟩
  · congr 1
    apply Array.toList_inj.1
    rw [hcs]
    unfold headC
    rw [str_of, str_of, show ((UInt8.ofNat k2.toNat).toNat : Int) = k2 by rw [UInt8.toNat_ofNat']; omega]
  · unfold numH
    split
    · exact q0
    · exact q1
    · exact q2
    · exact z4
    · exact q3
    · decide
  · simp only [Prod.mk.injEq] at hx
    rw [hx.1]
    exact ⟨_, rfl⟩
/-- how long its texts are -/
theorem head_sized {ts : List TypeId} {ds : List (DataW H)} (hz : (DataW.weightsEach Tryz.prog ts ds).all (· ≤ reachBytes) = true) {j : Nat} {a b : List UInt8} {r : List (DataW H)}
    (ht : ts[j]? = some 57) (hd : ds[j]? = some (.agg (.lit (.string a) :: .lit (.string b) :: r))) : a.length ≤ 140737488351232 ∧ b.length ≤ 140737488351232 := by
  have h := List.all_eq_true.1 hz
  have e : (DataW.agg (.lit (.string a) :: .lit (.string b) :: r) : DataW H).weights Tryz.prog 57 = DataW.weightsEach Tryz.prog [9, 9, 5, 35, 3, 4] (.lit (.string a) :: .lit (.string b) :: r) := by
    simp only [DataW.weights, Tryz.underlying57]
    rfl
  have h1 := h a.length (DataW.weights_mem_each ht hd _ (by rw [e]; simp [DataW.weightsEach, DataW.weights]))
  have h2 := h b.length (DataW.weights_mem_each ht hd _ (by rw [e]; simp [DataW.weightsEach, DataW.weights]))
  simp [reachBytes] at h1 h2
  exact ⟨of_decide_eq_true h1, of_decide_eq_true h2⟩
end
end Go.Proofs.YtdjedimjhogdoaaGreatDoor.Head
end
section
namespace Go.Proofs.YtdjedimjhogdoaaGreatDoor.Rec
open Go.ChangeShapes Go.WideShapes Go.ChangeAt Go.RowKit Go.Deep Go.Proofs.YtdjedimjhogdoaaGreatDoor.Base Go.Proofs.YtdjedimjhogdoaaGreatDoor.Byt Go.Proofs.YtdjedimjhogdoaaGreatDoor.Txt Go.Lib
set_option linter.unusedVariables false
set_option maxRecDepth 100000

theorem rcells : Tryz.prog.cellsOf 53 = 2 := by kernel_rfl
theorem rcellsS : Tryz.prog.cellsOf 9 = 1 := by kernel_rfl
theorem list_two {α : Type} (l : List α) (h : l.length = 2) : ∃ a b, l = [a, b] := by
  match l, h with
  | [a, b], _ => exact ⟨a, b, rfl⟩
section
variable {H : Type} {enc : TypeId × Value → H} {w : World} {base : Nat} {held : Bool} {spare : Nat → Bool}
theorem rec_open {v : Value} {d : DataW H} {ps : List MemPlace} (h : DataW.Trod enc Tryz.prog w base spare held 53 v d ps) :
    ∃ k x : List UInt8, v = .agg #[.string (str k), .string (str x)] ∧ d = .agg [.lit (.string k), .lit (.string x)] := by
  obtain ⟨fuel, hf⟩ := h
  obtain ⟨xs, n, rfl, hx, hl, hxl, hall⟩ := DataW.trod_struct Tryz.underlying53 hf
  rw [rcells] at hl
  obtain ⟨cs, rfl⟩ : ∃ cs, v = .agg cs := by
    cases v <;> first | exact ⟨_, rfl⟩ | (simp [Value.cells] at hl)
  obtain ⟨a, b, hcs⟩ := list_two cs.toList (by simpa [Value.cells] using hl)
  obtain ⟨x0, x1, rfl⟩ := list_two xs (by simpa using hxl)
  have hcells : (Value.agg cs).cells.toList = [a, b] := hcs
  rw [hcells] at hall
  have h0 := hall 0 _ rfl
  have h1 := hall 1 _ rfl
  simp only [List.getElem_toArray, List.getElem_cons_zero, List.getElem_cons_succ, rcellsS, List.drop_zero, List.drop_succ_cons, List.take_succ_cons, List.take_zero, List.getElem?_cons_zero, List.getElem?_cons_succ] at h0 h1
  obtain ⟨s0, e0, rfl, z0⟩ := DataW.trod_string Tryz.underlying9 h0
  obtain ⟨s1, e1, rfl, z1⟩ := DataW.trod_string Tryz.underlying9 h1
  simp only [List.cons.injEq, and_true] at e0 e1
  subst e0 e1
  refine ⟨s0.data.toList, s1.data.toList, ?_, ?_⟩
  · congr 1
    apply Array.toList_inj.1
    rw [hcs, str_of, str_of]
  · simp only [Prod.mk.injEq] at hx
    rw [hx.1]
    rfl
theorem weights_rec (k x : List UInt8) : (DataW.agg [.lit (.string k), .lit (.string x)] : DataW H).weights Tryz.prog 53 = [k.length, x.length] := by
  simp only [DataW.weights, Tryz.underlying53]
  rfl
theorem rec_sized {ts : List TypeId} {ds : List (DataW H)} (hz : (DataW.weightsEach Tryz.prog ts ds).all (· ≤ reachBytes) = true) {j : Nat} {k x : List UInt8}
    (ht : ts[j]? = some 53) (hd : ds[j]? = some (.agg [.lit (.string k), .lit (.string x)])) : k.length ≤ 140737488351232 ∧ x.length ≤ 140737488351232 := by
  have h := List.all_eq_true.1 hz
  have h1 := h k.length (DataW.weights_mem_each ht hd _ (by rw [weights_rec]; simp))
  have h2 := h x.length (DataW.weights_mem_each ht hd _ (by rw [weights_rec]; simp))
  simp [reachBytes] at h1 h2
  exact ⟨of_decide_eq_true h1, of_decide_eq_true h2⟩
theorem weights_all {P : Program} {e : TypeId} {l : List (DataW H)} {d : DataW H} (hd : d ∈ l) {n : Nat} (hn : n ∈ d.weights P e) : n ∈ DataW.weightsAll P e l := by
  induction l with
  | nil => cases hd
  | cons a l ih =>
    simp only [DataW.weightsAll, List.mem_append]
    rcases List.mem_cons.1 hd with rfl | h
    · exact .inl hn
    · exact .inr (ih h)
theorem recs_open {a : Option Addr} {len cap : Nat} {d : DataW H} {ps : List MemPlace} {ts : List TypeId} {ds : List (DataW H)} (hz : (DataW.weightsEach Tryz.prog ts ds).all (· ≤ reachBytes) = true) {j : Nat} (ht : ts[j]? = some 73) (hd : ds[j]? = some d)
    (h : DataW.Trod enc Tryz.prog w base (fun _ => true) held 73 (.slice a len cap) d ps) :
    ∃ rs, RecsAt w a len rs ∧ len ≤ cap ∧ cap ≤ maxLen ∧ (∀ r ∈ rs, r.1.length ≤ 140737488351232 ∧ r.2.length ≤ 140737488351232) ∧ cap * 32 ≤ 140737488351232 := by
  obtain ⟨fuel, hf⟩ := h
  rcases open_slice_pairs Tryz.underlying73 Tryz.underlying53 rcells rfl rfl rcellsS rcellsS hf with ⟨hcs, _⟩ | ⟨x, l, c, m, n, V0, V1, D0, D1, P0, P1, hcs, _, hl, hm, hmm, hdd, hc⟩
  · simp [Value.cells] at hcs
    obtain ⟨rfl, rfl, rfl⟩ := hcs
    exact ⟨[], ⟨rfl, fun h => absurd h (by omega)⟩, by omega, by omega, by simp, by omega⟩
  · simp [Value.cells] at hcs
    obtain ⟨rfl, rfl, rfl⟩ := hcs
    simp only [if_true] at hmm
    subst hmm
    simp only [Prod.mk.injEq] at hdd
    obtain ⟨hdd, _⟩ := hdd
    obtain ⟨K, hK⟩ := choose_lt (p := fun i (b : List UInt8) => V0 i = .string (str b) ∧ D0 i = .lit (.string b)) (fun i hi' => by
      obtain ⟨b, h1, h2, _⟩ := DataW.trod_string Tryz.underlying9 (hc i hi').2.2.1
      refine ⟨b.data.toList, ?_, ?_⟩
      · rw [str_of]; simpa using h1
      · have h3 := h2
        simp at h3
        exact h3.1)
    obtain ⟨X, hX⟩ := choose_lt (p := fun i (b : List UInt8) => V1 i = .string (str b) ∧ D1 i = .lit (.string b)) (fun i hi' => by
      obtain ⟨b, h1, h2, _⟩ := DataW.trod_string Tryz.underlying9 (hc i hi').2.2.2
      refine ⟨b.data.toList, ?_, ?_⟩
      · rw [str_of]; simpa using h1
      · have h3 := h2
        simp at h3
        exact h3.1)
    have hw := List.all_eq_true.1 hz
    have hget : ∀ i, i < len → ((List.range len).map fun i => (K i, X i)).getD i ([], []) = (K i, X i) := fun i hi => by
      simp [List.getD, hi]
    refine ⟨(List.range len).map fun i => (K i, X i), ⟨by simp, fun h0 => ?_⟩, hl, hm, fun r hr => ?_, ?_⟩
    · have hx : x = ⟨x.block, x.off, none⟩ := by
        obtain ⟨b, o, s⟩ := x
        have hs : s = none := by simpa [Addr.add] using World.cell?_spot (hc 0 (by omega)).1
        rw [hs]
      refine ⟨x.block, x.off, by rw [← hx], ?_, fun i hi => ?_⟩
      · have := (hc 0 (by omega)).1
        first | rw [hx, Lib.add_plain] at this | rw [hx, WideShapes.add_plain] at this
        have := World.block_lt_of_cell? _ _ this
        exact this
      · have h1 := (hc i (by omega)).1
        have h2 := (hc i (by omega)).2.1
        first | rw [hx, Lib.add_plain] at h1 h2 | rw [hx, WideShapes.add_plain] at h1 h2
        rw [(hK i (by omega)).1] at h1
        rw [(hX i (by omega)).1] at h2
        rw [hget i hi, Nat.mul_comm]
        exact ⟨h1, by rw [Nat.add_assoc]; exact h2⟩
    · obtain ⟨i, hi, rfl⟩ := List.mem_map.1 hr
      have hi' : i < len := List.mem_range.1 hi
      have hmem : (DataW.agg [D0 i, D1 i] : DataW H) ∈ (List.range len).map fun i => .agg [D0 i, D1 i] := List.mem_map.2 ⟨i, hi, rfl⟩
      have e1 : (DataW.agg [D0 i, D1 i] : DataW H).weights Tryz.prog 53 = [(K i).length, (X i).length] := by
        rw [(hK i (by omega)).2, (hX i (by omega)).2, weights_rec]
      have hin : ∀ z ∈ [(K i).length, (X i).length], z ∈ d.weights Tryz.prog 73 := fun z hz' => by
        rw [hdd]
        simp only [DataW.weights, Tryz.underlying73, List.mem_cons, List.mem_append]
        exact .inr (.inl (weights_all hmem (by rw [e1]; exact hz')))
      have h1 := hw _ (DataW.weights_mem_each ht hd _ (hin (K i).length (by simp)))
      have h2 := hw _ (DataW.weights_mem_each ht hd _ (hin (X i).length (by simp)))
      simp [reachBytes] at h1 h2
      exact ⟨of_decide_eq_true h1, of_decide_eq_true h2⟩
    · rw [hdd] at hd
      have hr := sized_slice hz ht hd Tryz.underlying73
      rw [(by kernel_rfl : Tryz.prog.bytesOf 53 = 32)] at hr
      simp only [List.length_map, List.length_range, reachBytes] at hr
      omega
end
end Go.Proofs.YtdjedimjhogdoaaGreatDoor.Rec
end
section
namespace Go.Proofs.YtdjedimjhogdoaaGreatDoor.Mem
open Go.ChangeShapes Go.WideShapes Go.ChangeAt Go.RowKit Go.Deep Go.Proofs.YtdjedimjhogdoaaGreatDoor.Base Go.Proofs.YtdjedimjhogdoaaGreatDoor.Byt Go.Proofs.YtdjedimjhogdoaaGreatDoor.Txt Go.Proofs.YtdjedimjhogdoaaGreatDoor.Bk Go.Proofs.YtdjedimjhogdoaaGreatDoor.Hp Go.Proofs.YtdjedimjhogdoaaGreatDoor.Head Go.Proofs.YtdjedimjhogdoaaGreatDoor.Rec Go.Lib
set_option linter.unusedVariables false
set_option maxRecDepth 100000

theorem list8 {α : Type} (l : List α) (h : l.length = 8) : ∃ a b c d e f g i, l = [a, b, c, d, e, f, g, i] := by
  match l, h with
  | [a, b, c, d, e, f, g, i], _ => exact ⟨a, b, c, d, e, f, g, i, rfl⟩
theorem list5 {α : Type} (l : List α) (h : l.length = 5) : ∃ a b c d e, l = [a, b, c, d, e] := by
  match l, h with
  | [a, b, c, d, e], _ => exact ⟨a, b, c, d, e, rfl⟩
theorem cells8 : Tryz.prog.cellsOf 37 = 8 := by kernel_rfl
theorem cellsY : Tryz.prog.cellsOf 22 = 1 := by kernel_rfl
instance : Inhabited MP := ⟨zeroP⟩
/-- its numbers are int's -/
def WfM (m : MemV) : Prop := (Lit.int .i64 m.mode).wf = true ∧ (Lit.int .i64 m.uid).wf = true ∧ (Lit.int .i64 m.gid).wf = true ∧ (Lit.int .i64 m.time).wf = true
/-- its texts and its body have room in memory -/
def RoomM (x : MP) : Prop := x.m.path.length ≤ 140737488351232 ∧ x.m.target.length ≤ 140737488351232 ∧ x.c ≤ 140737488351232
section
variable {H : Type} {enc : TypeId × Value → H} {w : World} {base : Nat} {held : Bool}
theorem mem_cells {cs : List Value} {d : DataW H} {ps : List MemPlace} {fuel : Nat} (hw : ∀ z ∈ d.weights Tryz.prog 37, z ≤ reachBytes)
    (hf : DataW.trod enc Tryz.prog w base (fun _ => true) held fuel 37 cs = some (d, ps)) :
    ∃ x : MP, cs = x.cs.toList ∧ BodyAt w x ∧ WfM x.m ∧ RoomM x := by
  obtain ⟨xs, n, rfl, hx, hl, hxl, hall⟩ := DataW.trod_struct Tryz.underlying37 hf
  rw [cells8] at hl
  obtain ⟨a, b, c, e, f, g, i, j, rfl⟩ := list8 cs hl
  obtain ⟨x0, x1, x2, x3, x4, rfl⟩ := list5 xs (by simpa using hxl)
  have h0 := hall 0 _ rfl
  have h1 := hall 1 _ rfl
  have h2 := hall 2 _ rfl
  have h3 := hall 3 _ rfl
  have h4 := hall 4 _ rfl
  simp only [List.getElem_toArray, List.getElem_cons_zero, List.getElem_cons_succ, cellsM, cellsS, cellsU, cellsY, List.drop_zero, List.drop_succ_cons, List.take_succ_cons, List.take_zero, List.getElem?_cons_zero, List.getElem?_cons_succ] at h0 h1 h2 h3 h4
  obtain ⟨s0, e0, rfl, z0⟩ := DataW.trod_string Tryz.underlying9 h0
  obtain ⟨s1, e1, rfl, z1⟩ := DataW.trod_string Tryz.underlying9 h1
  obtain ⟨k2, e2, rfl, z2⟩ := DataW.trod_int Tryz.underlying5 h2
  obtain ⟨ys, n', rfl, hy, hl', hyl, hall'⟩ := DataW.trod_struct Tryz.underlying35 h3
  obtain ⟨y0, y1, y2, y3, rfl⟩ := list4 ys (by simpa using hyl)
  have g0 := hall' 0 _ rfl
  have g1 := hall' 1 _ rfl
  have g2 := hall' 2 _ rfl
  have g3 := hall' 3 _ rfl
  simp only [List.getElem_toArray, List.getElem_cons_zero, List.getElem_cons_succ, cellsI, List.drop_zero, List.drop_succ_cons, List.take_succ_cons, List.take_zero, List.getElem?_cons_zero, List.getElem?_cons_succ] at g0 g1 g2 g3
  obtain ⟨m0, f0, rfl, q0⟩ := DataW.trod_int Tryz.underlying3 g0
  obtain ⟨m1, f1, rfl, q1⟩ := DataW.trod_int Tryz.underlying3 g1
  obtain ⟨m2, f2, rfl, q2⟩ := DataW.trod_int Tryz.underlying3 g2
  obtain ⟨m3, f3, rfl, q3⟩ := DataW.trod_int Tryz.underlying3 g3
  simp only [List.cons.injEq, and_true] at e0 e1 e2 f0 f1 f2 f3
  subst e0 e1 e2 f0 f1 f2 f3
  obtain ⟨k0, k1⟩ := wf8 z2
  simp only [Prod.mk.injEq, List.map_cons, List.map_nil] at hx
  obtain ⟨hd, _⟩ := hx
  have ew : d.weights Tryz.prog 37 = DataW.weightsEach Tryz.prog [9, 9, 5, 35, 22] [.lit (.string s0.data.toList), .lit (.string s1.data.toList), .lit (.int .u8 k2), x3.1, x4.1] := by
    rw [hd]
    simp only [DataW.weights, Tryz.underlying37]
    rfl
  have w0 := hw s0.data.toList.length (by rw [ew]; simp [DataW.weightsEach, DataW.weights])
  have w1 := hw s1.data.toList.length (by rw [ew]; simp [DataW.weightsEach, DataW.weights])
  have w4 : ∀ z ∈ x4.1.weights Tryz.prog 22, z ≤ reachBytes := fun z hz => hw z (by
    rw [ew]
    simp only [DataW.weightsEach, List.mem_append]
    exact .inr (.inr (.inr (.inr (.inl hz)))))
  have ek : ((UInt8.ofNat k2.toNat).toNat : Int) = k2 := by rw [UInt8.toNat_ofNat']; omega
  simp only [reachBytes] at w0 w1
  rcases open_ints Tryz.underlying22 Tryz.underlying5 cellsU h4 with ⟨hcs, _⟩ | ⟨x, l, cp, zs, hcs, _, hlc, hmx, hz, hxx, hcell, hwz⟩
  · simp only [List.cons.injEq, and_true] at hcs
    subst hcs
    refine ⟨⟨⟨s0.data.toList, s1.data.toList, UInt8.ofNat k2.toNat, m0, m1, m2, m3, []⟩, none, 0⟩, ?_, ⟨fun h0 => by simp at h0, Nat.le_refl _, by show (0 : Nat) ≤ maxLen; decide⟩, ⟨q0, q1, q2, q3⟩, by omega, by omega, by show 0 ≤ _; omega⟩
    rw [MP.cs_list, str_of, str_of, ek]
    rfl
  · simp only [List.cons.injEq, and_true] at hcs
    subst hcs
    simp only [if_true] at hz
    have hrow : IsRow .u8 w (some x) l cp zs := .inr ⟨_, rfl, hlc, hmx, hz, fun i hi => hcell i hi, hwz⟩
    obtain ⟨b1, b2, b3, b4⟩ := bat_of_row hrow
    have wc := w4 (cp * 1) (by
      rw [hxx]
      simp only [DataW.weights, Tryz.underlying22, List.mem_cons, List.mem_append, lits, List.length_map, List.length_take, List.length_drop]
      refine .inl ?_
      rw [(by kernel_rfl : Tryz.prog.bytesOf 5 = 1)]
      congr 1
      omega)
    simp only [reachBytes] at wc
    refine ⟨⟨⟨s0.data.toList, s1.data.toList, UInt8.ofNat k2.toNat, m0, m1, m2, m3, bytesOf (zs.take l)⟩, some x, cp⟩, ?_, ⟨?_, ?_, hmx⟩, ⟨q0, q1, q2, q3⟩, by omega, by omega, by show cp ≤ _; omega⟩
    · rw [MP.cs_list, str_of, str_of, ek]
      simp only [b2]
    · show BAt w (some x) (bytesOf (zs.take l)).length (bytesOf (zs.take l))
      rw [b2]
      exact b1
    · show (bytesOf (zs.take l)).length ≤ cp
      rw [b2]
      exact hlc
theorem mem_open {v : Value} {d : DataW H} {ps : List MemPlace} {ts : List TypeId} {ds : List (DataW H)} (hz : (DataW.weightsEach Tryz.prog ts ds).all (· ≤ reachBytes) = true) {j : Nat} (ht : ts[j]? = some 37) (hd : ds[j]? = some d)
    (h : DataW.Trod enc Tryz.prog w base (fun _ => true) held 37 v d ps) :
    ∃ x : MP, v = .agg x.cs ∧ BodyAt w x ∧ WfM x.m ∧ RoomM x := by
  obtain ⟨fuel, hf⟩ := h
  have hw := List.all_eq_true.1 hz
  obtain ⟨x, h1, h2⟩ := mem_cells (fun z hzz => of_decide_eq_true (hw _ (DataW.weights_mem_each ht hd _ hzz))) hf
  refine ⟨x, ?_, h2⟩
  obtain ⟨cs, rfl⟩ : ∃ cs, v = .agg cs := by
    have hl := congrArg List.length h1
    rw [MP.cs_list] at hl
    cases v <;> first | exact ⟨_, rfl⟩ | (simp [Value.cells] at hl)
  congr 1
  apply Array.toList_inj.1
  exact h1
theorem mems_open {a : Option Addr} {len cap : Nat} {d : DataW H} {ps : List MemPlace} {ts : List TypeId} {ds : List (DataW H)} (hz : (DataW.weightsEach Tryz.prog ts ds).all (· ≤ reachBytes) = true) {j : Nat} (ht : ts[j]? = some 25) (hd : ds[j]? = some d)
    (h : DataW.Trod enc Tryz.prog w base (fun _ => true) held 25 (.slice a len cap) d ps) :
    ∃ xs : List MP, MemsAt w a len xs ∧ len ≤ cap ∧ cap ≤ maxLen ∧ cap * 96 ≤ 140737488351232 ∧ ∀ x ∈ xs, WfM x.m ∧ RoomM x := by
  obtain ⟨fuel, hf⟩ := h
  rcases open_slice Tryz.underlying25 hf with ⟨hcs, _⟩ | ⟨x, l, c, m, n, D, Pl, hcs, hb, hl, hm, hmm, hdd, hx⟩
  · simp [Value.cells] at hcs
    obtain ⟨rfl, rfl, rfl⟩ := hcs
    exact ⟨[], mems_nil w none, by omega, by omega, by omega, fun x hx => by simp at hx⟩
  · simp [Value.cells] at hcs
    obtain ⟨rfl, rfl, rfl⟩ := hcs
    simp only [if_true] at hmm
    subst hmm
    simp only [Prod.mk.injEq] at hdd
    obtain ⟨hdd, _⟩ := hdd
    have hw := List.all_eq_true.1 hz
    have key : ∀ i, i < len → ∃ q : MP, w.cells? base (x.add (i * 8)) 8 = some q.cs.toList ∧ BodyAt w q ∧ WfM q.m ∧ RoomM q := fun i hi => by
      obtain ⟨cs', h1, h2⟩ := hx i (by omega)
      rw [cells8] at h1
      have hmem : D i ∈ (List.range len).map D := List.mem_map.2 ⟨i, List.mem_range.2 hi, rfl⟩
      obtain ⟨q, rfl, g⟩ := mem_cells (fun z hzz => by
        have hin : z ∈ d.weights Tryz.prog 25 := by
          rw [hdd]
          simp only [DataW.weights, Tryz.underlying25, List.mem_cons, List.mem_append]
          exact .inr (.inl (weights_all hmem hzz))
        exact of_decide_eq_true (hw _ (DataW.weights_mem_each ht hd _ hin))) h2
      exact ⟨q, h1, g⟩
    obtain ⟨q, hq⟩ := choose_lt key
    have hget : ∀ i, i < len → ((List.range len).map q).getD i zeroP = q i := fun i hi => by
      simp [List.getD, hi]
    have hbytes : m * 96 ∈ d.weights Tryz.prog 25 := by
      rw [hdd]
      simp only [DataW.weights, Tryz.underlying25, List.mem_cons, List.mem_append, List.length_map, List.length_range]
      refine .inl ?_
      rw [(by kernel_rfl : Tryz.prog.bytesOf 37 = 96)]
      congr 1
      omega
    have hby := of_decide_eq_true (hw _ (DataW.weights_mem_each ht hd _ hbytes))
    simp only [reachBytes] at hby
    refine ⟨(List.range len).map q, ⟨by simp, fun y hy => ?_, fun h0 => ?_⟩, hl, hm, hby, fun y hy => ?_⟩
    · obtain ⟨i, hi, rfl⟩ := List.mem_map.1 hy
      exact (hq i (List.mem_range.1 hi)).2.1
    · obtain ⟨_, _, hc0⟩ := World.cells?_some (hq 0 h0).1
      have c0 : w.cell? ((x.add (0 * 8)).add 0) = some (.string (str (q 0).m.path)) := hc0 0 (by omega)
      have hx0 : x = ⟨x.block, x.off, none⟩ := by
        obtain ⟨b, o, s⟩ := x
        have hs : s = none := by
          have : w.cell? (⟨b, o, s⟩ : Addr) = some (.string (str (q 0).m.path)) := by simpa [Addr.add] using c0
          exact World.cell?_spot this
        rw [hs]
      refine ⟨x.block, x.off, by rw [← hx0], ?_, fun i hi j hj => ?_⟩
      · have c0' : w.cell? ((x.add (0 * 8)).add 0) = some (.string (str (q 0).m.path)) := c0
        first | rw [hx0, Lib.add_plain, Lib.add_plain] at c0' | rw [hx0, WideShapes.add_plain, WideShapes.add_plain] at c0'
        have c1' := World.block_lt_of_cell? _ _ c0'
        exact c1'
      · obtain ⟨_, _, hci⟩ := World.cells?_some (hq i hi).1
        have := hci j hj
        first | rw [hx0, Lib.add_plain, Lib.add_plain] at this | rw [hx0, WideShapes.add_plain, WideShapes.add_plain] at this
        rw [hget i hi, show x.off + 8 * i + j = x.off + i * 8 + j by omega, this, Array.getElem?_toList]
    · obtain ⟨i, hi, rfl⟩ := List.mem_map.1 hy
      exact (hq i (List.mem_range.1 hi)).2.2
end
end Go.Proofs.YtdjedimjhogdoaaGreatDoor.Mem
end
section
namespace Go.Proofs.YtdjedimjhogdoaaGreatDoor.Mem
open Go.ChangeShapes Go.WideShapes Go.ChangeAt Go.RowKit Go.Proofs.YtdjedimjhogdoaaGreatDoor.Base Go.Proofs.YtdjedimjhogdoaaGreatDoor.Byt Go.Proofs.YtdjedimjhogdoaaGreatDoor.Txt Go.Proofs.YtdjedimjhogdoaaGreatDoor.Bk Go.Proofs.YtdjedimjhogdoaaGreatDoor.Hp Go.Proofs.YtdjedimjhogdoaaGreatDoor.Head Go.Lib
theorem kinds_read {k : UInt8} {ms : List MemV} (h : ∀ m ∈ ms, GoodM m) (hl : ms.length ≤ 60) {H : List UInt8} (h2 : H.length = 512) (h3 : headR H = (oddH k, 0)) :
    ((k = 120 ∨ k = 76 ∨ k = 75) ∧ membersD (putAllM ms ++ (H ++ List.replicate 1024 0)) = ([], 5, (putAllM ms).length + 512)) ∨
    ((k = 48 ∨ k = 49 ∨ k = 50 ∨ k = 53 ∨ k = 103) ∧ ∃ l, membersD (putAllM ms ++ (H ++ List.replicate 1024 0)) = (l, 0, 0)) ∨
    ((k ≠ 120 ∧ k ≠ 76 ∧ k ≠ 75 ∧ k ≠ 48 ∧ k ≠ 49 ∧ k ≠ 50 ∧ k ≠ 53 ∧ k ≠ 103) ∧ membersD (putAllM ms ++ (H ++ List.replicate 1024 0)) = ([], 8, (putAllM ms).length)) := by
  have ho : (moreS startS ms).out.length < 4096 := by rw [moreS_out]; show ([] ++ ms).length < 4096; rw [List.nil_append]; omega
  rw [read_then h (by omega)]
  by_cases c1 : k = 120 ∨ k = 76 ∨ k = 75
  · exact .inl ⟨c1, odd_ext h2 h3 c1 (moreS_bare start_bare ms) _⟩
  · by_cases c2 : k = 48 ∨ k = 49 ∨ k = 50 ∨ k = 53
    · obtain ⟨m, hm⟩ := odd_member h2 h3 c2 (moreS_bare start_bare ms) rfl ho (putAllM ms).length
      exact .inr (.inl ⟨by rcases c2 with h | h | h | h <;> simp [h], _, hm⟩)
    · by_cases c3 : k = 103
      · subst c3
        exact .inr (.inl ⟨by simp, _, odd_glob h2 h3 (moreS_bare start_bare ms) _⟩)
      · simp only [not_or] at c1 c2
        refine .inr (.inr ⟨⟨c1.1, c1.2.1, c1.2.2, c2.1, c2.2.1, c2.2.2.1, c2.2.2.2, c3⟩, odd_else h2 h3 ?_ ⟨c2.1, c2.2.1, c2.2.2.1, c2.2.2.2⟩ ho _ _⟩)
        simp [isExt, c1.1, c1.2.1, c1.2.2, c3]
theorem u8_of {K : Int} (h : (Lit.int .u8 K).wf = true) : ∃ k : UInt8, (k.toNat : Int) = K := by
  obtain ⟨h0, h1⟩ := wf8 h
  refine ⟨UInt8.ofNat K.toNat, ?_⟩
  rw [UInt8.toNat_ofNat']
  omega
theorem oddH_wf (k : UInt8) : ∀ i, (Lit.int .i64 (numH (oddH k) i)).wf = true := by
  intro i
  unfold numH oddH
  split <;> exact wf_i64 (n := 0) (by decide) (by decide)
end Go.Proofs.YtdjedimjhogdoaaGreatDoor.Mem
namespace Go.Proofs.YtdjedimjhogdoaaGreatDoor.Walk
open Go.ChangeShapes Go.WideShapes Go.ChangeAt Go.RowKit Go.Proofs.YtdjedimjhogdoaaGreatDoor.Base Go.Proofs.YtdjedimjhogdoaaGreatDoor.Byt Go.Proofs.YtdjedimjhogdoaaGreatDoor.Txt Go.Proofs.YtdjedimjhogdoaaGreatDoor.Bk Go.Proofs.YtdjedimjhogdoaaGreatDoor.Num Go.Proofs.YtdjedimjhogdoaaGreatDoor.Block Go.Proofs.YtdjedimjhogdoaaGreatDoor.Rec Go.Proofs.YtdjedimjhogdoaaGreatDoor.Hp Go.Proofs.YtdjedimjhogdoaaGreatDoor.Head Go.Proofs.YtdjedimjhogdoaaGreatDoor.Mem Go.Lib
set_option linter.unusedVariables false
set_option maxRecDepth 100000

set_option maxHeartbeats 4000000 in
theorem memberKinds (K : Int) (a1 : Option Addr) (len1 cap1 : Nat) (xs1 : List MP) (w : World) (w0 : (Lit.int .u8 K).wf = true) (ma : MemsAt w a1 len1 xs1) (lc : len1 ≤ cap1) (cm : cap1 ≤ maxLen) (by1 : cap1 * 96 ≤ 140737488351232) (rm : ∀ x ∈ xs1, WfM x.m ∧ RoomM x) (hT : Need w) :
    Calls Tryz.prog 9 #[.int .u8 K, .slice a1 len1 cap1] w fun e w' => e = .returned (.bool true) ∧ Below w.heap.size w w' := by
  obtain ⟨n, rfl⟩ : ∃ n, n = len1 := ⟨_, rfl⟩
  have hG := lgood_any a1 n cap1 xs1 w ma (fun x hx => ⟨(rm x hx).2.1, (rm x hx).2.2.1⟩)
  have HG := Lib.hid hG
  have HM := Lib.hid ma
  have HN := Lib.hid hT
  obtain ⟨k, hk⟩ : ∃ k : UInt8, (k.toNat : Int) = K := u8_of w0
  have HK := Lib.hid hk
  obtain ⟨g, hg⟩ : ∃ g, goodL (xs1.map MP.m) = g := ⟨_, rfl⟩
  rw [hg] at HG
  have HGL := Lib.hid hg
  clear hG ma lc cm by1 rm hT hg hk
  go_enter Tryz.func9, Tryz.ntmps9
  go_wp2_with fail
  refine HG.out.mono ?_
  rintro e w1 ⟨rfl, hb1⟩
  have HB1 := Lib.hid hb1
  clear hb1
  cases g with
  | false =>
    go_wp2_with fail
    refine (ans08_any _ (HN.out.below HB1.out)).mono ?_
    rintro e w2 ⟨rfl, hb2⟩
    have FIN := Lib.hid (HB1.out.trans (hb2.mono HB1.out.size))
    clear hb2
    go_wp2
    go_ret
    exact ⟨rfl, FIN.out⟩
  | true =>
    by_cases hk0 : K = 0
    · subst hk0
      go_wp2_with fail
      refine (ans08_any _ (HN.out.below HB1.out)).mono ?_
      rintro e w2 ⟨rfl, hb2⟩
      have FIN := Lib.hid (HB1.out.trans (hb2.mono HB1.out.size))
      clear hb2
      go_wp2
      go_ret
      exact ⟨rfl, FIN.out⟩
    · have hk0b : (K == 0) = false := by simpa using hk0
      have hkk : k ≠ 0 := fun e => hk0 (by rw [← HK.out, e]; rfl)
      obtain ⟨hl60, hgm, _⟩ := goodL_facts HGL.out
      rw [List.length_map, HM.out.1] at hl60
      obtain ⟨H, hp, h512, hrd⟩ := oddH_put hkk
      have HKR := Lib.hid (kinds_read (k := k) hgm (by rw [List.length_map, HM.out.1]; exact hl60) h512 hrd)
      have HH := Lib.hid (And.intro hp h512)
      have HGM : Hid (∀ x ∈ xs1, GoodM x.m) := Lib.hid (fun x hx => hgm _ (List.mem_map_of_mem hx))
      have HPA := Lib.hid (putAllM_len _ hgm)
      have HPH : Hid (∀ w', Calls Tryz.prog 26 #[.agg #[.string ⟨#[111, 100, 100]⟩, .string ⟨#[116, 111]⟩, .int .u8 K, .int .i64 0, .int .i64 0, .int .i64 0, .int .i64 0, .int .i64 0, .bool false]] w' (PutHPost w' (putR (oddH k)))) := Lib.hid (fun w' => by
        have := rputH_any (oddH k) (oddH_wf k) (by show (3 : Nat) ≤ _; decide) (by show (2 : Nat) ≤ _; decide) w'
        unfold oddH at this ⊢
        simp only at this
        rw [HK.out] at this
        exact this)
      clear hp h512 hrd hgm hk0 hkk
      go_wp2_with fail
      refine (HPH.out _).mono ?_
      rintro e w2 ⟨hk2, (⟨bs, gx, hr, rfl, hrow, hge⟩ | ⟨hr, rfl⟩)⟩
      case inr => rw [HH.out.1] at hr; cases hr
      obtain rfl : bs = H := by rw [HH.out.1] at hr; exact (Option.some.inj hr).symm
      have hbh := hrow.bat
      rw [HH.out.2] at hbh
      have HBH := Lib.hid hbh
      have HB2 := Lib.hid (HB1.out.trans (hk2.below HB1.out.size (fun _ h => h.elim)))
      clear hk2 hr hrow hge hbh HPH
      go_wp2_with fail
      refine (rarch_any _ a1 n cap1 xs1 (HM.out.below HB2.out) HGM.out (by omega)).mono ?_
      rintro e w3 ⟨v3, rfl, ho3, hk3⟩
      obtain ⟨p3, c3, rfl, hle3, hmx3, hb3, _, _⟩ := ho3.slice
      obtain ⟨M, hM⟩ : ∃ M, (putAllM (xs1.map MP.m)).length = M := ⟨_, rfl⟩
      have hL : (archD (xs1.map MP.m)).length = M + 1024 := by rw [archD_eq, List.length_append, List.length_replicate, hM]
      have hMl : M ≤ 300000000 := by have := HPA.out; rw [hM, List.length_map, HM.out.1] at this; omega
      have hb3' : BAt w3 p3 M (putAllM (xs1.map MP.m)) := by
        have := hb3.take (k := M) (by rw [hL]; omega)
        rw [archD_eq, ← hM, List.take_left'] at this
        · rw [← hM]; exact this
        · rfl
      obtain ⟨b3, o3, rfl, _⟩ := hb3 (by rw [hL]; omega)
      rw [hL] at hle3 ⊢
      have HB3 := Lib.hid (HB2.out.trans (hk3.below HB2.out.size (fun _ h => h.elim)))
      have HBP := Lib.hid hb3'
      have HBH3 := Lib.hid (HBH.out.kept hk3 (fun _ _ _ => id))
      have HMM := Lib.hid hM
      obtain ⟨i0, hi, hz0, hz1, hz2⟩ := info_parts infoU8
      have HI := Lib.hid hi
      have HZ0 := Lib.hid hz0
      have HZ1 := Lib.hid hz1
      have HZ2 := Lib.hid hz2
      clear hi hz0 hz1 hz2 hb3 hb3' hk3 ho3 hM hL HBH
      obtain ⟨PA, hPA⟩ : ∃ PA, putAllM (xs1.map MP.m) = PA := ⟨_, rfl⟩
      rw [hPA] at HKR HBP HMM
      clear hPA
      unfold maxLen at hmx3
      go_wp2_with (at_builtin; refine append_bytes rfl _ _ 22 rfl w3.heap.size 5 i0 Tryz.underlying22 HI.out HZ0.out HZ1.out HZ2.out _ 0 [] rfl (World.ownsRow_made w3 #[] 0 (Nat.le_refl _) (by decide) rfl) (some ⟨b3, o3, none⟩) M c3 PA rfl (HBP.out.alloc _) HMM.out ?d2 ?d3 ?_)
      case d2 => omega
      case d3 => simp
      intro v4 w4 hown hgrow
      have HO4 : Hid (OwnB w4 w3.heap.size v4 M PA) := Lib.hid (by simpa [OwnB] using hown)
      have HK4 : Hid (Kept noneB w3 w4) := Lib.hid ((((Kept.refl noneB w3).alloc _)).grown hgrow (by intro k hk; simp [Value.ownBlock] at hk; omega))
      clear hown hgrow
      go_wp2_with (at_builtin; refine append_bytes rfl _ _ 22 rfl w3.heap.size 5 i0 Tryz.underlying22 HI.out HZ0.out HZ1.out HZ2.out v4 M (nums PA) rfl HO4.out (some ⟨gx, 0, none⟩) 512 512 bs rfl (HBH3.out.kept HK4.out (fun _ _ _ => id)) HH.out.2 ?d4 HK4.out.size ?_)
      case d4 => omega
      intro v5 w5 hown hgrow
      have HO5 : Hid (OwnB w5 w3.heap.size v5 (M + 512) (PA ++ bs)) := Lib.hid (by
        unfold OwnB
        rw [show nums (PA ++ bs) = nums PA ++ nums bs by unfold nums; rw [List.map_append]]
        first | exact hown | (rw [List.map_append]; exact hown))
      have HK5 : Hid (Kept noneB w3 w5) := Lib.hid (HK4.out.grown hgrow (fun k hk => .inl (HO4.out.lt k hk).1))
      clear hown hgrow
      go_wp2_with (at_builtin; refine append_zeros_new rfl _ _ 22 3 rfl w3.heap.size 5 i0 .i64 .i64 Tryz.underlying22 Tryz.underlying3 HI.out HZ0.out HZ1.out HZ2.out v5 (M + 512) (nums (PA ++ bs)) rfl HO5.out _ 1024 rfl rfl ?e2 HK5.out.size ?_)
      case e2 => omega
      intro v6 w6 hown hgrow _
      have HO6 : Hid (OwnB w6 w3.heap.size v6 (M + 512 + 1024) (PA ++ (bs ++ List.replicate 1024 0))) := Lib.hid (by
        unfold OwnB
        rw [show nums (PA ++ (bs ++ List.replicate 1024 0)) = nums (PA ++ bs) ++ zs8 1024 by rw [← List.append_assoc]; unfold nums; rw [List.map_append]; simp [zs8]]
        first | exact hown | (rw [List.map_append]; exact hown))
      have HK6 : Hid (Kept noneB w3 w6) := Lib.hid (HK5.out.grown hgrow (fun k hk => .inl (HO5.out.lt k hk).1))
      clear hown hgrow
      have HB6 := Lib.hid (HB3.out.trans (HK6.out.below HB3.out.size (fun _ h => h.elim)))
      obtain ⟨p6, c6, rfl, _, _, hb6, hl6, _⟩ := HO6.out.slice
      obtain ⟨X, hX⟩ : ∃ X, PA ++ (bs ++ List.replicate 1024 0) = X := ⟨_, rfl⟩
      rw [hX] at hb6 hl6 HKR HO6
      obtain ⟨⟨ms, er, a⟩, hD⟩ : ∃ x, membersD X = x := ⟨_, rfl⟩
      have hR := memRead_any w6 p6 (M + 512 + 1024) c6 X none 0 0 [] hb6 hl6 (by omega) (iat_nil _) rfl (by decide) (HN.out.below HB6.out)
      unfold ReadD at hR
      rw [hD] at hR HKR
      have HR := Lib.hid hR
      clear hR hD hb6 hl6 hX
      go_wp2_with fail
      refine HR.out.mono ?_
      rintro e w7 ⟨p7, c7, ys, rfl, _, _, _, _, hb7⟩
      obtain ⟨A, hA⟩ : ∃ A : Int, (a : Int) = A := ⟨_, rfl⟩
      simp only [hA]
      have HA := Lib.hid hA
      have HB7 := Lib.hid (HB6.out.trans (hb7.mono HB6.out.size))
      clear hb7 hA HR
      go_upto_region 6 with fail
      obtain ⟨w8, hw8⟩ : ∃ w8, w7.alloc (.cells #[.int .i64 er, .int .i64 A] 28) = w8 := ⟨_, rfl⟩
      have hX8 : Blk w8 w7.heap.size 28 #[.int .i64 er, .int .i64 A] := by rw [← hw8]; exact Blk.new w7 _ _
      have h78 : Below w7.heap.size w7 w8 := by rw [← hw8]; exact (Below.refl _ _).alloc (Nat.le_refl _) _
      have HX8 := Lib.hid hX8
      have HB8 := Lib.hid (HB7.out.trans (h78.mono HB7.out.size))
      rw [hw8]
      clear hw8 hX8 h78 HO4 HO5 HO6 HBH3 HBP HK4 HK5 HK6
      have HANS : Hid (Calls Tryz.prog 11 #[] w8 fun e w' => e = .returned (.bool true) ∧ Below w8.heap.size w8 w') := Lib.hid (ans08_any _ (HN.out.below HB8.out))
      rcases HKR.out with ⟨hk3, he⟩ | ⟨hk3, l, he⟩ | ⟨hk3, he⟩
      · simp only [Prod.mk.injEq] at he
        obtain ⟨_, rfl, ha⟩ := he
        have hA2 : A = ((M : Int) + 1024) - 512 := by rw [← HA.out, ha, HMM.out]; omega
        have EQ : ∀ w', (binOp .eql 28 (.agg #[.int .i64 5, .int .i64 A]) (.agg #[.int .i64 5, .int .i64 (((M : Int) + 1024) - 512)])).run Tryz.prog w' = .ok (.bool true) w' := fun w' => by rw [hA2]; exact eqFlt_self _ _ _
        clear ha hA2
        rcases hk3 with h | h | h
        all_goals
          subst h
          obtain rfl := HK.out
          go_wp2_with fail
          refine HANS.out.mono ?_
          rintro e w9 ⟨rfl, hb9⟩
          have x0 := (HX8.out.below hb9 HX8.out.lt).cell 0
          have x1 := (HX8.out.below hb9 HX8.out.lt).cell 1
          simp only [List.getElem?_toArray, List.getElem?_cons_zero, List.getElem?_cons_succ] at x0 x1
          have FIN := Lib.hid (HB8.out.trans (hb9.mono HB8.out.size))
          clear hb9
          go_wp2
          go_ret
          exact ⟨rfl, FIN.out⟩
      · simp only [Prod.mk.injEq] at he
        obtain ⟨_, rfl, _⟩ := he
        rcases hk3 with h | h | h | h | h
        all_goals
          subst h
          obtain rfl := HK.out
          go_wp2_with fail
          refine HANS.out.mono ?_
          rintro e w9 ⟨rfl, hb9⟩
          have x0 := (HX8.out.below hb9 HX8.out.lt).cell 0
          have x1 := (HX8.out.below hb9 HX8.out.lt).cell 1
          simp only [List.getElem?_toArray, List.getElem?_cons_zero, List.getElem?_cons_succ] at x0 x1
          have FIN := Lib.hid (HB8.out.trans (hb9.mono HB8.out.size))
          clear hb9
          go_wp2
          go_ret
          exact ⟨rfl, FIN.out⟩
      · simp only [Prod.mk.injEq] at he
        obtain ⟨_, rfl, ha⟩ := he
        have hA2 : A = (M : Int) := by rw [← HA.out, ha, HMM.out]
        have EQ : ∀ w', (binOp .eql 28 (.agg #[.int .i64 8, .int .i64 A]) (.agg #[.int .i64 8, .int .i64 (M : Int)])).run Tryz.prog w' = .ok (.bool true) w' := fun w' => by rw [hA2]; exact eqFlt_self _ _ _
        have ne : ∀ j : UInt8, k ≠ j → (K == (j.toNat : Int)) = false := fun j hj => by
          rw [beq_eq_false_iff_ne, ← HK.out]
          intro h
          exact hj (UInt8.toNat.inj (by omega))
        have n1 : (K == 120) = false := ne 120 hk3.1
        have n2 : (K == 76) = false := ne 76 hk3.2.1
        have n3 : (K == 75) = false := ne 75 hk3.2.2.1
        have n4 : (K == 48) = false := ne 48 hk3.2.2.2.1
        have n5 : (K == 49) = false := ne 49 hk3.2.2.2.2.1
        have n6 : (K == 50) = false := ne 50 hk3.2.2.2.2.2.1
        have n7 : (K == 53) = false := ne 53 hk3.2.2.2.2.2.2.1
        have n8 : (K == 103) = false := ne 103 hk3.2.2.2.2.2.2.2
        clear ha hA2 ne hk3
        go_wp2_with fail
        refine HANS.out.mono ?_
        rintro e w9 ⟨rfl, hb9⟩
        have x0 := (HX8.out.below hb9 HX8.out.lt).cell 0
        have x1 := (HX8.out.below hb9 HX8.out.lt).cell 1
        simp only [List.getElem?_toArray, List.getElem?_cons_zero, List.getElem?_cons_succ] at x0 x1
        have FIN := Lib.hid (HB8.out.trans (hb9.mono HB8.out.size))
        clear hb9
        go_wp2
        go_ret
        exact ⟨rfl, FIN.out⟩
end Go.Proofs.YtdjedimjhogdoaaGreatDoor.Walk
end
