import Derived.Test.YtdjedimjhogdoaaGreatDoorZ10
import Derived.Test.YtdjedimjhogdoaaGreatDoorZ9
import Derived.Test.YtdjedimjhogdoaaGreatDoorZ1
import Derived.OpenShut
import Derived.SizedLaws
import Derived.Test.YtdjedimjhogdoaaGreatDoorZ2
import Derived.Deep.SlicePairs
import Derived.Test.YtdjedimjhogdoaaGreatDoorZ4
import Derived.Test.YtdjedimjhogdoaaGreatDoorZ8
import Derived.Laws.IdiomCopy
import Derived.Deep.RegionHeld3
section
namespace Go.Proofs.YtdjedimjhogdoaaGreatDoor.Mem
open Go.ChangeShapes Go.WideShapes Go.ChangeAt Go.RowKit Go.Proofs.YtdjedimjhogdoaaGreatDoor.Base Go.Proofs.YtdjedimjhogdoaaGreatDoor.Byt Go.Proofs.YtdjedimjhogdoaaGreatDoor.Txt Go.Proofs.YtdjedimjhogdoaaGreatDoor.Bk Go.Lib
theorem eqFlt_deep (a b a' b' : Int) (n : Nat) (w : World) : (Op.equalIn (n + 1 + 1) 28 (.agg #[.int .i64 a, .int .i64 b]) (.agg #[.int .i64 a', .int .i64 b'])).run Tryz.prog w = .ok (decide (a = a' ∧ b = b')) w := by
  have hM : Tryz.prog.underlying 28 = some (.struct (Tryz.prog.fieldsOf 28)) := by kernel_rfl
  have pM : Tryz.prog.stoodInHeld 28 = false := by kernel_rfl
  rw [run_equalIn_agg (P := Tryz.prog) w (n + 1) 28 _ _ hM pM]
  clear hM pM
  simp only [Program.fieldsOf, Tryz.underlying28]
  go_simp
  by_cases h4 : a = a' <;> by_cases h5 : b = b' <;> simp [h4, h5]
theorem eqFlt (a b a' b' : Int) (w : World) : (binOp .eql 28 (.agg #[.int .i64 a, .int .i64 b]) (.agg #[.int .i64 a', .int .i64 b'])).run Tryz.prog w = .ok (.bool (decide (a = a' ∧ b = b'))) w := by
  rw [run_eql_struct, show (10000 : Nat) = 9998 + 1 + 1 from rfl, eqFlt_deep]
  rfl
theorem eqFlt_self (a b : Int) (w : World) : (binOp .eql 28 (.agg #[.int .i64 a, .int .i64 b]) (.agg #[.int .i64 a, .int .i64 b])).run Tryz.prog w = .ok (.bool true) w := by
  rw [eqFlt, decide_eq_true ⟨rfl, rfl⟩]
end Go.Proofs.YtdjedimjhogdoaaGreatDoor.Mem
namespace Go.Proofs.YtdjedimjhogdoaaGreatDoor.Walk
open Go.ChangeShapes Go.WideShapes Go.ChangeAt Go.RowKit Go.Proofs.YtdjedimjhogdoaaGreatDoor.Base Go.Proofs.YtdjedimjhogdoaaGreatDoor.Byt Go.Proofs.YtdjedimjhogdoaaGreatDoor.Txt Go.Proofs.YtdjedimjhogdoaaGreatDoor.Bk Go.Proofs.YtdjedimjhogdoaaGreatDoor.Num Go.Proofs.YtdjedimjhogdoaaGreatDoor.Block Go.Proofs.YtdjedimjhogdoaaGreatDoor.Rec Go.Proofs.YtdjedimjhogdoaaGreatDoor.Mem Go.Lib
set_option linter.unusedVariables false
set_option maxRecDepth 100000

set_option maxHeartbeats 4000000 in
theorem memberChunks (a0 : Option Addr) (len0 cap0 : Nat) (z0 : List Int) (a1 : Option Addr) (len1 cap1 : Nat) (z1 : List Int) (w : World) (w0 : IsRow .u8 w a0 len0 cap0 z0) (b0 : cap0 * 1 ≤ 140737488351232) (w1 : IsRow .i64 w a1 len1 cap1 z1) (b1 : cap1 * 8 ≤ 140737488351232) (hT : Need w) :
    Calls Tryz.prog 4 #[.slice a0 len0 cap0, .slice a1 len1 cap1] w fun e w' => e = .returned (.bool true) ∧ Below w.heap.size w w' := by
  obtain ⟨hb, hl, hc, _⟩ := bat_of_row w0
  obtain ⟨hi, hil, hic, _⟩ := iat_of_row w1
  obtain ⟨bs, hbs⟩ : ∃ bs, bs = bytesOf (z0.take len0) := ⟨_, rfl⟩
  obtain ⟨zs, hzs⟩ : ∃ zs, zs = z1.take len1 := ⟨_, rfl⟩
  rw [← hbs] at hb hl
  rw [← hzs] at hi hil
  obtain ⟨n, rfl⟩ : ∃ n, n = len0 := ⟨_, rfl⟩
  have hm8 : len1 * 8 ≤ 140737488351232 := by omega
  have HB := Lib.hid hb
  have HL := Lib.hid hl
  have HI := Lib.hid hi
  have HIL := Lib.hid hil
  have HM8 := Lib.hid hm8
  have HN := Lib.hid hT
  clear hb hl hbs w0 hc b0 hT hi hil hzs w1 hic b1 hm8
  by_cases hbig : 40000 < n
  · go_enter Tryz.func4, Tryz.ntmps4
    go_wp2_with fail
    refine (ans08_any _ HN.out).mono ?_
    rintro e w2 ⟨rfl, hk⟩
    have HK := Lib.hid hk
    clear hk
    go_wp2
    go_ret
    exact ⟨rfl, HK.out⟩
  · have hn : n ≤ 40000 := by omega
    obtain ⟨⟨ms, er, a⟩, hD⟩ : ∃ x, membersD bs = x := ⟨_, rfl⟩
    have hR := memRead_any w a0 n cap0 bs a1 len1 cap1 zs HB.out HL.out (by omega) HI.out HIL.out HM8.out HN.out
    have HR2 : Hid (∀ w', Below w.heap.size w w' → Calls Tryz.prog 12 #[.slice a0 n cap0, .slice none 0 0] w' (ReadD w' bs)) := Lib.hid (fun w' h => memRead_any w' a0 n cap0 bs none 0 0 [] (HB.out.below h) HL.out (by omega) (iat_nil _) rfl (by decide) (HN.out.below h))
    unfold ReadD at hR HR2
    rw [hD] at hR HR2
    have HR := Lib.hid hR
    clear hR hD
    go_enter Tryz.func4, Tryz.ntmps4
    go_wp2_with fail
    refine HR.out.mono ?_
    rintro e w2 ⟨p, c, xs, rfl, hxc, hcm, hx, hm, hb2⟩
    obtain ⟨L, hL⟩ : ∃ L, xs.length = L := ⟨_, rfl⟩
    rw [hL] at hm hxc ⊢
    obtain ⟨A, hA⟩ : ∃ A : Int, (a : Int) = A := ⟨_, rfl⟩
    simp only [hA] at HR2 ⊢
    have HM := Lib.hid hm
    have HX := Lib.hid hx
    have HLN := Lib.hid hL
    have HB2 := Lib.hid hb2
    have HHL := Lib.hid hxc
    clear hm hx hL hb2 HR hxc hA
    go_upto_region 4 with fail
    obtain ⟨w3, hw3⟩ : ∃ w3, w2.alloc (.cells #[.int .i64 er, .int .i64 A] 28) = w3 := ⟨_, rfl⟩
    have hX3 : Blk w3 w2.heap.size 28 #[.int .i64 er, .int .i64 A] := by rw [← hw3]; exact Blk.new w2 _ _
    have h23 : Below w2.heap.size w2 w3 := by rw [← hw3]; exact (Below.refl _ _).alloc (Nat.le_refl _) _
    have HX3 := Lib.hid hX3
    have HB3 := Lib.hid (HB2.out.trans (h23.mono HB2.out.size))
    have HM3 := Lib.hid (HM.out.below h23)
    rw [hw3]
    clear hw3 hX3 h23 HM
    go_wp2_with fail
    refine (HR2.out _ HB3.out).mono ?_
    rintro e w4 ⟨p4, c4, ys, rfl, hyc, hcm4, hy, hm4, hb4⟩
    obtain ⟨L4, hL4⟩ : ∃ L, ys.length = L := ⟨_, rfl⟩
    rw [hL4] at hm4 hyc ⊢
    have HX4 := Lib.hid (HX3.out.below hb4 HX3.out.lt)
    have HM4 := Lib.hid (HM3.out.below hb4)
    have HY := Lib.hid hy
    have HM5 := Lib.hid hm4
    have HB4 := Lib.hid (HB3.out.trans (hb4.mono HB3.out.size))
    clear hm4 hy hL4 hb4 hyc HM3 HX3
    go_upto_region 5 with fail
    obtain ⟨w5, hw5⟩ : ∃ w5, w4.alloc (.cells #[.int .i64 er, .int .i64 A] 28) = w5 := ⟨_, rfl⟩
    have hX5 : Blk w5 w4.heap.size 28 #[.int .i64 er, .int .i64 A] := by rw [← hw5]; exact Blk.new w4 _ _
    have h45 : Below w4.heap.size w4 w5 := by rw [← hw5]; exact (Below.refl _ _).alloc (Nat.le_refl _) _
    have HX5 := Lib.hid hX5
    have HX6 := Lib.hid (HX4.out.below h45 HX4.out.lt)
    have HB5 := Lib.hid (HB4.out.trans (h45.mono HB4.out.size))
    have HMx := Lib.hid (HM4.out.below h45)
    have HMy := Lib.hid (HM5.out.below h45)
    rw [hw5]
    clear hw5 hX5 h45 HM4 HM5 HX4
    go_wp2_with fail
    refine (ans08_any _ (HN.out.below HB5.out)).mono ?_
    rintro e w6 ⟨rfl, hb6⟩
    have x0 := (HX5.out.below hb6 HX5.out.lt).cell 0
    have x1 := (HX5.out.below hb6 HX5.out.lt).cell 1
    have y0 := (HX6.out.below hb6 HX6.out.lt).cell 0
    have y1 := (HX6.out.below hb6 HX6.out.lt).cell 1
    simp only [List.getElem?_toArray, List.getElem?_cons_zero, List.getElem?_cons_succ] at x0 x1 y0 y1
    have EQ := eqFlt_self er A
    have HB6 := Lib.hid (HB5.out.trans (hb6.mono HB5.out.size))
    have HSA := Lib.hid (rsameAll_any p p4 L L4 c c4 xs ys w6 (Nat.le_trans HHL.out hcm) (HMx.out.below hb6) (HMy.out.below hb6))
    have HDE : Hid (decide (xs.map MP.m = ys.map MP.m) = true) := Lib.hid (decide_eq_true (by rw [HX.out, HY.out]))
    clear hb6
    go_wp2_with fail
    refine HSA.out.mono ?_
    rw [HDE.out]
    rintro e w7 ⟨rfl, hb7⟩
    have FIN := Lib.hid (HB6.out.trans (hb7.mono HB6.out.size))
    clear hb7
    go_wp2
    go_ret
    exact ⟨rfl, FIN.out⟩
end Go.Proofs.YtdjedimjhogdoaaGreatDoor.Walk
end
section
namespace Go.Proofs.YtdjedimjhogdoaaGreatDoor.Mem
open Go.ChangeShapes Go.WideShapes Go.ChangeAt Go.RowKit Go.Proofs.YtdjedimjhogdoaaGreatDoor.Base Go.Proofs.YtdjedimjhogdoaaGreatDoor.Byt Go.Proofs.YtdjedimjhogdoaaGreatDoor.Txt Go.Proofs.YtdjedimjhogdoaaGreatDoor.Bk Go.Proofs.YtdjedimjhogdoaaGreatDoor.Hp Go.Proofs.YtdjedimjhogdoaaGreatDoor.Head Go.Proofs.YtdjedimjhogdoaaGreatDoor.Num Go.Proofs.YtdjedimjhogdoaaGreatDoor.Path Go.Proofs.YtdjedimjhogdoaaGreatDoor.Block Go.Proofs.YtdjedimjhogdoaaGreatDoor.Rec Go.Lib
set_option linter.unusedVariables false
set_option maxRecDepth 100000

def sumB (ms : List MemV) : Nat := (ms.map fun m => m.body.length).sum
def goodL (ms : List MemV) : Bool := decide (ms.length ≤ 60) && (ms.all goodD && decide (sumB ms ≤ 100000))
theorem sumB_snoc (ms : List MemV) (m : MemV) : sumB (ms ++ [m]) = sumB ms + m.body.length := by simp [sumB]
theorem goodL_facts {ms : List MemV} (h : goodL ms = true) : ms.length ≤ 60 ∧ (∀ m ∈ ms, GoodM m) ∧ sumB ms ≤ 100000 := by
  simp only [goodL, Bool.and_eq_true, decide_eq_true_eq, List.all_eq_true] at h
  exact ⟨h.1, fun m hm => good_facts (h.2.1 m hm), h.2.2⟩
theorem sumB_le (ms : List MemV) (h : ∀ m ∈ ms, goodD m = true) : sumB ms ≤ ms.length * 1048576 := by
  induction ms with
  | nil => exact Nat.zero_le _
  | cons m ms ih =>
    have h1 := (good_facts (h m (List.mem_cons_self ..))).body
    have h2 := ih (fun x hx => h x (List.mem_cons_of_mem _ hx))
    simp only [sumB, List.map_cons, List.sum_cons, List.length_cons] at h2 ⊢
    omega
set_option maxHeartbeats 4000000 in
theorem lgood_any (p : Option Addr) (n c : Nat) (xs : List MP) (w : World) (hM : MemsAt w p n xs) (hR : ∀ x ∈ xs, x.m.path.length ≤ 140737488351232 ∧ x.m.target.length ≤ 140737488351232) :
    Calls Tryz.prog 20 #[.slice p n c] w fun e w' => e = .returned (.bool (goodL (xs.map MP.m))) ∧ Below w.heap.size w w' := by
  have HM := Lib.hid hM
  have HL := Lib.hid hM.1
  have HR := Lib.hid hR
  clear hM hR
  go_enter Tryz.func20, Tryz.ntmps20
  go_wp2_with fail
  go_loopw [3, 4] (fun s i wr => ∃ (k S : Nat), k ≤ n ∧ i = .int .i64 (k : Int) ∧ s = .int .i64 (S : Int) ∧ (k = 0 ∨ n ≤ 60) ∧ S ≤ k * 1048576 ∧ Hid (S = sumB ((xs.take k).map MP.m)) ∧ Hid (∀ m ∈ (xs.take k).map MP.m, goodD m = true) ∧ Hid (Below w.heap.size w wr)) (fun _ i _ => n - (RowKit.intOf i).toNat)
  case atStart => exact ⟨0, 0, Nat.zero_le _, rfl, rfl, .inl rfl, Nat.le_refl _, Lib.hid rfl, Lib.hid (by simp), Lib.hid (Below.refl _ _)⟩
  case round =>
    obtain ⟨k, S, hk, rfl, rfl, hk60, hS, hE, hG, hB⟩ := hrel
    by_cases hlt : k < n
    · by_cases h60 : 60 < n
      · have E : Hid (goodL (xs.map MP.m) = false) := Lib.hid (by
          unfold goodL
          rw [List.length_map, HL.out, decide_eq_false (by omega), Bool.false_and])
        have h60i : (60 : Int) < (n : Int) := by omega
        have hltz : (k : Int) < (n : Int) := by omega
        go_wp2
        go_ret
        exact ⟨by rw [E.out]; rfl, hB.out⟩
      · have h60i : ¬ ((60 : Int) < (n : Int)) := by omega
        have hltz : (k : Int) < (n : Int) := by omega
        have hkl : k < xs.length := by rw [HL.out]; exact hlt
        have hT := takeP_succ xs k hkl
        have hmem := getP_mem xs k hkl
        obtain ⟨b1, o1, rfl, hb1, hB1, hc1⟩ := (HM.out.below hB.out).cells8 hlt
        obtain ⟨y, hy⟩ : ∃ y, xs.getD k zeroP = y := ⟨_, rfl⟩
        rw [hy] at hT hmem hc1
        have HT := Lib.hid hT
        have HMEM := Lib.hid hmem
        have HC1 := Lib.hid hc1
        have HB1 := Lib.hid hb1
        obtain ⟨c0, c1, c2, c3, c4, c5, c6, c7⟩ := hc1
        clear hB1 hb1 hy hT hmem hkl
        go_wp2_with fail
        refine (rgood_any y.m y.p y.c _ (HR.out y HMEM.out).1 (HR.out y HMEM.out).2).mono ?_
        rintro e w4 ⟨rfl, hb4⟩
        have HB4 := Lib.hid (hB.out.trans (hb4.mono hB.out.size))
        have y7 := (HC1.out.below HB1.out hb4).2.2.2.2.2.2.2
        clear hb4 c0 c1 c2 c3 c4 c5 c6 c7
        obtain ⟨g, hg⟩ : ∃ g, goodD y.m = g := ⟨_, rfl⟩
        rw [hg]
        cases g with
        | false =>
          have E : Hid (goodL (xs.map MP.m) = false) := Lib.hid (by
            have hf : (xs.map MP.m).all goodD = false := by
              rw [Bool.eq_false_iff]
              intro h
              have hh := List.all_eq_true.1 h y.m (List.mem_map_of_mem HMEM.out)
              rw [hg] at hh
              cases hh
            unfold goodL
            rw [hf, Bool.false_and, Bool.and_false])
          clear hg
          go_wp2
          go_ret
          exact ⟨by rw [E.out]; rfl, HB4.out⟩
        | true =>
          have hbd := (good_facts hg).body
          have HE2 : Hid (S + y.m.body.length = sumB ((xs.take (k + 1)).map MP.m)) := Lib.hid (by rw [HT.out, sumB_snoc, ← hE.out])
          have HG2 : Hid (∀ m ∈ (xs.take (k + 1)).map MP.m, goodD m = true) := Lib.hid (by
            rw [HT.out]
            intro m hm
            rcases List.mem_append.1 hm with h | h
            · exact hG.out m h
            · rw [List.mem_singleton] at h
              rw [h]
              exact hg)
          clear hg
          obtain ⟨bl, hbl⟩ : ∃ bl, y.m.body.length = bl := ⟨_, rfl⟩
          rw [hbl] at hbd HE2 y7
          clear hbl
          have hs2 : S + bl ≤ (k + 1) * 1048576 := by omega
          have hs3 : S + bl ≤ 100000000 := by omega
          go_wp2
          go_roundw
          case rel => exact ⟨k + 1, S + bl, by omega, by go_num, by go_num, by omega, hs2, HE2, HG2, HB4⟩
          case measure => simp [RowKit.intOf]; omega
    · obtain rfl : k = n := by omega
      have hks : ¬ ((k : Int) < (k : Int)) := by omega
      have e : xs.take k = xs := List.take_of_length_le (by rw [HL.out]; exact Nat.le_refl _)
      rw [e] at hE hG
      have E : Hid (goodL (xs.map MP.m) = decide ((S : Int) ≤ 100000)) := Lib.hid (by
        unfold goodL
        rw [List.length_map, HL.out, decide_eq_true (by omega), List.all_eq_true.2 hG.out, ← hE.out, Bool.true_and, Bool.true_and]
        congr 1
        exact propext (by omega))
      clear e
      go_wp2
      go_ret
      exact ⟨by rw [E.out]; rfl, hB.out⟩
end Go.Proofs.YtdjedimjhogdoaaGreatDoor.Mem
end
section
namespace Go.Proofs.YtdjedimjhogdoaaGreatDoor.Head
open Go.ChangeShapes Go.WideShapes Go.ChangeAt Go.RowKit Go.Proofs.YtdjedimjhogdoaaGreatDoor.Base Go.Proofs.YtdjedimjhogdoaaGreatDoor.Byt Go.Proofs.YtdjedimjhogdoaaGreatDoor.Txt Go.Proofs.YtdjedimjhogdoaaGreatDoor.Hp Go.Lib
set_option linter.unusedVariables false
set_option maxRecDepth 100000

theorem list9 {α : Type} (l : List α) (h : l.length = 9) : ∃ a b c d e f g i j, l = [a, b, c, d, e, f, g, i, j] := by
  match l, h with
  | [a, b, c, d, e, f, g, i, j], _ => exact ⟨a, b, c, d, e, f, g, i, j, rfl⟩
theorem list4 {α : Type} (l : List α) (h : l.length = 4) : ∃ a b c d, l = [a, b, c, d] := by
  match l, h with
  | [a, b, c, d], _ => exact ⟨a, b, c, d, rfl⟩
theorem list6 {α : Type} (l : List α) (h : l.length = 6) : ∃ a b c d e f, l = [a, b, c, d, e, f] := by
  match l, h with
  | [a, b, c, d, e, f], _ => exact ⟨a, b, c, d, e, f, rfl⟩
theorem cells9 : Tryz.prog.cellsOf 57 = 9 := by kernel_rfl
theorem cellsM : Tryz.prog.cellsOf 35 = 4 := by kernel_rfl
theorem cellsS : Tryz.prog.cellsOf 9 = 1 := by kernel_rfl
theorem cellsI : Tryz.prog.cellsOf 3 = 1 := by kernel_rfl
theorem cellsU : Tryz.prog.cellsOf 5 = 1 := by kernel_rfl
theorem cellsB : Tryz.prog.cellsOf 4 = 1 := by kernel_rfl
section
variable {H : Type} {enc : TypeId × Value → H} {w : World} {base : Nat} {held : Bool} {spare : Nat → Bool}
theorem head_open {v : Value} {d : DataW H} {ps : List MemPlace} (h : DataW.Trod enc Tryz.prog w base spare held 57 v d ps) :
    ∃ hv : HeadV, v = .agg (headC hv) ∧ (∀ i, (Lit.int .i64 (numH hv i)).wf = true) ∧ ∃ r, d = .agg (.lit (.string hv.name) :: .lit (.string hv.link) :: r) := by
  obtain ⟨fuel, hf⟩ := h
  obtain ⟨xs, n, rfl, hx, hl, hxl, hall⟩ := DataW.trod_struct Tryz.underlying57 hf
  rw [cells9] at hl
  obtain ⟨cs, rfl⟩ : ∃ cs, v = .agg cs := by
    cases v <;> first | exact ⟨_, rfl⟩ | (simp [Value.cells] at hl)
  obtain ⟨a, b, c, e, f, g, i, j, k, hcs⟩ := list9 cs.toList (by simpa [Value.cells] using hl)
  obtain ⟨x0, x1, x2, x3, x4, x5, rfl⟩ := list6 xs (by simpa using hxl)
  have hcells : (Value.agg cs).cells.toList = [a, b, c, e, f, g, i, j, k] := hcs
  rw [hcells] at hall
  have h0 := hall 0 _ rfl
  have h1 := hall 1 _ rfl
  have h2 := hall 2 _ rfl
  have h3 := hall 3 _ rfl
  have h4 := hall 4 _ rfl
  have h5 := hall 5 _ rfl
  simp only [List.getElem_toArray, List.getElem_cons_zero, List.getElem_cons_succ, cellsM, cellsS, cellsI, cellsU, cellsB, List.drop_zero, List.drop_succ_cons, List.take_succ_cons, List.take_zero, List.getElem?_cons_zero, List.getElem?_cons_succ] at h0 h1 h2 h3 h4 h5
  obtain ⟨s0, e0, rfl, z0⟩ := DataW.trod_string Tryz.underlying9 h0
  obtain ⟨s1, e1, rfl, z1⟩ := DataW.trod_string Tryz.underlying9 h1
  obtain ⟨k2, e2, rfl, z2⟩ := DataW.trod_int Tryz.underlying5 h2
  obtain ⟨ys, n', rfl, hy, hl', hyl, hall'⟩ := DataW.trod_struct Tryz.underlying35 h3
  obtain ⟨k4, e4, rfl, z4⟩ := DataW.trod_int Tryz.underlying3 h4
  obtain ⟨k5, e5, rfl⟩ := DataW.trod_bool Tryz.underlying4 h5
  obtain ⟨y0, y1, y2, y3, rfl⟩ := list4 ys (by simpa using hyl)
  have g0 := hall' 0 _ rfl
  have g1 := hall' 1 _ rfl
  have g2 := hall' 2 _ rfl
  have g3 := hall' 3 _ rfl
  simp only [List.getElem_toArray, List.getElem_cons_zero, List.getElem_cons_succ, cellsI, List.drop_zero, List.drop_succ_cons, List.take_succ_cons, List.take_zero, List.getElem?_cons_zero, List.getElem?_cons_succ] at g0 g1 g2 g3
  obtain ⟨m0, f0, rfl, q0⟩ := DataW.trod_int Tryz.underlying3 g0
  obtain ⟨m1, f1, rfl, q1⟩ := DataW.trod_int Tryz.underlying3 g1
  obtain ⟨m2, f2, rfl, q2⟩ := DataW.trod_int Tryz.underlying3 g2
  obtain ⟨m3, f3, rfl, q3⟩ := DataW.trod_int Tryz.underlying3 g3
  simp only [List.cons.injEq, and_true] at e0 e1 e2 e4 e5 f0 f1 f2 f3
  subst e0 e1 e2 e4 e5 f0 f1 f2 f3
  obtain ⟨k0, k1⟩ := wf8 z2
  refine ⟨⟨s0.data.toList, s1.data.toList, UInt8.ofNat k2.toNat, m0, m1, m2, m3, k4, k5⟩, ?_, fun i => ?_, ?_⟩
  · congr 1
    apply Array.toList_inj.1
    rw [hcs]
    unfold headC
    rw [str_of, str_of, show ((UInt8.ofNat k2.toNat).toNat : Int) = k2 by rw [UInt8.toNat_ofNat']; omega]
  · unfold numH
    split
    · exact q0
    · exact q1
    · exact q2
    · exact z4
    · exact q3
    · decide
  · simp only [Prod.mk.injEq] at hx
    rw [hx.1]
    exact ⟨_, rfl⟩
/-- how long its texts are -/
theorem head_sized {ts : List TypeId} {ds : List (DataW H)} (hz : (DataW.weightsEach Tryz.prog ts ds).all (· ≤ reachBytes) = true) {j : Nat} {a b : List UInt8} {r : List (DataW H)}
    (ht : ts[j]? = some 57) (hd : ds[j]? = some (.agg (.lit (.string a) :: .lit (.string b) :: r))) : a.length ≤ 140737488351232 ∧ b.length ≤ 140737488351232 := by
  have h := List.all_eq_true.1 hz
  have e : (DataW.agg (.lit (.string a) :: .lit (.string b) :: r) : DataW H).weights Tryz.prog 57 = DataW.weightsEach Tryz.prog [9, 9, 5, 35, 3, 4] (.lit (.string a) :: .lit (.string b) :: r) := by
    simp only [DataW.weights, Tryz.underlying57]
    rfl
  have h1 := h a.length (DataW.weights_mem_each ht hd _ (by rw [e]; simp [DataW.weightsEach, DataW.weights]))
  have h2 := h b.length (DataW.weights_mem_each ht hd _ (by rw [e]; simp [DataW.weightsEach, DataW.weights]))
  simp [reachBytes] at h1 h2
  exact ⟨of_decide_eq_true h1, of_decide_eq_true h2⟩
end
end Go.Proofs.YtdjedimjhogdoaaGreatDoor.Head
end
section
namespace Go.Proofs.YtdjedimjhogdoaaGreatDoor.Rec
open Go.ChangeShapes Go.WideShapes Go.ChangeAt Go.RowKit Go.Deep Go.Proofs.YtdjedimjhogdoaaGreatDoor.Base Go.Proofs.YtdjedimjhogdoaaGreatDoor.Byt Go.Proofs.YtdjedimjhogdoaaGreatDoor.Txt Go.Lib
set_option linter.unusedVariables false
set_option maxRecDepth 100000

theorem rcells : Tryz.prog.cellsOf 53 = 2 := by kernel_rfl
theorem rcellsS : Tryz.prog.cellsOf 9 = 1 := by kernel_rfl
theorem list_two {α : Type} (l : List α) (h : l.length = 2) : ∃ a b, l = [a, b] := by
  match l, h with
  | [a, b], _ => exact ⟨a, b, rfl⟩
section
variable {H : Type} {enc : TypeId × Value → H} {w : World} {base : Nat} {held : Bool} {spare : Nat → Bool}
theorem rec_open {v : Value} {d : DataW H} {ps : List MemPlace} (h : DataW.Trod enc Tryz.prog w base spare held 53 v d ps) :
    ∃ k x : List UInt8, v = .agg #[.string (str k), .string (str x)] ∧ d = .agg [.lit (.string k), .lit (.string x)] := by
  obtain ⟨fuel, hf⟩ := h
  obtain ⟨xs, n, rfl, hx, hl, hxl, hall⟩ := DataW.trod_struct Tryz.underlying53 hf
  rw [rcells] at hl
  obtain ⟨cs, rfl⟩ : ∃ cs, v = .agg cs := by
    cases v <;> first | exact ⟨_, rfl⟩ | (simp [Value.cells] at hl)
  obtain ⟨a, b, hcs⟩ := list_two cs.toList (by simpa [Value.cells] using hl)
  obtain ⟨x0, x1, rfl⟩ := list_two xs (by simpa using hxl)
  have hcells : (Value.agg cs).cells.toList = [a, b] := hcs
  rw [hcells] at hall
  have h0 := hall 0 _ rfl
  have h1 := hall 1 _ rfl
  simp only [List.getElem_toArray, List.getElem_cons_zero, List.getElem_cons_succ, rcellsS, List.drop_zero, List.drop_succ_cons, List.take_succ_cons, List.take_zero, List.getElem?_cons_zero, List.getElem?_cons_succ] at h0 h1
  obtain ⟨s0, e0, rfl, z0⟩ := DataW.trod_string Tryz.underlying9 h0
  obtain ⟨s1, e1, rfl, z1⟩ := DataW.trod_string Tryz.underlying9 h1
  simp only [List.cons.injEq, and_true] at e0 e1
  subst e0 e1
  refine ⟨s0.data.toList, s1.data.toList, ?_, ?_⟩
  · congr 1
    apply Array.toList_inj.1
    rw [hcs, str_of, str_of]
  · simp only [Prod.mk.injEq] at hx
    rw [hx.1]
    rfl
theorem weights_rec (k x : List UInt8) : (DataW.agg [.lit (.string k), .lit (.string x)] : DataW H).weights Tryz.prog 53 = [k.length, x.length] := by
  simp only [DataW.weights, Tryz.underlying53]
  rfl
theorem rec_sized {ts : List TypeId} {ds : List (DataW H)} (hz : (DataW.weightsEach Tryz.prog ts ds).all (· ≤ reachBytes) = true) {j : Nat} {k x : List UInt8}
    (ht : ts[j]? = some 53) (hd : ds[j]? = some (.agg [.lit (.string k), .lit (.string x)])) : k.length ≤ 140737488351232 ∧ x.length ≤ 140737488351232 := by
  have h := List.all_eq_true.1 hz
  have h1 := h k.length (DataW.weights_mem_each ht hd _ (by rw [weights_rec]; simp))
  have h2 := h x.length (DataW.weights_mem_each ht hd _ (by rw [weights_rec]; simp))
  simp [reachBytes] at h1 h2
  exact ⟨of_decide_eq_true h1, of_decide_eq_true h2⟩
theorem weights_all {P : Program} {e : TypeId} {l : List (DataW H)} {d : DataW H} (hd : d ∈ l) {n : Nat} (hn : n ∈ d.weights P e) : n ∈ DataW.weightsAll P e l := by
  induction l with
  | nil => cases hd
  | cons a l ih =>
    simp only [DataW.weightsAll, List.mem_append]
    rcases List.mem_cons.1 hd with rfl | h
    · exact .inl hn
    · exact .inr (ih h)
theorem recs_open {a : Option Addr} {len cap : Nat} {d : DataW H} {ps : List MemPlace} {ts : List TypeId} {ds : List (DataW H)} (hz : (DataW.weightsEach Tryz.prog ts ds).all (· ≤ reachBytes) = true) {j : Nat} (ht : ts[j]? = some 73) (hd : ds[j]? = some d)
    (h : DataW.Trod enc Tryz.prog w base (fun _ => true) held 73 (.slice a len cap) d ps) :
    ∃ rs, RecsAt w a len rs ∧ len ≤ cap ∧ cap ≤ maxLen ∧ (∀ r ∈ rs, r.1.length ≤ 140737488351232 ∧ r.2.length ≤ 140737488351232) ∧ cap * 32 ≤ 140737488351232 := by
  obtain ⟨fuel, hf⟩ := h
  rcases open_slice_pairs Tryz.underlying73 Tryz.underlying53 rcells rfl rfl rcellsS rcellsS hf with ⟨hcs, _⟩ | ⟨x, l, c, m, n, V0, V1, D0, D1, P0, P1, hcs, _, hl, hm, hmm, hdd, hc⟩
  · simp [Value.cells] at hcs
    obtain ⟨rfl, rfl, rfl⟩ := hcs
    exact ⟨[], ⟨rfl, fun h => absurd h (by omega)⟩, by omega, by omega, by simp, by omega⟩
  · simp [Value.cells] at hcs
    obtain ⟨rfl, rfl, rfl⟩ := hcs
    simp only [if_true] at hmm
    subst hmm
    simp only [Prod.mk.injEq] at hdd
    obtain ⟨hdd, _⟩ := hdd
    obtain ⟨K, hK⟩ := choose_lt (p := fun i (b : List UInt8) => V0 i = .string (str b) ∧ D0 i = .lit (.string b)) (fun i hi' => by
      obtain ⟨b, h1, h2, _⟩ := DataW.trod_string Tryz.underlying9 (hc i hi').2.2.1
      refine ⟨b.data.toList, ?_, ?_⟩
      · rw [str_of]; simpa using h1
      · have h3 := h2
        simp at h3
        exact h3.1)
    obtain ⟨X, hX⟩ := choose_lt (p := fun i (b : List UInt8) => V1 i = .string (str b) ∧ D1 i = .lit (.string b)) (fun i hi' => by
      obtain ⟨b, h1, h2, _⟩ := DataW.trod_string Tryz.underlying9 (hc i hi').2.2.2
      refine ⟨b.data.toList, ?_, ?_⟩
      · rw [str_of]; simpa using h1
      · have h3 := h2
        simp at h3
        exact h3.1)
    have hw := List.all_eq_true.1 hz
    have hget : ∀ i, i < len → ((List.range len).map fun i => (K i, X i)).getD i ([], []) = (K i, X i) := fun i hi => by
      simp [List.getD, hi]
    refine ⟨(List.range len).map fun i => (K i, X i), ⟨by simp, fun h0 => ?_⟩, hl, hm, fun r hr => ?_, ?_⟩
    · have hx : x = ⟨x.block, x.off, none⟩ := by
        obtain ⟨b, o, s⟩ := x
        have hs : s = none := by simpa [Addr.add] using World.cell?_spot (hc 0 (by omega)).1
        rw [hs]
      refine ⟨x.block, x.off, by rw [← hx], ?_, fun i hi => ?_⟩
      · have := (hc 0 (by omega)).1
        first | rw [hx, Lib.add_plain] at this | rw [hx, WideShapes.add_plain] at this
        have := World.block_lt_of_cell? _ _ this
        exact this
      · have h1 := (hc i (by omega)).1
        have h2 := (hc i (by omega)).2.1
        first | rw [hx, Lib.add_plain] at h1 h2 | rw [hx, WideShapes.add_plain] at h1 h2
        rw [(hK i (by omega)).1] at h1
        rw [(hX i (by omega)).1] at h2
        rw [hget i hi, Nat.mul_comm]
        exact ⟨h1, by rw [Nat.add_assoc]; exact h2⟩
    · obtain ⟨i, hi, rfl⟩ := List.mem_map.1 hr
      have hi' : i < len := List.mem_range.1 hi
      have hmem : (DataW.agg [D0 i, D1 i] : DataW H) ∈ (List.range len).map fun i => .agg [D0 i, D1 i] := List.mem_map.2 ⟨i, hi, rfl⟩
      have e1 : (DataW.agg [D0 i, D1 i] : DataW H).weights Tryz.prog 53 = [(K i).length, (X i).length] := by
        rw [(hK i (by omega)).2, (hX i (by omega)).2, weights_rec]
      have hin : ∀ z ∈ [(K i).length, (X i).length], z ∈ d.weights Tryz.prog 73 := fun z hz' => by
        rw [hdd]
        simp only [DataW.weights, Tryz.underlying73, List.mem_cons, List.mem_append]
        exact .inr (.inl (weights_all hmem (by rw [e1]; exact hz')))
      have h1 := hw _ (DataW.weights_mem_each ht hd _ (hin (K i).length (by simp)))
      have h2 := hw _ (DataW.weights_mem_each ht hd _ (hin (X i).length (by simp)))
      simp [reachBytes] at h1 h2
      exact ⟨of_decide_eq_true h1, of_decide_eq_true h2⟩
    · rw [hdd] at hd
      have hr := sized_slice hz ht hd Tryz.underlying73
      rw [(by kernel_rfl : Tryz.prog.bytesOf 53 = 32)] at hr
      simp only [List.length_map, List.length_range, reachBytes] at hr
      omega
end
end Go.Proofs.YtdjedimjhogdoaaGreatDoor.Rec
end
section
namespace Go.Proofs.YtdjedimjhogdoaaGreatDoor.Mem
open Go.ChangeShapes Go.WideShapes Go.ChangeAt Go.RowKit Go.Deep Go.Proofs.YtdjedimjhogdoaaGreatDoor.Base Go.Proofs.YtdjedimjhogdoaaGreatDoor.Byt Go.Proofs.YtdjedimjhogdoaaGreatDoor.Txt Go.Proofs.YtdjedimjhogdoaaGreatDoor.Bk Go.Proofs.YtdjedimjhogdoaaGreatDoor.Hp Go.Proofs.YtdjedimjhogdoaaGreatDoor.Head Go.Proofs.YtdjedimjhogdoaaGreatDoor.Rec Go.Lib
set_option linter.unusedVariables false
set_option maxRecDepth 100000

theorem list8 {α : Type} (l : List α) (h : l.length = 8) : ∃ a b c d e f g i, l = [a, b, c, d, e, f, g, i] := by
  match l, h with
  | [a, b, c, d, e, f, g, i], _ => exact ⟨a, b, c, d, e, f, g, i, rfl⟩
theorem list5 {α : Type} (l : List α) (h : l.length = 5) : ∃ a b c d e, l = [a, b, c, d, e] := by
  match l, h with
  | [a, b, c, d, e], _ => exact ⟨a, b, c, d, e, rfl⟩
theorem cells8 : Tryz.prog.cellsOf 37 = 8 := by kernel_rfl
theorem cellsY : Tryz.prog.cellsOf 22 = 1 := by kernel_rfl
instance : Inhabited MP := ⟨zeroP⟩
/-- its numbers are int's -/
def WfM (m : MemV) : Prop := (Lit.int .i64 m.mode).wf = true ∧ (Lit.int .i64 m.uid).wf = true ∧ (Lit.int .i64 m.gid).wf = true ∧ (Lit.int .i64 m.time).wf = true
/-- its texts and its body have room in memory -/
def RoomM (x : MP) : Prop := x.m.path.length ≤ 140737488351232 ∧ x.m.target.length ≤ 140737488351232 ∧ x.c ≤ 140737488351232
section
variable {H : Type} {enc : TypeId × Value → H} {w : World} {base : Nat} {held : Bool}
theorem mem_cells {cs : List Value} {d : DataW H} {ps : List MemPlace} {fuel : Nat} (hw : ∀ z ∈ d.weights Tryz.prog 37, z ≤ reachBytes)
    (hf : DataW.trod enc Tryz.prog w base (fun _ => true) held fuel 37 cs = some (d, ps)) :
    ∃ x : MP, cs = x.cs.toList ∧ BodyAt w x ∧ WfM x.m ∧ RoomM x := by
  obtain ⟨xs, n, rfl, hx, hl, hxl, hall⟩ := DataW.trod_struct Tryz.underlying37 hf
  rw [cells8] at hl
  obtain ⟨a, b, c, e, f, g, i, j, rfl⟩ := list8 cs hl
  obtain ⟨x0, x1, x2, x3, x4, rfl⟩ := list5 xs (by simpa using hxl)
  have h0 := hall 0 _ rfl
  have h1 := hall 1 _ rfl
  have h2 := hall 2 _ rfl
  have h3 := hall 3 _ rfl
  have h4 := hall 4 _ rfl
  simp only [List.getElem_toArray, List.getElem_cons_zero, List.getElem_cons_succ, cellsM, cellsS, cellsU, cellsY, List.drop_zero, List.drop_succ_cons, List.take_succ_cons, List.take_zero, List.getElem?_cons_zero, List.getElem?_cons_succ] at h0 h1 h2 h3 h4
  obtain ⟨s0, e0, rfl, z0⟩ := DataW.trod_string Tryz.underlying9 h0
  obtain ⟨s1, e1, rfl, z1⟩ := DataW.trod_string Tryz.underlying9 h1
  obtain ⟨k2, e2, rfl, z2⟩ := DataW.trod_int Tryz.underlying5 h2
  obtain ⟨ys, n', rfl, hy, hl', hyl, hall'⟩ := DataW.trod_struct Tryz.underlying35 h3
  obtain ⟨y0, y1, y2, y3, rfl⟩ := list4 ys (by simpa using hyl)
  have g0 := hall' 0 _ rfl
  have g1 := hall' 1 _ rfl
  have g2 := hall' 2 _ rfl
  have g3 := hall' 3 _ rfl
  simp only [List.getElem_toArray, List.getElem_cons_zero, List.getElem_cons_succ, cellsI, List.drop_zero, List.drop_succ_cons, List.take_succ_cons, List.take_zero, List.getElem?_cons_zero, List.getElem?_cons_succ] at g0 g1 g2 g3
  obtain ⟨m0, f0, rfl, q0⟩ := DataW.trod_int Tryz.underlying3 g0
  obtain ⟨m1, f1, rfl, q1⟩ := DataW.trod_int Tryz.underlying3 g1
  obtain ⟨m2, f2, rfl, q2⟩ := DataW.trod_int Tryz.underlying3 g2
  obtain ⟨m3, f3, rfl, q3⟩ := DataW.trod_int Tryz.underlying3 g3
  simp only [List.cons.injEq, and_true] at e0 e1 e2 f0 f1 f2 f3
  subst e0 e1 e2 f0 f1 f2 f3
  obtain ⟨k0, k1⟩ := wf8 z2
  simp only [Prod.mk.injEq, List.map_cons, List.map_nil] at hx
  obtain ⟨hd, _⟩ := hx
  have ew : d.weights Tryz.prog 37 = DataW.weightsEach Tryz.prog [9, 9, 5, 35, 22] [.lit (.string s0.data.toList), .lit (.string s1.data.toList), .lit (.int .u8 k2), x3.1, x4.1] := by
    rw [hd]
    simp only [DataW.weights, Tryz.underlying37]
    rfl
  have w0 := hw s0.data.toList.length (by rw [ew]; simp [DataW.weightsEach, DataW.weights])
  have w1 := hw s1.data.toList.length (by rw [ew]; simp [DataW.weightsEach, DataW.weights])
  have w4 : ∀ z ∈ x4.1.weights Tryz.prog 22, z ≤ reachBytes := fun z hz => hw z (by
    rw [ew]
    simp only [DataW.weightsEach, List.mem_append]
    exact .inr (.inr (.inr (.inr (.inl hz)))))
  have ek : ((UInt8.ofNat k2.toNat).toNat : Int) = k2 := by rw [UInt8.toNat_ofNat']; omega
  simp only [reachBytes] at w0 w1
  rcases open_ints Tryz.underlying22 Tryz.underlying5 cellsU h4 with ⟨hcs, _⟩ | ⟨x, l, cp, zs, hcs, _, hlc, hmx, hz, hxx, hcell, hwz⟩
  · simp only [List.cons.injEq, and_true] at hcs
    subst hcs
    refine ⟨⟨⟨s0.data.toList, s1.data.toList, UInt8.ofNat k2.toNat, m0, m1, m2, m3, []⟩, none, 0⟩, ?_, ⟨fun h0 => by simp at h0, Nat.le_refl _, by show (0 : Nat) ≤ maxLen; decide⟩, ⟨q0, q1, q2, q3⟩, by omega, by omega, by show 0 ≤ _; omega⟩
    rw [MP.cs_list, str_of, str_of, ek]
    rfl
  · simp only [List.cons.injEq, and_true] at hcs
    subst hcs
    simp only [if_true] at hz
    have hrow : IsRow .u8 w (some x) l cp zs := .inr ⟨_, rfl, hlc, hmx, hz, fun i hi => hcell i hi, hwz⟩
    obtain ⟨b1, b2, b3, b4⟩ := bat_of_row hrow
    have wc := w4 (cp * 1) (by
      rw [hxx]
      simp only [DataW.weights, Tryz.underlying22, List.mem_cons, List.mem_append, lits, List.length_map, List.length_take, List.length_drop]
      refine .inl ?_
      rw [(by kernel_rfl : Tryz.prog.bytesOf 5 = 1)]
      congr 1
      omega)
    simp only [reachBytes] at wc
    refine ⟨⟨⟨s0.data.toList, s1.data.toList, UInt8.ofNat k2.toNat, m0, m1, m2, m3, bytesOf (zs.take l)⟩, some x, cp⟩, ?_, ⟨?_, ?_, hmx⟩, ⟨q0, q1, q2, q3⟩, by omega, by omega, by show cp ≤ _; omega⟩
    · rw [MP.cs_list, str_of, str_of, ek]
      simp only [b2]
    · show BAt w (some x) (bytesOf (zs.take l)).length (bytesOf (zs.take l))
      rw [b2]
      exact b1
    · show (bytesOf (zs.take l)).length ≤ cp
      rw [b2]
      exact hlc
theorem mem_open {v : Value} {d : DataW H} {ps : List MemPlace} {ts : List TypeId} {ds : List (DataW H)} (hz : (DataW.weightsEach Tryz.prog ts ds).all (· ≤ reachBytes) = true) {j : Nat} (ht : ts[j]? = some 37) (hd : ds[j]? = some d)
    (h : DataW.Trod enc Tryz.prog w base (fun _ => true) held 37 v d ps) :
    ∃ x : MP, v = .agg x.cs ∧ BodyAt w x ∧ WfM x.m ∧ RoomM x := by
  obtain ⟨fuel, hf⟩ := h
  have hw := List.all_eq_true.1 hz
  obtain ⟨x, h1, h2⟩ := mem_cells (fun z hzz => of_decide_eq_true (hw _ (DataW.weights_mem_each ht hd _ hzz))) hf
  refine ⟨x, ?_, h2⟩
  obtain ⟨cs, rfl⟩ : ∃ cs, v = .agg cs := by
    have hl := congrArg List.length h1
    rw [MP.cs_list] at hl
    cases v <;> first | exact ⟨_, rfl⟩ | (simp [Value.cells] at hl)
  congr 1
  apply Array.toList_inj.1
  exact h1
theorem mems_open {a : Option Addr} {len cap : Nat} {d : DataW H} {ps : List MemPlace} {ts : List TypeId} {ds : List (DataW H)} (hz : (DataW.weightsEach Tryz.prog ts ds).all (· ≤ reachBytes) = true) {j : Nat} (ht : ts[j]? = some 25) (hd : ds[j]? = some d)
    (h : DataW.Trod enc Tryz.prog w base (fun _ => true) held 25 (.slice a len cap) d ps) :
    ∃ xs : List MP, MemsAt w a len xs ∧ len ≤ cap ∧ cap ≤ maxLen ∧ cap * 96 ≤ 140737488351232 ∧ ∀ x ∈ xs, WfM x.m ∧ RoomM x := by
  obtain ⟨fuel, hf⟩ := h
  rcases open_slice Tryz.underlying25 hf with ⟨hcs, _⟩ | ⟨x, l, c, m, n, D, Pl, hcs, hb, hl, hm, hmm, hdd, hx⟩
  · simp [Value.cells] at hcs
    obtain ⟨rfl, rfl, rfl⟩ := hcs
    exact ⟨[], mems_nil w none, by omega, by omega, by omega, fun x hx => by simp at hx⟩
  · simp [Value.cells] at hcs
    obtain ⟨rfl, rfl, rfl⟩ := hcs
    simp only [if_true] at hmm
    subst hmm
    simp only [Prod.mk.injEq] at hdd
    obtain ⟨hdd, _⟩ := hdd
    have hw := List.all_eq_true.1 hz
    have key : ∀ i, i < len → ∃ q : MP, w.cells? base (x.add (i * 8)) 8 = some q.cs.toList ∧ BodyAt w q ∧ WfM q.m ∧ RoomM q := fun i hi => by
      obtain ⟨cs', h1, h2⟩ := hx i (by omega)
      rw [cells8] at h1
      have hmem : D i ∈ (List.range len).map D := List.mem_map.2 ⟨i, List.mem_range.2 hi, rfl⟩
      obtain ⟨q, rfl, g⟩ := mem_cells (fun z hzz => by
        have hin : z ∈ d.weights Tryz.prog 25 := by
          rw [hdd]
          simp only [DataW.weights, Tryz.underlying25, List.mem_cons, List.mem_append]
          exact .inr (.inl (weights_all hmem hzz))
        exact of_decide_eq_true (hw _ (DataW.weights_mem_each ht hd _ hin))) h2
      exact ⟨q, h1, g⟩
    obtain ⟨q, hq⟩ := choose_lt key
    have hget : ∀ i, i < len → ((List.range len).map q).getD i zeroP = q i := fun i hi => by
      simp [List.getD, hi]
    have hbytes : m * 96 ∈ d.weights Tryz.prog 25 := by
      rw [hdd]
      simp only [DataW.weights, Tryz.underlying25, List.mem_cons, List.mem_append, List.length_map, List.length_range]
      refine .inl ?_
      rw [(by kernel_rfl : Tryz.prog.bytesOf 37 = 96)]
      congr 1
      omega
    have hby := of_decide_eq_true (hw _ (DataW.weights_mem_each ht hd _ hbytes))
    simp only [reachBytes] at hby
    refine ⟨(List.range len).map q, ⟨by simp, fun y hy => ?_, fun h0 => ?_⟩, hl, hm, hby, fun y hy => ?_⟩
    · obtain ⟨i, hi, rfl⟩ := List.mem_map.1 hy
      exact (hq i (List.mem_range.1 hi)).2.1
    · obtain ⟨_, _, hc0⟩ := World.cells?_some (hq 0 h0).1
      have c0 : w.cell? ((x.add (0 * 8)).add 0) = some (.string (str (q 0).m.path)) := hc0 0 (by omega)
      have hx0 : x = ⟨x.block, x.off, none⟩ := by
        obtain ⟨b, o, s⟩ := x
        have hs : s = none := by
          have : w.cell? (⟨b, o, s⟩ : Addr) = some (.string (str (q 0).m.path)) := by simpa [Addr.add] using c0
          exact World.cell?_spot this
        rw [hs]
      refine ⟨x.block, x.off, by rw [← hx0], ?_, fun i hi j hj => ?_⟩
      · have c0' : w.cell? ((x.add (0 * 8)).add 0) = some (.string (str (q 0).m.path)) := c0
        first | rw [hx0, Lib.add_plain, Lib.add_plain] at c0' | rw [hx0, WideShapes.add_plain, WideShapes.add_plain] at c0'
        have c1' := World.block_lt_of_cell? _ _ c0'
        exact c1'
      · obtain ⟨_, _, hci⟩ := World.cells?_some (hq i hi).1
        have := hci j hj
        first | rw [hx0, Lib.add_plain, Lib.add_plain] at this | rw [hx0, WideShapes.add_plain, WideShapes.add_plain] at this
        rw [hget i hi, show x.off + 8 * i + j = x.off + i * 8 + j by omega, this, Array.getElem?_toList]
    · obtain ⟨i, hi, rfl⟩ := List.mem_map.1 hy
      exact (hq i (List.mem_range.1 hi)).2.2
end
end Go.Proofs.YtdjedimjhogdoaaGreatDoor.Mem
end
section
namespace Go.Proofs.YtdjedimjhogdoaaGreatDoor.Byt
open Go.ChangeShapes Go.WideShapes Go.ChangeAt Go.RowKit Go.Proofs.YtdjedimjhogdoaaGreatDoor.Base Go.Lib
set_option linter.unusedVariables false

theorem below_setCells {n : Nat} {w : World} (g : Nat) (hg : n ≤ g) : ∀ (vs : List Value) (o : Nat) (w' : World), Below n w w' → Below n w (w'.setCells g o vs)
  | [], _, _, h => h
  | v :: vs, o, w', h => below_setCells g hg vs (o + 1) _ (h.setCell (p := ⟨g, o, none⟩) hg v)
theorem getD_app_zeros (xs : List UInt8) (k j : Nat) (h : xs.length ≤ j) : (xs ++ List.replicate k 0).getD j 0 = 0 := by
  rw [List.getD, List.getElem?_append_right h]
  rcases Nat.lt_or_ge (j - xs.length) k with h1 | h1
  · rw [List.getElem?_replicate, if_pos h1]; rfl
  · rw [List.getElem?_eq_none (by simpa using h1)]; rfl
theorem getD_app_left (xs ys : List UInt8) (j : Nat) (h : j < xs.length) : (xs ++ ys).getD j 0 = xs.getD j 0 := by
  rw [List.getD, List.getD, List.getElem?_append_left h]
theorem run_str_zeros {P : Program} (w : World) (t tn ty e : TypeId) (i : TypeInfo) (kq kn : IntKind) (ht : P.underlying t = some (.slice e)) (htn : P.underlying tn = some (.int kn)) (hi : P.info? e = some i) (hz : i.zero = some (.int .u8 0))
    (hsize : i.size = 1) (hby : i.bytes = 1) (s : ByteArray) (k : Nat) (hsum : s.size + k ≤ 140737488351232) :
    ∃ p c w', (Builtin.append_ #[t, tn] ty #[.slice (some ⟨w.heap.size, 0, none⟩) s.size (grownCap w s.size 0 e), .int kq k]).run P (bytesWorld w e s) = .ok (.slice p (s.size + k) c) w' ∧ s.size + k ≤ c ∧ c ≤ maxLen ∧
      BAt w' p (s.size + k) (s.data.toList ++ List.replicate k 0) ∧ Below w.heap.size w w' := by
  have hw : IntKind.i64.wrap (k : Int) = k := by rw [IntKind.wrap_i64]; omega
  have hneg : ¬ ((k : Int) < 0) := by omega
  have h48i : ¬ (281474976710656 < (k : Int)) := by omega
  have hbl := str_below w e s
  have hsl : s.data.toList.length = s.size := by simp
  have hW := bytesWorld_size w e s
  have hcp := str_cap w e s (by unfold maxLen; omega)
  by_cases hk0 : k = 0
  · subst hk0
    have hrun : (Builtin.append_ #[t, tn] ty #[.slice (some ⟨w.heap.size, 0, none⟩) s.size (grownCap w s.size 0 e), .int kq ((0 : Nat) : Int)]).run P (bytesWorld w e s) = .ok (.slice (some ⟨w.heap.size, 0, none⟩) s.size (grownCap w s.size 0 e)) (bytesWorld w e s) := by
      simp [Builtin.append_, run_underlying ht, run_underlying htn, sizeOf, typeInfo, hi, asInt, asIntOf]
      have h0 : IntKind.i64.wrap 0 = 0 := hw
      simp [h0, hcp.1, storeCells]
    refine ⟨_, _, _, hrun, hcp.1, hcp.2, ?_, hbl⟩
    have := str_bat w e s
    simpa using this
  · have hk : 0 < k := by omega
    by_cases hroom : s.size + k ≤ grownCap w s.size 0 e
    · have hnew := bytesWorld_at_new w e s
      have hcs : (bytesCells w e s).size = grownCap w s.size 0 e := by
        simp only [bytesCells, Array.size_append, Array.size_map, Array.size_replicate]
        have : s.data.size = s.size := rfl
        omega
      have hlen : ((zs8 k).map (Value.int .u8)).length = k := by rw [List.length_map, zs8, List.length_replicate]
      have hst := run_storeCells_cells (P := P) w.heap.size s.size ((zs8 k).map (Value.int .u8)) 0 (bytesWorld w e s) (fun j hj => by
        rw [hlen] at hj
        simp only [World.cell?, hnew]
        rw [Array.getElem?_eq_getElem (by rw [hcs]; omega)]
        rfl) (fun j hj => by
        rw [hlen] at hj
        simp only [World.frozen?, hnew, Bool.and_eq_false_iff, decide_eq_false_iff_not, hcs]
        left
        omega) (ints_oneCell .u8 _)
      simp only [Nat.add_zero] at hst
      have hr : (Builtin.append_ #[t, tn] ty #[.slice (some ⟨w.heap.size, 0, none⟩) s.size (grownCap w s.size 0 e), .int kq (k : Int)]).run P (bytesWorld w e s) = .ok (.slice (some ⟨w.heap.size, 0, none⟩) (s.size + k) (grownCap w s.size 0 e)) ((bytesWorld w e s).setCells w.heap.size s.size ((zs8 k).map (Value.int .u8))) := by
        have hks : ¬ (k = 0) := hk0
        have hzc2 : (Builtin.zeroCells (Value.int .u8 0).cells k).toList = (zs8 k).map (Value.int .u8) := zeroCells_u8 k
        simp [Builtin.append_, run_underlying ht, run_underlying htn, sizeOf, typeInfo, zeroValue, hi, hz, hsize, hby, asInt, asIntOf, hw, hneg, h48i, hks, hroom, Addr.add_lit, hzc2, hst]
      refine ⟨_, _, _, hr, hroom, hcp.2, fun _ => ⟨w.heap.size, 0, rfl, fun j hj => ?_⟩, below_setCells _ (Nat.le_refl _) _ _ _ hbl⟩
      rw [Nat.zero_add]
      rcases Nat.lt_or_ge j s.size with hjs | hjs
      · rw [World.cell?_setCells_out _ _ _ _ _ (fun _ _ => Or.inl hjs), bytesWorld_cell w e s j hjs, getD_app_left _ _ _ (by rw [hsl]; exact hjs)]
      · obtain ⟨d, rfl⟩ : ∃ d, j = s.size + d := ⟨j - s.size, by omega⟩
        have hd : d < ((zs8 k).map (Value.int .u8)).length := by rw [hlen]; omega
        rw [World.cell?_setCells_in _ _ _ _ (fun q hq => by
          rw [hlen] at hq
          simp only [World.cell?, hnew]
          rw [Array.getElem?_eq_getElem (by rw [hcs]; omega)]
          rfl) d hd, getD_app_zeros _ _ _ (by rw [hsl]; omega)]
        simp [zs8]
    · have holds : ∀ j u, (s.data.toList.map fun b => Value.int .u8 (b.toNat : Int))[j]? = some u → (bytesWorld w e s).drew.cell? ((⟨w.heap.size, 0, none⟩ : Addr).add j) = some u := fun j u hj => by
        have hjl : j < s.size := by
          have := (List.getElem?_eq_some_iff.1 hj).1
          rw [List.length_map, hsl] at this
          exact this
        have hc := bytesWorld_cell w e s j hjl
        have hadd : (⟨w.heap.size, 0, none⟩ : Addr).add j = ⟨w.heap.size, j, none⟩ := by unfold Addr.add; split <;> simp_all
        rw [hadd]
        have hdr : (bytesWorld w e s).drew.cell? ⟨w.heap.size, j, none⟩ = (bytesWorld w e s).cell? ⟨w.heap.size, j, none⟩ := rfl
        rw [hdr, hc]
        rw [List.getElem?_map] at hj
        obtain ⟨b, hb, rfl⟩ := Option.map_eq_some_iff.1 hj
        rw [List.getD, hb]
        rfl
      have hold := run_firstCells_some (P := P) (bytesWorld w e s).drew i.size s.size ⟨w.heap.size, 0, none⟩ s.size (grownCap w s.size 0 e) (s.data.toList.map fun b => Value.int .u8 (b.toNat : Int)) (by rw [hsize, List.length_map, hsl, Nat.mul_one]) holds
      have hr := run_append_grow_zeros (P := P) (bytesWorld w e s) t tn ty e i (.int .u8 0) kq kn ht htn hi hz (some ⟨w.heap.size, 0, none⟩) s.size (grownCap w s.size 0 e) (s.data.toList.map fun b => Value.int .u8 (b.toNat : Int)) hold k hk (by omega) (by omega) (by omega) (by rw [hby]; omega) (growslice_fits (by omega) (by rw [hby]; omega))
      have hge := grownCap_ge (bytesWorld w e s) (s.size + k) (grownCap w s.size 0 e) e
      have hcm : grownCap (bytesWorld w e s) (s.size + k) (grownCap w s.size 0 e) e ≤ maxLen := grownCap_le_maxLen _ _ _ e (by unfold maxLen; omega)
      refine ⟨_, _, _, hr, hge, hcm, fun _ => ⟨(bytesWorld w e s).heap.size, 0, rfl, ?_⟩, ?_⟩
      · intro j hj
        rw [Nat.zero_add]
        have hz1 : (Builtin.zeroCells (Value.int .u8 0).cells k).toList = (zs8 k).map (Value.int .u8) := zeroCells_u8 k
        have hz2 : (Builtin.zeroCells (Value.int .u8 0).cells (grownCap (bytesWorld w e s) (s.size + k) (grownCap w s.size 0 e) e - (s.size + k))).toList = (zs8 (grownCap (bytesWorld w e s) (s.size + k) (grownCap w s.size 0 e) e - (s.size + k))).map (Value.int .u8) := zeroCells_u8 _
        have hb := heap_alloc_new (bytesWorld w e s).drew (.cells ((s.data.toList.map fun b => Value.int .u8 (b.toNat : Int)).toArray ++ Builtin.zeroCells (Value.int .u8 0).cells k ++ Builtin.zeroCells (Value.int .u8 0).cells (grownCap (bytesWorld w e s) (s.size + k) (grownCap w s.size 0 e) e - (s.size + k))) e)
        have hb2 : (bytesWorld w e s).drew.heap.size = (bytesWorld w e s).heap.size := rfl
        rw [hb2] at hb
        simp only [World.cell?, hb]
        rw [← Array.getElem?_toList, Array.toList_append, Array.toList_append, hz1, hz2, List.getElem?_append_left (by rw [List.length_append, List.length_map, List.length_map, zs8, List.length_replicate, hsl]; exact hj)]
        have hm : (s.data.toList.map fun b => Value.int .u8 (b.toNat : Int)) ++ (zs8 k).map (Value.int .u8) = (s.data.toList ++ List.replicate k 0).map fun b : UInt8 => Value.int .u8 (b.toNat : Int) := by simp [zs8]
        have hjl : j < (s.data.toList ++ List.replicate k (0 : UInt8)).length := by rw [List.length_append, List.length_replicate, hsl]; exact hj
        show ((s.data.toList.map fun b => Value.int .u8 (b.toNat : Int)) ++ (zs8 k).map (Value.int .u8))[j]? = _
        rw [hm, List.getElem?_map, List.getElem?_eq_getElem hjl, List.getD, List.getElem?_eq_getElem hjl]
        rfl
      · exact (Below.trans hbl ⟨rfl, rfl, rfl, Nat.le_refl _, fun _ _ => rfl⟩ : Below w.heap.size w (bytesWorld w e s).drew).alloc hbl.size _
theorem append_str_zeros {P : Program} {w : World} {ops : Array Oper} {rest : List Oper} {o : Oper} {a : Act} {Q : Exit → Act → World → Prop} (hgd : o.guard = none) (s x : Operand) (t tn : TypeId)
    (ho : o.op = .call { callee := .builtin .append, args := #[s, x], argTypes := #[t, tn] })
    (e : TypeId) (i : TypeInfo) (kq kn : IntKind) (ht : P.underlying t = some (.slice e)) (htn : P.underlying tn = some (.int kn)) (hi : P.info? e = some i) (hz : i.zero = some (.int .u8 0)) (hsize : i.size = 1) (hby : i.bytes = 1)
    (S : ByteArray) (hs : a.eval s = .slice (some ⟨w.heap.size, 0, none⟩) S.size (grownCap w S.size 0 e)) (K : Int) (k : Nat) (hx : a.eval x = .int kq K) (hK : K = (k : Int)) (hsum : S.size + k ≤ 140737488351232)
    (h : ∀ p c w', S.size + k ≤ c → c ≤ maxLen → BAt w' p (S.size + k) (S.data.toList ++ List.replicate k 0) → Below w.heap.size w w' → wpList P ops Q rest (a.put o.dst (.slice p (S.size + k) c)) w') : wpList P ops Q (o :: rest) a (bytesWorld w e S) := by
  subst hK
  obtain ⟨p, c, w', hr, h1, h2, h3, h4⟩ := run_str_zeros (P := P) w t tn o.type e i kq kn ht htn hi hz hsize hby S k hsum
  exact Lib.wpList_append_run _ hgd s x t tn ho _ (.int kq k) hs hx _ w' hr (h p c w' h1 h2 h3 h4)
end Go.Proofs.YtdjedimjhogdoaaGreatDoor.Byt
end
section
namespace Go.Proofs.YtdjedimjhogdoaaGreatDoor.Mem
open Go.ChangeShapes Go.WideShapes Go.ChangeAt Go.RowKit Go.Proofs.YtdjedimjhogdoaaGreatDoor.Base Go.Proofs.YtdjedimjhogdoaaGreatDoor.Byt Go.Proofs.YtdjedimjhogdoaaGreatDoor.Txt Go.Proofs.YtdjedimjhogdoaaGreatDoor.Bk Go.Proofs.YtdjedimjhogdoaaGreatDoor.Hp Go.Proofs.YtdjedimjhogdoaaGreatDoor.Head Go.Proofs.YtdjedimjhogdoaaGreatDoor.Block Go.Proofs.YtdjedimjhogdoaaGreatDoor.Attr Go.Proofs.YtdjedimjhogdoaaGreatDoor.Rec Go.Lib
theorem line_short (n : Nat) (h : n < 65536) : 0 < (lineD (keyT 0) (decL n)).length ∧ (lineD (keyT 0) (decL n)).length ≤ 100 := by
  have hmay : mayD (keyT 0) (decL n) = true := may_key 0 (by omega) (dec_text n) (by have := dec_le n 18 (by omega) (by omega); omega)
  obtain ⟨d, _, _, _, _, hd7, _, e⟩ := line_parts hmay
  have := dec_le n 18 (by omega) (by omega)
  have : (keyT 0).length = 3 := rfl
  omega
theorem pad_short {l : List UInt8} (h0 : 0 < l.length) (h : l.length ≤ 512) : padB l = l ++ List.replicate (512 - l.length) 0 := by
  have : blocksOf l.length = 512 := by unfold blocksOf; omega
  rw [padB, this]
theorem u16_of {K : Int} (h : (Lit.int .u16 K).wf = true) : ∃ k : Nat, (k : Int) = K ∧ k < 65536 := by
  have h1 : IntKind.u16.min = 0 := rfl
  have h2 : IntKind.u16.max = 65535 := rfl
  simp only [Lit.wf, Bool.and_eq_true, decide_eq_true_eq] at h
  exact ⟨K.toNat, by omega, by omega⟩
theorem extH_wf (name : List UInt8) (k : UInt8) (n : Nat) (h : n ≤ 1048576) : ∀ i, (Lit.int .i64 (numH (⟨name, [], k, 0, 0, 0, 0, (n : Int), false⟩ : HeadV) i)).wf = true := by
  intro i
  unfold numH
  split <;> first | exact wf_i64 (n := 0) (by decide) (by decide) | exact wf_i64 (n := (n : Int)) (by omega) (by omega)
theorem get_arch {ys xs0 xs1 : List MP} {F : MemV → MemV} (h : ys.map MP.m = xs0.map MP.m ++ (xs1.map MP.m).map F) (k : Nat) :
    (k < xs0.length → (ys.getD k zeroP).m = (xs0.getD k zeroP).m) ∧ (xs0.length ≤ k → k < xs0.length + xs1.length → (ys.getD k zeroP).m = F (xs1.getD (k - xs0.length) zeroP).m) := by
  have hl := congrArg List.length h
  simp only [List.length_map, List.length_append] at hl
  have g := congrArg (fun l => l[k]?) h
  simp only [List.getElem?_map] at g
  refine ⟨fun hk => ?_, fun h1 h2 => ?_⟩
  · rw [List.getElem?_append_left (by rw [List.length_map]; exact hk), List.getElem?_map, List.getElem?_eq_getElem (by omega), List.getElem?_eq_getElem hk] at g
    rw [List.getD, List.getD, List.getElem?_eq_getElem (by omega), List.getElem?_eq_getElem hk]
    simpa using g
  · rw [List.getElem?_append_right (by rw [List.length_map]; exact h1), List.length_map, List.getElem?_map, List.getElem?_map, List.getElem?_eq_getElem (by omega), List.getElem?_eq_getElem (by omega)] at g
    rw [List.getD, List.getD, List.getElem?_eq_getElem (by omega), List.getElem?_eq_getElem (by omega)]
    simpa using g
def BlkC8 (w : World) (b : Nat) (c0 c1 : ByteArray) (c2 c3 c4 c5 c6 : Int) (c7 : Value) : Prop :=
  w.cell? ⟨b, 0, none⟩ = some (.string c0) ∧ w.cell? ⟨b, 1, none⟩ = some (.string c1) ∧ w.cell? ⟨b, 2, none⟩ = some (.int .u8 c2) ∧ w.cell? ⟨b, 3, none⟩ = some (.int .i64 c3) ∧
  w.cell? ⟨b, 4, none⟩ = some (.int .i64 c4) ∧ w.cell? ⟨b, 5, none⟩ = some (.int .i64 c5) ∧ w.cell? ⟨b, 6, none⟩ = some (.int .i64 c6) ∧ w.cell? ⟨b, 7, none⟩ = some c7
theorem blkC8 {w : World} {b : Nat} {t : TypeId} {c0 c1 : ByteArray} {c2 c3 c4 c5 c6 : Int} {c7 : Value} (h : Blk w b t #[.string c0, .string c1, .int .u8 c2, .int .i64 c3, .int .i64 c4, .int .i64 c5, .int .i64 c6, c7]) : BlkC8 w b c0 c1 c2 c3 c4 c5 c6 c7 :=
  ⟨h.cell 0, h.cell 1, h.cell 2, h.cell 3, h.cell 4, h.cell 5, h.cell 6, h.cell 7⟩
end Go.Proofs.YtdjedimjhogdoaaGreatDoor.Mem
namespace Go.Proofs.YtdjedimjhogdoaaGreatDoor.Walk
open Go.ChangeShapes Go.WideShapes Go.ChangeAt Go.RowKit Go.Proofs.YtdjedimjhogdoaaGreatDoor.Base Go.Proofs.YtdjedimjhogdoaaGreatDoor.Byt Go.Proofs.YtdjedimjhogdoaaGreatDoor.Txt Go.Proofs.YtdjedimjhogdoaaGreatDoor.Bk Go.Proofs.YtdjedimjhogdoaaGreatDoor.Num Go.Proofs.YtdjedimjhogdoaaGreatDoor.Block Go.Proofs.YtdjedimjhogdoaaGreatDoor.Rec Go.Proofs.YtdjedimjhogdoaaGreatDoor.Hp Go.Proofs.YtdjedimjhogdoaaGreatDoor.Head Go.Proofs.YtdjedimjhogdoaaGreatDoor.Attr Go.Proofs.YtdjedimjhogdoaaGreatDoor.Mem Go.Lib
set_option linter.unusedVariables false
set_option maxRecDepth 100000

set_option maxHeartbeats 8000000 in
theorem memberGlobal (a0 : Option Addr) (len0 cap0 : Nat) (xs0 : List MP) (a1 : Option Addr) (len1 cap1 : Nat) (xs1 : List MP) (U : Int) (w : World) (ma0 : MemsAt w a0 len0 xs0) (lc0 : len0 ≤ cap0) (cm0 : cap0 ≤ maxLen) (by0 : cap0 * 96 ≤ 140737488351232) (rm0 : ∀ x ∈ xs0, WfM x.m ∧ RoomM x)
    (ma1 : MemsAt w a1 len1 xs1) (lc1 : len1 ≤ cap1) (cm1 : cap1 ≤ maxLen) (by1 : cap1 * 96 ≤ 140737488351232) (rm1 : ∀ x ∈ xs1, WfM x.m ∧ RoomM x) (w2 : (Lit.int .u16 U).wf = true) (hT : Need w) :
    Calls Tryz.prog 10 #[.slice a0 len0 cap0, .slice a1 len1 cap1, .int .u16 U] w fun e w' => e = .returned (.bool true) ∧ Below w.heap.size w w' := by
  obtain ⟨n, rfl⟩ : ∃ n, n = len0 := ⟨_, rfl⟩
  obtain ⟨m, rfl⟩ : ∃ m, m = len1 := ⟨_, rfl⟩
  obtain ⟨u, rfl, hu⟩ := u16_of w2
  have HG0 := Lib.hid (lgood_any a0 n cap0 xs0 w ma0 (fun x hx => ⟨(rm0 x hx).2.1, (rm0 x hx).2.2.1⟩))
  have HG1 := Lib.hid (fun w' (hb : Below w.heap.size w w') => lgood_any a1 m cap1 xs1 w' (ma1.below hb) (fun x hx => ⟨(rm1 x hx).2.1, (rm1 x hx).2.2.1⟩))
  have HM0 := Lib.hid ma0
  have HM1 := Lib.hid ma1
  have HN := Lib.hid hT
  obtain ⟨g0, hg0⟩ : ∃ g, goodL (xs0.map MP.m) = g := ⟨_, rfl⟩
  obtain ⟨g1, hg1⟩ : ∃ g, goodL (xs1.map MP.m) = g := ⟨_, rfl⟩
  rw [hg0] at HG0
  simp only [hg1] at HG1
  have HGL0 := Lib.hid hg0
  have HGL1 := Lib.hid hg1
  clear ma0 lc0 cm0 by0 rm0 ma1 lc1 cm1 by1 rm1 hT hg0 hg1 w2
  go_enter Tryz.func10, Tryz.ntmps10
  go_wp2_with fail
  refine HG0.out.mono ?_
  rintro e w1 ⟨rfl, hb1⟩
  have HB1 := Lib.hid hb1
  clear hb1
  cases g0 with
  | false =>
    go_wp2_with fail
    refine (ans08_any _ (HN.out.below HB1.out)).mono ?_
    rintro e w2 ⟨rfl, hb2⟩
    have FIN := Lib.hid (HB1.out.trans (hb2.mono HB1.out.size))
    clear hb2
    go_wp2
    go_ret
    exact ⟨rfl, FIN.out⟩
  | true =>
    go_wp2_with fail
    refine (HG1.out _ HB1.out).mono ?_
    rintro e w2 ⟨rfl, hb2⟩
    have HB2 := Lib.hid (HB1.out.trans (hb2.mono HB1.out.size))
    clear hb2
    cases g1 with
    | false =>
      go_wp2_with fail
      refine (ans08_any _ (HN.out.below HB2.out)).mono ?_
      rintro e w3 ⟨rfl, hb3⟩
      have FIN := Lib.hid (HB2.out.trans (hb3.mono HB2.out.size))
      clear hb3
      go_wp2
      go_ret
      exact ⟨rfl, FIN.out⟩
    | true =>
      obtain ⟨hn60, hgm0, _⟩ := goodL_facts HGL0.out
      obtain ⟨hm60, hgm1, _⟩ := goodL_facts HGL1.out
      have HPA := Lib.hid (putAllM_len _ hgm0)
      have HPB := Lib.hid (putAllM_len _ hgm1)
      have HGM0 : Hid (∀ x ∈ xs0, GoodM x.m) := Lib.hid (fun x hx => hgm0 _ (List.mem_map_of_mem hx))
      have HGM1 : Hid (∀ x ∈ xs1, GoodM x.m) := Lib.hid (fun x hx => hgm1 _ (List.mem_map_of_mem hx))
      obtain ⟨TL, hTL⟩ : ∃ TL, lineD (keyT 0) (decL u) = TL := ⟨_, rfl⟩
      obtain ⟨ht0, ht1⟩ := line_short u hu
      rw [hTL] at ht0 ht1
      obtain ⟨H, hp, h512, hrd⟩ := ext_put [64] (by decide) (by decide) 103 (by decide) TL.length (by omega)
      have hRG : membersD (putAllM (xs0.map MP.m) ++ (H ++ (padB TL ++ archD (xs1.map MP.m)))) = (xs0.map MP.m ++ (xs1.map MP.m).map (withG (lastD [(keyT 0, decL u)])), 0, 0) := by
        rw [← hTL] at hrd ⊢
        exact read_global hgm0 hgm1 (by omega) u (by omega) h512 hrd
      rw [List.length_map, HM0.out.1] at hn60
      rw [List.length_map, HM1.out.1] at hm60
      rw [pad_short ht0 (by omega)] at hRG
      have HRG := Lib.hid hRG
      have HH := Lib.hid (And.intro hp h512)
      have HTL := Lib.hid hTL
      obtain ⟨STL, hSTL⟩ : ∃ S, str TL = S := ⟨_, rfl⟩
      have htl : TL.length = STL.size := by rw [← hSTL, str_size]
      rw [htl] at ht0 ht1
      have HTN := Lib.hid htl
      have HST := Lib.hid hSTL
      have HDEC : Hid (∀ w', Calls Tryz.prog 27 #[.int .i64 (u : Int)] w' fun e w'' => e = .returned (.string (str (decL u))) ∧ Below w'.heap.size w' w'') := Lib.hid (fun w' => dec_any u w' (by omega))
      have HLINE : Hid (∀ w', Calls Tryz.prog 25 #[.agg #[.string ⟨#[117, 105, 100]⟩, .string (str (decL u))]] w' fun e w'' => e = .returned (.string STL) ∧ Below w'.heap.size w' w'') := Lib.hid (fun w' => by
        have := line_any (keyT 0) (decL u) w' (by have := dec_le u 18 (by omega) (by omega); have : (keyT 0).length = 3 := rfl; omega)
        rw [HTL.out, HST.out] at this
        exact this)
      have HPH : Hid (∀ w', Calls Tryz.prog 26 #[.agg #[.string ⟨#[64]⟩, .string ⟨#[]⟩, .int .u8 103, .int .i64 0, .int .i64 0, .int .i64 0, .int .i64 0, .int .i64 (STL.size : Int), .bool false]] w' (PutHPost w' (putR ⟨[64], [], 103, 0, 0, 0, 0, (TL.length : Int), false⟩))) := Lib.hid (fun w' => by
        have := rputH_any ⟨[64], [], 103, 0, 0, 0, 0, (TL.length : Int), false⟩ (extH_wf [64] 103 TL.length (by rw [HTN.out]; omega)) (by show (1 : Nat) ≤ _; decide) (by show (0 : Nat) ≤ _; decide) w'
        simp only [HTN.out] at this ⊢
        exact this)
      clear hp h512 hrd hgm0 hgm1 hTL hRG htl hSTL
      go_wp2_with fail
      refine (HDEC.out _).mono ?_
      rintro e w3 ⟨rfl, hb3⟩
      have HB3 := Lib.hid (HB2.out.trans (hb3.mono HB2.out.size))
      clear hb3
      go_wp2_with fail
      refine (HLINE.out _).mono ?_
      rintro e w4 ⟨rfl, hb4⟩
      have HB4 := Lib.hid (HB3.out.trans (hb4.mono HB3.out.size))
      clear hb4
      go_wp2_with fail
      refine (HPH.out _).mono ?_
      rintro e w5 ⟨hk5, (⟨bs, gx, hr, rfl, hrow, hge⟩ | ⟨hr, rfl⟩)⟩
      case inr => rw [HH.out.1] at hr; cases hr
      obtain rfl : bs = H := by rw [HH.out.1] at hr; exact (Option.some.inj hr).symm
      have hbh := hrow.bat
      rw [HH.out.2] at hbh
      have HBH := Lib.hid hbh
      have HB5 := Lib.hid (HB4.out.trans (hk5.below HB4.out.size (fun _ h => h.elim)))
      clear hk5 hr hrow hge hbh HPH HDEC HLINE
      go_wp2_with fail
      refine (rarch_any _ a0 n cap0 xs0 (HM0.out.below HB5.out) HGM0.out (by omega)).mono ?_
      rintro e w6 ⟨v6, rfl, ho6, hk6⟩
      obtain ⟨p6, c6, rfl, hle6, hmx6, hb6, _, _⟩ := ho6.slice
      obtain ⟨M, hM⟩ : ∃ M, (putAllM (xs0.map MP.m)).length = M := ⟨_, rfl⟩
      have hL : (archD (xs0.map MP.m)).length = M + 1024 := by rw [archD_eq, List.length_append, List.length_replicate, hM]
      have hMl : M ≤ 300000000 := by have := HPA.out; rw [hM, List.length_map, HM0.out.1] at this; omega
      have hb6' : BAt w6 p6 M (putAllM (xs0.map MP.m)) := by
        have := hb6.take (k := M) (by rw [hL]; omega)
        rw [archD_eq, ← hM, List.take_left'] at this
        · rw [← hM]; exact this
        · rfl
      obtain ⟨b6, o6, rfl, _⟩ := hb6 (by rw [hL]; omega)
      rw [hL] at hle6 ⊢
      have HB6 := Lib.hid (HB5.out.trans (hk6.below HB5.out.size (fun _ h => h.elim)))
      have HBP := Lib.hid hb6'
      have HBH6 := Lib.hid (HBH.out.kept hk6 (fun _ _ _ => id))
      have HMM := Lib.hid hM
      obtain ⟨i0, hi, hz0, hz1, hz2⟩ := info_parts infoU8
      have HI := Lib.hid hi
      have HZ0 := Lib.hid hz0
      have HZ1 := Lib.hid hz1
      have HZ2 := Lib.hid hz2
      clear hi hz0 hz1 hz2 hb6 hb6' hk6 ho6 hM hL HBH
      obtain ⟨PA, hPA⟩ : ∃ PA, putAllM (xs0.map MP.m) = PA := ⟨_, rfl⟩
      rw [hPA] at HRG HBP HMM
      clear hPA
      unfold maxLen at hmx6
      go_wp2_with (at_builtin; refine append_bytes rfl _ _ 22 rfl w6.heap.size 5 i0 Tryz.underlying22 HI.out HZ0.out HZ1.out HZ2.out _ 0 [] rfl (World.ownsRow_made w6 #[] 0 (Nat.le_refl _) (by decide) rfl) (some ⟨b6, o6, none⟩) M c6 PA rfl (HBP.out.alloc _) HMM.out ?d2 ?d3 ?_)
      case d2 => omega
      case d3 => simp
      intro v7 w7 hown hgrow
      have HO7 : Hid (OwnB w7 w6.heap.size v7 M PA) := Lib.hid (by simpa [OwnB] using hown)
      have HK7 : Hid (Kept noneB w6 w7) := Lib.hid ((((Kept.refl noneB w6).alloc _)).grown hgrow (by intro k hk; simp [Value.ownBlock] at hk; omega))
      clear hown hgrow
      go_wp2_with (at_builtin; refine append_bytes rfl _ _ 22 rfl w6.heap.size 5 i0 Tryz.underlying22 HI.out HZ0.out HZ1.out HZ2.out v7 M (nums PA) rfl HO7.out (some ⟨gx, 0, none⟩) 512 512 bs rfl (HBH6.out.kept HK7.out (fun _ _ _ => id)) HH.out.2 ?d4 HK7.out.size ?_)
      case d4 => omega
      intro v8 w8 hown hgrow
      have HO8 : Hid (OwnB w8 w6.heap.size v8 (M + 512) (PA ++ bs)) := Lib.hid (by
        unfold OwnB
        rw [show nums (PA ++ bs) = nums PA ++ nums bs by unfold nums; rw [List.map_append]]
        first | exact hown | (rw [List.map_append]; exact hown))
      have HK8 : Hid (Kept noneB w6 w8) := Lib.hid (HK7.out.grown hgrow (fun k hk => .inl (HO7.out.lt k hk).1))
      clear hown hgrow
      have cvb := Lib.run_convert_string_bytes (P := Tryz.prog) w8 9 22 5 STL Tryz.underlying9 Tryz.underlying22 Tryz.underlying5
      go_wp2_with (at_builtin; refine append_str_zeros (P := Tryz.prog) rfl _ _ 22 3 rfl 5 i0 .i64 .i64 Tryz.underlying22 Tryz.underlying3 HI.out HZ0.out HZ1.out HZ2.out STL rfl _ (512 - STL.size) rfl ?e1 ?e2 ?_)
      case e1 => omega
      case e2 => omega
      intro p9 c9 w9 hle9 hmx9 hb9 hbel9
      have HO9 : Hid (OwnB w9 w6.heap.size v8 (M + 512) (PA ++ bs)) := Lib.hid (HO8.out.kept (Kept.of_below hbel9 noneB) (fun _ _ => id))
      have HK9 : Hid (Kept noneB w6 w9) := Lib.hid (HK8.out.then (Kept.of_below hbel9 noneB) (fun _ h => h.elim))
      have hN9 : STL.size + (512 - STL.size) = 512 := by omega
      have hd9 : STL.data.toList = TL := by rw [← HST.out, str_data]
      rw [hN9] at hle9 hb9
      rw [hd9] at hb9
      rw [hN9]
      obtain ⟨Q, hQ⟩ : ∃ Q, TL ++ List.replicate (512 - STL.size) 0 = Q := ⟨_, rfl⟩
      have hQl : Q.length = 512 := by rw [← hQ, List.length_append, List.length_replicate, HTN.out]; omega
      rw [hQ] at hb9
      rw [HTN.out, hQ] at HRG
      have HB9 := Lib.hid hb9
      have HQL := Lib.hid hQl
      clear hb9 hbel9 cvb hN9 hd9 hQ hQl
      go_wp2_with (at_builtin; refine append_bytes rfl _ _ 22 rfl w6.heap.size 5 i0 Tryz.underlying22 HI.out HZ0.out HZ1.out HZ2.out v8 (M + 512) (nums (PA ++ bs)) rfl HO9.out p9 512 c9 Q rfl HB9.out HQL.out ?d5 HK9.out.size ?_)
      case d5 => omega
      intro v10 w10 hown hgrow
      have HO10 : Hid (OwnB w10 w6.heap.size v10 (M + 512 + 512) (PA ++ bs ++ Q)) := Lib.hid (by
        unfold OwnB
        rw [show nums (PA ++ bs ++ Q) = nums (PA ++ bs) ++ nums Q by unfold nums; rw [List.map_append (l₁ := PA ++ bs)]]
        first | exact hown | (rw [List.map_append]; exact hown))
      have HK10 : Hid (Kept noneB w6 w10) := Lib.hid (HK9.out.grown hgrow (fun k hk => .inl (HO9.out.lt k hk).1))
      have HB10 := Lib.hid (HB6.out.trans (HK10.out.below HB6.out.size (fun _ h => h.elim)))
      clear hown hgrow
      go_wp2_with fail
      refine (rarch_any _ a1 m cap1 xs1 (HM1.out.below HB10.out) HGM1.out (by omega)).mono ?_
      rintro e w11 ⟨v11, rfl, ho11, hk11⟩
      obtain ⟨p11, c11, rfl, hle11, hmx11, hb11, hl11, _⟩ := ho11.slice
      obtain ⟨AB, hAB⟩ : ∃ AB, archD (xs1.map MP.m) = AB := ⟨_, rfl⟩
      obtain ⟨L2, hL2⟩ : ∃ L2, AB.length = L2 := ⟨_, rfl⟩
      have hL2b : L2 ≤ 300001024 := by
        have := HPB.out
        rw [List.length_map, HM1.out.1] at this
        rw [← hL2, ← hAB, archD_eq, List.length_append, List.length_replicate]
        omega
      rw [hAB] at hb11 HRG ⊢
      rw [hL2] at hb11 ⊢
      have HB11 := Lib.hid (HB10.out.trans (hk11.below HB10.out.size (fun _ h => h.elim)))
      have HO11 : Hid (OwnB w11 w6.heap.size v10 (M + 512 + 512) (PA ++ bs ++ Q)) := Lib.hid (HO10.out.kept hk11 (fun _ _ => id))
      have HK11 : Hid (Kept noneB w6 w11) := Lib.hid (HK10.out.then hk11 (fun _ h => h.elim))
      have HBB11 := Lib.hid hb11
      have HL2 := Lib.hid hL2
      clear ho11 hk11 hb11 hl11 hAB hL2 hle11 hmx11
      go_wp2_with (at_builtin; refine append_bytes rfl _ _ 22 rfl w6.heap.size 5 i0 Tryz.underlying22 HI.out HZ0.out HZ1.out HZ2.out v10 (M + 512 + 512) (nums (PA ++ bs ++ Q)) rfl HO11.out p11 L2 c11 AB rfl HBB11.out HL2.out ?d6 HK11.out.size ?_)
      case d6 => omega
      intro v12 w12 hown hgrow
      have HO12 : Hid (OwnB w12 w6.heap.size v12 (M + 512 + 512 + L2) (PA ++ (bs ++ (Q ++ AB)))) := Lib.hid (by
        unfold OwnB
        rw [show PA ++ (bs ++ (Q ++ AB)) = (PA ++ (bs ++ Q)) ++ AB by simp only [List.append_assoc], show nums ((PA ++ (bs ++ Q)) ++ AB) = nums (PA ++ (bs ++ Q)) ++ nums AB by unfold nums; rw [List.map_append (l₂ := AB)]]
        first | exact hown | (rw [List.map_append]; exact hown))
      have HK12 : Hid (Kept noneB w6 w12) := Lib.hid (HK11.out.grown hgrow (fun k hk => .inl (HO11.out.lt k hk).1))
      have HB12 := Lib.hid (HB6.out.trans (HK12.out.below HB6.out.size (fun _ h => h.elim)))
      clear hown hgrow
      obtain ⟨p12, c12, rfl, _, _, hb12, hl12, _⟩ := HO12.out.slice
      have hR := memRead_any w12 p12 (M + 512 + 512 + L2) c12 _ none 0 0 [] hb12 hl12 (by omega) (iat_nil _) rfl (by decide) (HN.out.below HB12.out)
      unfold ReadD at hR
      rw [HRG.out] at hR
      have HR := Lib.hid hR
      clear hR hb12 hl12
      go_wp2_with fail
      refine HR.out.mono ?_
      rintro e w13 ⟨p13, c13, ys, rfl, hle13, hmx13, hm13, hat13, hb13⟩
      obtain ⟨A, hA⟩ : ∃ A : Int, ((0 : Nat) : Int) = A := ⟨_, rfl⟩
      simp only [hA]
      have HB13 := Lib.hid (HB12.out.trans (hb13.mono HB12.out.size))
      have hyl : ys.length = n + m := by
        have := congrArg List.length hm13
        rw [List.length_map, List.length_append, List.length_map, List.length_map, List.length_map, HM0.out.1, HM1.out.1] at this
        exact this
      rw [hyl] at hat13 hle13 ⊢
      have HY := Lib.hid hat13
      have HYM := Lib.hid hm13
      clear hb13 hA HR hat13 hm13 hyl HO12 HO11 HO10 HO9 HO8 HO7 HK7 HK8 HK9 HK10 HK11 HK12 HBH6 HBP HB9 HBB11
      go_upto_region 8 with fail
      obtain ⟨w14, hw⟩ : ∃ w14, w13.alloc (.cells #[.int .i64 0, .int .i64 A] 28) = w14 := ⟨_, rfl⟩
      have hX : Blk w14 w13.heap.size 28 #[.int .i64 0, .int .i64 A] := by rw [← hw]; exact Blk.new w13 _ _
      have hS : Below w13.heap.size w13 w14 := by rw [← hw]; exact (Below.refl _ _).alloc (Nat.le_refl _) _
      have x0 := hX.cell 0
      simp only [List.getElem?_toArray, List.getElem?_cons_zero] at x0
      have HB14 := Lib.hid (HB13.out.trans (hS.mono HB13.out.size))
      have HY14 := Lib.hid (HY.out.below hS)
      rw [hw]
      clear hw hX hS
      go_wp2_with fail
      go_loopw [14] (fun i wr => ∃ (k : Nat), k ≤ n + m ∧ i = .int .i64 (k : Int) ∧ Hid (Below w14.heap.size w14 wr)) (fun i _ => (n + m) - (RowKit.intOf i).toNat)
      case atStart => exact ⟨0, Nat.zero_le _, rfl, Lib.hid (Below.refl _ _)⟩
      case round =>
        obtain ⟨k, hk, rfl, hB⟩ := hrel
        have HBR := Lib.hid (HB14.out.trans (hB.out.mono HB14.out.size))
        by_cases hlt : k < n + m
        · obtain ⟨b1, o1, rfl, hb1, hB1, hc1⟩ := (HY14.out.below hB.out).cells8 hlt
          obtain ⟨u1, hu1⟩ : ∃ u1, ys.getD k zeroP = u1 := ⟨_, rfl⟩
          rw [hu1] at hB1 hc1
          have HU1 := Lib.hid hu1
          have HA1 := Lib.hid hB1
          have HC1 := Lib.hid hc1
          have HLT1 := Lib.hid hb1
          clear hB1 hc1 hb1 hu1
          by_cases hkn : k < n
          · obtain ⟨b2, o2, rfl, hb2, hB2, hc2⟩ := (HM0.out.below HBR.out).cells8 hkn
            obtain ⟨v, hv⟩ : ∃ v, xs0.getD k zeroP = v := ⟨_, rfl⟩
            rw [hv] at hB2 hc2
            have HV := Lib.hid hv
            have HA2 := Lib.hid hB2
            obtain ⟨c0, c1, c2, c3, c4, c5, c6, c7⟩ := hc2
            clear hB2 hv
            have hltz : (k : Int) < (n : Int) + (m : Int) := by omega
            have hknz : (k : Int) < (n : Int) := by omega
            have hev : u1.m = v.m := by
              have := (get_arch HYM.out k).1 (by rw [HM0.out.1]; exact hkn)
              rw [HU1.out, HV.out] at this
              exact this
            have HEV := Lib.hid hev
            clear hev
            go_upto_region 19 with fail
            obtain ⟨w15, hw⟩ : ∃ w15, wr.alloc (.cells #[.string (str v.m.path), .string (str v.m.target), .int .u8 (v.m.kind.toNat : Int), .int .i64 v.m.mode, .int .i64 v.m.uid, .int .i64 v.m.gid, .int .i64 v.m.time, .slice v.p v.m.body.length v.c] 37) = w15 := ⟨_, rfl⟩
            have hX : Blk w15 wr.heap.size 37 #[.string (str v.m.path), .string (str v.m.target), .int .u8 (v.m.kind.toNat : Int), .int .i64 v.m.mode, .int .i64 v.m.uid, .int .i64 v.m.gid, .int .i64 v.m.time, .slice v.p v.m.body.length v.c] := by rw [← hw]; exact Blk.new wr _ _
            have hS : Below wr.heap.size wr w15 := by rw [← hw]; exact (Below.refl _ _).alloc (Nat.le_refl _) _
            have HX15 := Lib.hid hX
            have H15 := Lib.hid hS
            have HCC : Hid (∀ w', Below w15.heap.size w15 w' → Cells8 w' b1 (o1 + k * 8) u1 ∧ BlkC8 w' wr.heap.size (str v.m.path) (str v.m.target) (v.m.kind.toNat : Int) v.m.mode v.m.uid v.m.gid v.m.time (.slice v.p v.m.body.length v.c)) := Lib.hid (fun w' h => ⟨(HC1.out.below HLT1.out H15.out).below (Nat.lt_of_lt_of_le HLT1.out H15.out.size) h, blkC8 (HX15.out.below h HX15.out.lt)⟩)
            have HBB : Hid (Below w15.heap.size w15 w15.drew) := Lib.hid (below_drewN (Below.refl w15.heap.size w15) 1)
            unfold Cells8 BlkC8 at HCC
            rw [hw]
            clear hw hX hS c0 c1 c2 c3 c4 c5 c6 c7
            go_region_held3 (fun w' => (w'.cell? ⟨b1, o1 + k * 8, none⟩ = some (.string (str u1.m.path)) ∧ w'.cell? ⟨b1, o1 + k * 8 + 1, none⟩ = some (.string (str u1.m.target)) ∧ w'.cell? ⟨b1, o1 + k * 8 + 2, none⟩ = some (.int .u8 (u1.m.kind.toNat : Int)) ∧ w'.cell? ⟨b1, o1 + k * 8 + 3, none⟩ = some (.int .i64 u1.m.mode) ∧ w'.cell? ⟨b1, o1 + k * 8 + 4, none⟩ = some (.int .i64 u1.m.uid) ∧ w'.cell? ⟨b1, o1 + k * 8 + 5, none⟩ = some (.int .i64 u1.m.gid) ∧ w'.cell? ⟨b1, o1 + k * 8 + 6, none⟩ = some (.int .i64 u1.m.time) ∧ w'.cell? ⟨b1, o1 + k * 8 + 7, none⟩ = some (.slice u1.p u1.m.body.length u1.c)) ∧ (w'.cell? ⟨wr.heap.size, 0, none⟩ = some (.string (str v.m.path)) ∧ w'.cell? ⟨wr.heap.size, 1, none⟩ = some (.string (str v.m.target)) ∧ w'.cell? ⟨wr.heap.size, 2, none⟩ = some (.int .u8 (v.m.kind.toNat : Int)) ∧ w'.cell? ⟨wr.heap.size, 3, none⟩ = some (.int .i64 v.m.mode) ∧ w'.cell? ⟨wr.heap.size, 4, none⟩ = some (.int .i64 v.m.uid) ∧ w'.cell? ⟨wr.heap.size, 5, none⟩ = some (.int .i64 v.m.gid) ∧ w'.cell? ⟨wr.heap.size, 6, none⟩ = some (.int .i64 v.m.time) ∧ w'.cell? ⟨wr.heap.size, 7, none⟩ = some (.slice v.p v.m.body.length v.c))) (exact HCC.out _ HBB.out) (first
              | (go_at_call 18
                 refine (rsame_any u1.m { v.m with uid := v.m.uid } u1.p v.p u1.c v.c _ ((HA1.out.below H15.out).below HBB.out).bat ((HA2.out.below H15.out).below HBB.out).bat).mono ?_
                 rintro e wa ⟨rfl, hba⟩
                 have HBB := Lib.hid (HBB.out.trans (hba.mono HBB.out.size))
                 clear hba))
            all_goals
              have huv2 : decide (u1.m = { v.m with uid := v.m.uid }) = true := decide_eq_true HEV.out
              have HBD := Lib.hid (hB.out.trans ((H15.out.trans (HBB.out.mono H15.out.size)).mono hB.out.size))
              rw [huv2]
              go_wp2
              go_roundw
              case rel => exact ⟨k + 1, by omega, by go_num, HBD⟩
              case measure => simp [RowKit.intOf]; omega
          · obtain ⟨j, hkj⟩ : ∃ j, k = n + j := ⟨k - n, by omega⟩
            have hjm : j < m := by omega
            obtain ⟨b2, o2, rfl, hb2, hB2, hc2⟩ := (HM1.out.below HBR.out).cells8 hjm
            obtain ⟨v, hv⟩ : ∃ v, xs1.getD j zeroP = v := ⟨_, rfl⟩
            rw [hv] at hB2 hc2
            have hev : u1.m = withG (lastD [(keyT 0, decL u)]) v.m := by
              have := (get_arch HYM.out k).2 (by rw [HM0.out.1]; omega) (by rw [HM0.out.1, HM1.out.1]; omega)
              rw [HU1.out, HM0.out.1, show k - n = j by omega, hv] at this
              exact this
            have HA2 := Lib.hid hB2
            obtain ⟨c0, c1, c2, c3, c4, c5, c6, c7⟩ := hc2
            clear hB2 hv
            have hltz : (k : Int) < (n : Int) + (m : Int) := by omega
            have hknz : ¬ (k : Int) < (n : Int) := by omega
            have hix : (k : Int) - (n : Int) = (j : Int) := by omega
            have hjz : (j : Int) < (m : Int) := by omega
            by_cases hud : v.m.uid ≤ 2097151
            · have hev2 : u1.m = { v.m with uid := (u : Int) } := by
                rw [hev, withG, user_uid u (by omega), if_neg (by omega)]
              have HEV := Lib.hid hev2
              clear hev hev2 hkj
              go_upto_region 19 with fail
              obtain ⟨w15, hw⟩ : ∃ w15, wr.alloc (.cells #[.string (str v.m.path), .string (str v.m.target), .int .u8 (v.m.kind.toNat : Int), .int .i64 v.m.mode, .int .i64 (u : Int), .int .i64 v.m.gid, .int .i64 v.m.time, .slice v.p v.m.body.length v.c] 37) = w15 := ⟨_, rfl⟩
              have hX : Blk w15 wr.heap.size 37 #[.string (str v.m.path), .string (str v.m.target), .int .u8 (v.m.kind.toNat : Int), .int .i64 v.m.mode, .int .i64 (u : Int), .int .i64 v.m.gid, .int .i64 v.m.time, .slice v.p v.m.body.length v.c] := by rw [← hw]; exact Blk.new wr _ _
              have hS : Below wr.heap.size wr w15 := by rw [← hw]; exact (Below.refl _ _).alloc (Nat.le_refl _) _
              have HX15 := Lib.hid hX
              have H15 := Lib.hid hS
              have HCC : Hid (∀ w', Below w15.heap.size w15 w' → Cells8 w' b1 (o1 + k * 8) u1 ∧ BlkC8 w' wr.heap.size (str v.m.path) (str v.m.target) (v.m.kind.toNat : Int) v.m.mode (u : Int) v.m.gid v.m.time (.slice v.p v.m.body.length v.c)) := Lib.hid (fun w' h => ⟨(HC1.out.below HLT1.out H15.out).below (Nat.lt_of_lt_of_le HLT1.out H15.out.size) h, blkC8 (HX15.out.below h HX15.out.lt)⟩)
              have HBB : Hid (Below w15.heap.size w15 w15.drew) := Lib.hid (below_drewN (Below.refl w15.heap.size w15) 1)
              unfold Cells8 BlkC8 at HCC
              rw [hw]
              clear hw hX hS c0 c1 c2 c3 c4 c5 c6 c7
              go_region_held3 (fun w' => (w'.cell? ⟨b1, o1 + k * 8, none⟩ = some (.string (str u1.m.path)) ∧ w'.cell? ⟨b1, o1 + k * 8 + 1, none⟩ = some (.string (str u1.m.target)) ∧ w'.cell? ⟨b1, o1 + k * 8 + 2, none⟩ = some (.int .u8 (u1.m.kind.toNat : Int)) ∧ w'.cell? ⟨b1, o1 + k * 8 + 3, none⟩ = some (.int .i64 u1.m.mode) ∧ w'.cell? ⟨b1, o1 + k * 8 + 4, none⟩ = some (.int .i64 u1.m.uid) ∧ w'.cell? ⟨b1, o1 + k * 8 + 5, none⟩ = some (.int .i64 u1.m.gid) ∧ w'.cell? ⟨b1, o1 + k * 8 + 6, none⟩ = some (.int .i64 u1.m.time) ∧ w'.cell? ⟨b1, o1 + k * 8 + 7, none⟩ = some (.slice u1.p u1.m.body.length u1.c)) ∧ (w'.cell? ⟨wr.heap.size, 0, none⟩ = some (.string (str v.m.path)) ∧ w'.cell? ⟨wr.heap.size, 1, none⟩ = some (.string (str v.m.target)) ∧ w'.cell? ⟨wr.heap.size, 2, none⟩ = some (.int .u8 (v.m.kind.toNat : Int)) ∧ w'.cell? ⟨wr.heap.size, 3, none⟩ = some (.int .i64 v.m.mode) ∧ w'.cell? ⟨wr.heap.size, 4, none⟩ = some (.int .i64 (u : Int)) ∧ w'.cell? ⟨wr.heap.size, 5, none⟩ = some (.int .i64 v.m.gid) ∧ w'.cell? ⟨wr.heap.size, 6, none⟩ = some (.int .i64 v.m.time) ∧ w'.cell? ⟨wr.heap.size, 7, none⟩ = some (.slice v.p v.m.body.length v.c))) (exact HCC.out _ HBB.out) (first
                | (go_at_call 18
                   refine (rsame_any u1.m { v.m with uid := (u : Int) } u1.p v.p u1.c v.c _ ((HA1.out.below H15.out).below HBB.out).bat ((HA2.out.below H15.out).below HBB.out).bat).mono ?_
                   rintro e wa ⟨rfl, hba⟩
                   have HBB := Lib.hid (HBB.out.trans (hba.mono HBB.out.size))
                   clear hba))
              all_goals
                have huv2 : decide (u1.m = { v.m with uid := (u : Int) }) = true := decide_eq_true HEV.out
                have HBD := Lib.hid (hB.out.trans ((H15.out.trans (HBB.out.mono H15.out.size)).mono hB.out.size))
                rw [huv2]
                go_wp2
                go_roundw
                case rel => exact ⟨k + 1, by omega, by go_num, HBD⟩
                case measure => simp [RowKit.intOf]; omega
            · have hev2 : u1.m = v.m := by
                rw [hev, withG, user_uid u (by omega), if_pos (by omega)]
              have HEV := Lib.hid hev2
              clear hev hev2 hkj
              go_upto_region 19 with fail
              obtain ⟨w15, hw⟩ : ∃ w15, wr.alloc (.cells #[.string (str v.m.path), .string (str v.m.target), .int .u8 (v.m.kind.toNat : Int), .int .i64 v.m.mode, .int .i64 v.m.uid, .int .i64 v.m.gid, .int .i64 v.m.time, .slice v.p v.m.body.length v.c] 37) = w15 := ⟨_, rfl⟩
              have hX : Blk w15 wr.heap.size 37 #[.string (str v.m.path), .string (str v.m.target), .int .u8 (v.m.kind.toNat : Int), .int .i64 v.m.mode, .int .i64 v.m.uid, .int .i64 v.m.gid, .int .i64 v.m.time, .slice v.p v.m.body.length v.c] := by rw [← hw]; exact Blk.new wr _ _
              have hS : Below wr.heap.size wr w15 := by rw [← hw]; exact (Below.refl _ _).alloc (Nat.le_refl _) _
              have HX15 := Lib.hid hX
              have H15 := Lib.hid hS
              have HCC : Hid (∀ w', Below w15.heap.size w15 w' → Cells8 w' b1 (o1 + k * 8) u1 ∧ BlkC8 w' wr.heap.size (str v.m.path) (str v.m.target) (v.m.kind.toNat : Int) v.m.mode v.m.uid v.m.gid v.m.time (.slice v.p v.m.body.length v.c)) := Lib.hid (fun w' h => ⟨(HC1.out.below HLT1.out H15.out).below (Nat.lt_of_lt_of_le HLT1.out H15.out.size) h, blkC8 (HX15.out.below h HX15.out.lt)⟩)
              have HBB : Hid (Below w15.heap.size w15 w15.drew) := Lib.hid (below_drewN (Below.refl w15.heap.size w15) 1)
              unfold Cells8 BlkC8 at HCC
              rw [hw]
              clear hw hX hS c0 c1 c2 c3 c4 c5 c6 c7
              go_region_held3 (fun w' => (w'.cell? ⟨b1, o1 + k * 8, none⟩ = some (.string (str u1.m.path)) ∧ w'.cell? ⟨b1, o1 + k * 8 + 1, none⟩ = some (.string (str u1.m.target)) ∧ w'.cell? ⟨b1, o1 + k * 8 + 2, none⟩ = some (.int .u8 (u1.m.kind.toNat : Int)) ∧ w'.cell? ⟨b1, o1 + k * 8 + 3, none⟩ = some (.int .i64 u1.m.mode) ∧ w'.cell? ⟨b1, o1 + k * 8 + 4, none⟩ = some (.int .i64 u1.m.uid) ∧ w'.cell? ⟨b1, o1 + k * 8 + 5, none⟩ = some (.int .i64 u1.m.gid) ∧ w'.cell? ⟨b1, o1 + k * 8 + 6, none⟩ = some (.int .i64 u1.m.time) ∧ w'.cell? ⟨b1, o1 + k * 8 + 7, none⟩ = some (.slice u1.p u1.m.body.length u1.c)) ∧ (w'.cell? ⟨wr.heap.size, 0, none⟩ = some (.string (str v.m.path)) ∧ w'.cell? ⟨wr.heap.size, 1, none⟩ = some (.string (str v.m.target)) ∧ w'.cell? ⟨wr.heap.size, 2, none⟩ = some (.int .u8 (v.m.kind.toNat : Int)) ∧ w'.cell? ⟨wr.heap.size, 3, none⟩ = some (.int .i64 v.m.mode) ∧ w'.cell? ⟨wr.heap.size, 4, none⟩ = some (.int .i64 v.m.uid) ∧ w'.cell? ⟨wr.heap.size, 5, none⟩ = some (.int .i64 v.m.gid) ∧ w'.cell? ⟨wr.heap.size, 6, none⟩ = some (.int .i64 v.m.time) ∧ w'.cell? ⟨wr.heap.size, 7, none⟩ = some (.slice v.p v.m.body.length v.c))) (exact HCC.out _ HBB.out) (first
                | (go_at_call 18
                   refine (rsame_any u1.m { v.m with uid := v.m.uid } u1.p v.p u1.c v.c _ ((HA1.out.below H15.out).below HBB.out).bat ((HA2.out.below H15.out).below HBB.out).bat).mono ?_
                   rintro e wa ⟨rfl, hba⟩
                   have HBB := Lib.hid (HBB.out.trans (hba.mono HBB.out.size))
                   clear hba))
              all_goals
                have huv2 : decide (u1.m = { v.m with uid := v.m.uid }) = true := decide_eq_true HEV.out
                have HBD := Lib.hid (hB.out.trans ((H15.out.trans (HBB.out.mono H15.out.size)).mono hB.out.size))
                rw [huv2]
                go_wp2
                go_roundw
                case rel => exact ⟨k + 1, by omega, by go_num, HBD⟩
                case measure => simp [RowKit.intOf]; omega
        · obtain rfl : k = n + m := by omega
          have hks : ¬ ((n + m : Nat) : Int) < (n : Int) + (m : Int) := by omega
          go_wp2_with fail
          refine (ans08_any _ (HN.out.below HBR.out)).mono ?_
          rintro e w15 ⟨rfl, hb15⟩
          have FIN := Lib.hid (HBR.out.trans (hb15.mono HBR.out.size))
          clear hb15
          go_wp2
          go_ret
          exact ⟨rfl, FIN.out⟩
end Go.Proofs.YtdjedimjhogdoaaGreatDoor.Walk
end
