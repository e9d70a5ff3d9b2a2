import Derived.Test.YtdjedimjhogdoaaGreatDoorZ3
import Derived.Deep.DeepCutAuto
import Derived.Test.YtdjedimjhogdoaaGreatDoorZ2
import Derived.Test.YtdjedimjhogdoaaGreatDoorZ1
import Derived.Maps.OwnOps
import Derived.Maps.Own
import Derived.Lib.SliceRun
import Derived.Test.YtdjedimjhogdoaaGreatDoorRows
import Derived.Shelf.Bytes.SlTrim
import Derived.RangeFuncNested
import Derived.RangeFuncBound
import Derived.RangeFuncCalls
import Derived.RangeFuncLeaves
import Derived.Shelf.Abstract
import Derived.Shelf.RegionOpen
import Derived.WalkKit
import Derived.OwnWalkIn
import Derived.TacticsInMore
import Derived.LoopNIn
import Derived.LoopIn
import Derived.Shelf.Strings.SlTrimAscii
import Derived.Shelf.Strconv.Atoi
import Derived.Lib.ConvBytes
import Derived.Laws.AppendOwn
import Derived.Deep.Draws
import Derived.BigCall
import Derived.Shelf.RegionOpenPlain
import Derived.StillTailTactics
import Derived.WalkSpells
import Derived.Lib.ItoaNum
import Derived.Lib.LaidTab
section
namespace Go.Proofs.YtdjedimjhogdoaaGreatDoor.Mem
open Go.ChangeShapes Go.WideShapes Go.ChangeAt Go.RowKit Go.Proofs.YtdjedimjhogdoaaGreatDoor.Base Go.Proofs.YtdjedimjhogdoaaGreatDoor.Byt Go.Proofs.YtdjedimjhogdoaaGreatDoor.Txt Go.Proofs.YtdjedimjhogdoaaGreatDoor.Bk Go.Proofs.YtdjedimjhogdoaaGreatDoor.Hp Go.Proofs.YtdjedimjhogdoaaGreatDoor.Head Go.Proofs.YtdjedimjhogdoaaGreatDoor.Num Go.Proofs.YtdjedimjhogdoaaGreatDoor.Path Go.Lib
set_option linter.unusedVariables false
set_option maxRecDepth 100000

set_option maxHeartbeats 4000000 in
theorem rgood_any (m : MemV) (p : Option Addr) (c : Nat) (w : World) (h1 : m.path.length ≤ 140737488351232) (h2 : m.target.length ≤ 140737488351232) :
    Calls Tryz.prog 16 #[.agg (memC m p c)] w fun e w' => e = .returned (.bool (goodD m)) ∧ Below w.heap.size w w' := by
  have hu := fun k hk => u8_lit m.kind k hk
  obtain ⟨kn, hkn⟩ : ∃ kn : Int, (m.kind.toNat : Int) = kn := ⟨_, rfl⟩
  unfold memC
  rw [hkn] at hu ⊢
  have C1 := fun w => rcl_any m.path w h1
  have C2 := fun w => rcl_any m.target w h2
  have C3 := fun w => rtarget_any m.target w h2
  have C4 := fun w => rmeta_any m.mode m.uid m.gid m.time w
  obtain ⟨r, hr⟩ : ∃ r, goodD m = r := ⟨_, rfl⟩
  rw [hr]
  unfold goodD at hr
  obtain ⟨b1, hb1⟩ : ∃ b, cleanOk m.path = b := ⟨_, rfl⟩
  obtain ⟨b2, hb2⟩ : ∃ b, cleanOk m.target = b := ⟨_, rfl⟩
  obtain ⟨b3, hb3⟩ : ∃ b, targetD 9 6 m.target = b := ⟨_, rfl⟩
  obtain ⟨b4, hb4⟩ : ∃ b, metaOk m.mode m.uid m.gid m.time = b := ⟨_, rfl⟩
  simp only [hb1, hb2, hb3, hb4] at hr C1 C2 C3 C4
  clear hb1 hb2 hb3 hb4 h1 h2
  have hkk : m.kind = 48 ↔ kn = 48 := (hu 48 (by decide)).symm
  have hk1 : m.kind = 49 ↔ kn = 49 := (hu 49 (by decide)).symm
  have hk2 : m.kind = 50 ↔ kn = 50 := (hu 50 (by decide)).symm
  have hk3 : m.kind = 53 ↔ kn = 53 := (hu 53 (by decide)).symm
  obtain ⟨bl, hbl⟩ : ∃ bl, m.body.length = bl := ⟨_, rfl⟩
  have hte : (str m.target).toList.isEmpty = decide (m.target = []) := str_empty m.target
  have hr2 : (b1 && b4 && decide (bl ≤ 1048576) && (decide (kn = 48) || decide (bl = 0)) && (if kn = 48 ∨ kn = 53 then decide (m.target = []) else if kn = 49 then b2 else if kn = 50 then (b3 == 0) else false)) = r := by
    rw [← hr]
    have e1 : (m.kind == 48) = decide (kn = 48) := by rw [Bool.eq_iff_iff]; simp [hkk]
    have e2 : (m.body == []) = decide (bl = 0) := by rw [Bool.eq_iff_iff, ← hbl]; simp
    have e3 : (m.target == []) = decide (m.target = []) := by rw [Bool.eq_iff_iff]; simp
    have e4 : (b3 == 0) = decide (b3 = 0) := by rw [Bool.eq_iff_iff]; simp
    rw [e1, e2, e3, e4, hbl]
    simp only [hkk, hk1, hk2, hk3]
  rw [hbl]
  clear hr hkk hk1 hk2 hk3 hbl hu
  have HB0 := Lib.hid ((Below.refl w.heap.size w).alloc (Nat.le_refl _) (.cells #[.string (str m.path), .string (str m.target), .int .u8 kn, .int .i64 m.mode, .int .i64 m.uid, .int .i64 m.gid, .int .i64 m.time, .slice p bl c] 37))
  have HX0 := Lib.hid (Blk.new w 37 #[.string (str m.path), .string (str m.target), .int .u8 kn, .int .i64 m.mode, .int .i64 m.uid, .int .i64 m.gid, .int .i64 m.time, .slice p bl c])
  have HR := Lib.hid hr2
  clear hr2 hkn
  cases b1 with
  | false =>
    have hrv : r = false := by rw [← HR.out]; simp
    subst hrv
    go_enter Tryz.func16, Tryz.ntmps16
    go_wp2_with fail
    refine (C1 _).mono ?_
    rintro e w1 ⟨rfl, rfl⟩
    go_wp2
    go_ret
    exact ⟨rfl, HB0.out⟩
  | true =>
    cases b4 with
    | false =>
      have hrv : r = false := by rw [← HR.out]; simp
      subst hrv
      go_enter Tryz.func16, Tryz.ntmps16
      go_wp2_with fail
      refine (C1 _).mono ?_
      rintro e w1 ⟨rfl, rfl⟩
      have b9 := HX0.out
      have y3 := b9.cell 3
      have y4 := b9.cell 4
      have y5 := b9.cell 5
      have y6 := b9.cell 6
      simp only [List.getElem?_toArray, List.getElem?_cons_zero, List.getElem?_cons_succ] at y3 y4 y5 y6
      clear b9
      go_wp2_with fail
      refine (C4 _).mono ?_
      rintro e w2 ⟨rfl, hb⟩
      have HB2 := Lib.hid (HB0.out.trans (hb.mono HB0.out.size))
      have HX2 := Lib.hid (HX0.out.below hb HX0.out.lt)
      clear hb y3 y4 y5 y6
      have b9 := HX2.out
      have y1 := b9.cell 1
      have y2 := b9.cell 2
      have y7 := b9.cell 7
      simp only [List.getElem?_toArray, List.getElem?_cons_zero, List.getElem?_cons_succ] at y1 y2 y7
      clear b9
      go_wp2
      go_ret
      exact ⟨rfl, HB2.out⟩
    | true =>
      by_cases l1 : 1048576 < bl
      · have l2 : (1048576 : Int) < (bl : Int) := by omega
        have hrv : r = false := by rw [← HR.out]; simp; omega
        subst hrv
        go_enter Tryz.func16, Tryz.ntmps16
        go_wp2_with fail
        refine (C1 _).mono ?_
        rintro e w1 ⟨rfl, rfl⟩
        have b9 := HX0.out
        have y3 := b9.cell 3
        have y4 := b9.cell 4
        have y5 := b9.cell 5
        have y6 := b9.cell 6
        simp only [List.getElem?_toArray, List.getElem?_cons_zero, List.getElem?_cons_succ] at y3 y4 y5 y6
        clear b9
        go_wp2_with fail
        refine (C4 _).mono ?_
        rintro e w2 ⟨rfl, hb⟩
        have HB2 := Lib.hid (HB0.out.trans (hb.mono HB0.out.size))
        have HX2 := Lib.hid (HX0.out.below hb HX0.out.lt)
        clear hb y3 y4 y5 y6
        have b9 := HX2.out
        have y1 := b9.cell 1
        have y2 := b9.cell 2
        have y7 := b9.cell 7
        simp only [List.getElem?_toArray, List.getElem?_cons_zero, List.getElem?_cons_succ] at y1 y2 y7
        clear b9
        go_wp2
        go_ret
        exact ⟨rfl, HB2.out⟩
      · have l2 : ¬ (1048576 : Int) < (bl : Int) := by omega
        have l3 : bl ≤ 1048576 := by omega
        by_cases k0 : kn = 48
        · subst k0
          have hrv : r = decide (m.target = []) := by rw [← HR.out]; simp [l3]
          subst hrv
          go_enter Tryz.func16, Tryz.ntmps16
          go_wp2_with fail
          refine (C1 _).mono ?_
          rintro e w1 ⟨rfl, rfl⟩
          have b9 := HX0.out
          have y3 := b9.cell 3
          have y4 := b9.cell 4
          have y5 := b9.cell 5
          have y6 := b9.cell 6
          simp only [List.getElem?_toArray, List.getElem?_cons_zero, List.getElem?_cons_succ] at y3 y4 y5 y6
          clear b9
          go_wp2_with fail
          refine (C4 _).mono ?_
          rintro e w2 ⟨rfl, hb⟩
          have HB2 := Lib.hid (HB0.out.trans (hb.mono HB0.out.size))
          have HX2 := Lib.hid (HX0.out.below hb HX0.out.lt)
          clear hb y3 y4 y5 y6
          have b9 := HX2.out
          have y1 := b9.cell 1
          have y2 := b9.cell 2
          have y7 := b9.cell 7
          simp only [List.getElem?_toArray, List.getElem?_cons_zero, List.getElem?_cons_succ] at y1 y2 y7
          clear b9
          go_wp2
          go_ret
          exact ⟨rfl, HB2.out⟩
        · have e0 : (kn != 48) = true := by simpa using k0
          have f0 : (kn == 48) = false := by simpa using k0
          by_cases l4 : bl = 0
          · subst l4
            by_cases k3 : kn = 53
            · subst k3
              have hrv : r = decide (m.target = []) := by rw [← HR.out]; simp
              subst hrv
              go_enter Tryz.func16, Tryz.ntmps16
              go_wp2_with fail
              refine (C1 _).mono ?_
              rintro e w1 ⟨rfl, rfl⟩
              have b9 := HX0.out
              have y3 := b9.cell 3
              have y4 := b9.cell 4
              have y5 := b9.cell 5
              have y6 := b9.cell 6
              simp only [List.getElem?_toArray, List.getElem?_cons_zero, List.getElem?_cons_succ] at y3 y4 y5 y6
              clear b9
              go_wp2_with fail
              refine (C4 _).mono ?_
              rintro e w2 ⟨rfl, hb⟩
              have HB2 := Lib.hid (HB0.out.trans (hb.mono HB0.out.size))
              have HX2 := Lib.hid (HX0.out.below hb HX0.out.lt)
              clear hb y3 y4 y5 y6
              have b9 := HX2.out
              have y1 := b9.cell 1
              have y2 := b9.cell 2
              have y7 := b9.cell 7
              simp only [List.getElem?_toArray, List.getElem?_cons_zero, List.getElem?_cons_succ] at y1 y2 y7
              clear b9
              go_wp2
              go_ret
              exact ⟨rfl, HB2.out⟩
            · have f3 : (kn == 53) = false := by simpa using k3
              by_cases k1 : kn = 49
              · subst k1
                have hrv : r = b2 := by rw [← HR.out]; simp
                subst hrv
                go_enter Tryz.func16, Tryz.ntmps16
                go_wp2_with fail
                refine (C1 _).mono ?_
                rintro e w1 ⟨rfl, rfl⟩
                have b9 := HX0.out
                have y3 := b9.cell 3
                have y4 := b9.cell 4
                have y5 := b9.cell 5
                have y6 := b9.cell 6
                simp only [List.getElem?_toArray, List.getElem?_cons_zero, List.getElem?_cons_succ] at y3 y4 y5 y6
                clear b9
                go_wp2_with fail
                refine (C4 _).mono ?_
                rintro e w2 ⟨rfl, hb⟩
                have HB2 := Lib.hid (HB0.out.trans (hb.mono HB0.out.size))
                have HX2 := Lib.hid (HX0.out.below hb HX0.out.lt)
                clear hb y3 y4 y5 y6
                have b9 := HX2.out
                have y1 := b9.cell 1
                have y2 := b9.cell 2
                have y7 := b9.cell 7
                simp only [List.getElem?_toArray, List.getElem?_cons_zero, List.getElem?_cons_succ] at y1 y2 y7
                clear b9
                go_wp2_with fail
                refine (C2 _).mono ?_
                rintro e w3 ⟨rfl, rfl⟩
                go_wp2
                go_ret
                exact ⟨rfl, HB2.out⟩
              · have f1 : (kn == 49) = false := by simpa using k1
                by_cases k2 : kn = 50
                · subst k2
                  have hrv : r = (b3 == 0) := by rw [← HR.out]; simp
                  subst hrv
                  go_enter Tryz.func16, Tryz.ntmps16
                  go_wp2_with fail
                  refine (C1 _).mono ?_
                  rintro e w1 ⟨rfl, rfl⟩
                  have b9 := HX0.out
                  have y3 := b9.cell 3
                  have y4 := b9.cell 4
                  have y5 := b9.cell 5
                  have y6 := b9.cell 6
                  simp only [List.getElem?_toArray, List.getElem?_cons_zero, List.getElem?_cons_succ] at y3 y4 y5 y6
                  clear b9
                  go_wp2_with fail
                  refine (C4 _).mono ?_
                  rintro e w2 ⟨rfl, hb⟩
                  have HB2 := Lib.hid (HB0.out.trans (hb.mono HB0.out.size))
                  have HX2 := Lib.hid (HX0.out.below hb HX0.out.lt)
                  clear hb y3 y4 y5 y6
                  have b9 := HX2.out
                  have y1 := b9.cell 1
                  have y2 := b9.cell 2
                  have y7 := b9.cell 7
                  simp only [List.getElem?_toArray, List.getElem?_cons_zero, List.getElem?_cons_succ] at y1 y2 y7
                  clear b9
                  go_wp2_with fail
                  refine (C3 _).mono ?_
                  rintro e w3 ⟨rfl, rfl⟩
                  go_wp2
                  go_ret
                  exact ⟨rfl, HB2.out⟩
                · have f2 : (kn == 50) = false := by simpa using k2
                  have hrv : r = false := by rw [← HR.out]; simp [k0, k1, k2, k3]
                  subst hrv
                  go_enter Tryz.func16, Tryz.ntmps16
                  go_wp2_with fail
                  refine (C1 _).mono ?_
                  rintro e w1 ⟨rfl, rfl⟩
                  have b9 := HX0.out
                  have y3 := b9.cell 3
                  have y4 := b9.cell 4
                  have y5 := b9.cell 5
                  have y6 := b9.cell 6
                  simp only [List.getElem?_toArray, List.getElem?_cons_zero, List.getElem?_cons_succ] at y3 y4 y5 y6
                  clear b9
                  go_wp2_with fail
                  refine (C4 _).mono ?_
                  rintro e w2 ⟨rfl, hb⟩
                  have HB2 := Lib.hid (HB0.out.trans (hb.mono HB0.out.size))
                  have HX2 := Lib.hid (HX0.out.below hb HX0.out.lt)
                  clear hb y3 y4 y5 y6
                  have b9 := HX2.out
                  have y1 := b9.cell 1
                  have y2 := b9.cell 2
                  have y7 := b9.cell 7
                  simp only [List.getElem?_toArray, List.getElem?_cons_zero, List.getElem?_cons_succ] at y1 y2 y7
                  clear b9
                  go_wp2
                  go_ret
                  exact ⟨rfl, HB2.out⟩
          · have l5 : (0 : Int) < (bl : Int) := by omega
            have hrv : r = false := by rw [← HR.out]; simp [k0, l4]
            subst hrv
            go_enter Tryz.func16, Tryz.ntmps16
            go_wp2_with fail
            refine (C1 _).mono ?_
            rintro e w1 ⟨rfl, rfl⟩
            have b9 := HX0.out
            have y3 := b9.cell 3
            have y4 := b9.cell 4
            have y5 := b9.cell 5
            have y6 := b9.cell 6
            simp only [List.getElem?_toArray, List.getElem?_cons_zero, List.getElem?_cons_succ] at y3 y4 y5 y6
            clear b9
            go_wp2_with fail
            refine (C4 _).mono ?_
            rintro e w2 ⟨rfl, hb⟩
            have HB2 := Lib.hid (HB0.out.trans (hb.mono HB0.out.size))
            have HX2 := Lib.hid (HX0.out.below hb HX0.out.lt)
            clear hb y3 y4 y5 y6
            have b9 := HX2.out
            have y1 := b9.cell 1
            have y2 := b9.cell 2
            have y7 := b9.cell 7
            simp only [List.getElem?_toArray, List.getElem?_cons_zero, List.getElem?_cons_succ] at y1 y2 y7
            clear b9
            go_wp2
            go_ret
            exact ⟨rfl, HB2.out⟩
end Go.Proofs.YtdjedimjhogdoaaGreatDoor.Mem
end
section
namespace Go.Proofs.YtdjedimjhogdoaaGreatDoor.Mem
open Go.ChangeShapes Go.WideShapes Go.ChangeAt Go.RowKit Go.Proofs.YtdjedimjhogdoaaGreatDoor.Base Go.Proofs.YtdjedimjhogdoaaGreatDoor.Byt Go.Proofs.YtdjedimjhogdoaaGreatDoor.Txt Go.Proofs.YtdjedimjhogdoaaGreatDoor.Bk Go.Proofs.YtdjedimjhogdoaaGreatDoor.Hp Go.Proofs.YtdjedimjhogdoaaGreatDoor.Head Go.Proofs.YtdjedimjhogdoaaGreatDoor.Num Go.Proofs.YtdjedimjhogdoaaGreatDoor.Path Go.Lib
set_option linter.unusedVariables false
set_option maxRecDepth 100000

theorem equal_any (p q : Option Addr) (n c m d : Nat) (a b : List UInt8) (w : World) (ha : a.length = n) (hb : b.length = m) (h1 : BAt w p n a) (h2 : BAt w q m b) :
    Calls Tryz.prog 43 #[.slice p n c, .slice q m d] w fun e w' => e = .returned (.bool (decide (a = b))) ∧ w = w' := by
  have c1 : (convert 22 9 (.slice p n c)).run Tryz.prog w = .ok (.string (str a)) w := conv_at h1 ha _ _ _ Tryz.underlying22 Tryz.underlying5 Tryz.underlying9 _
  have c2 : (convert 22 9 (.slice q m d)).run Tryz.prog w = .ok (.string (str b)) w := conv_at h2 hb _ _ _ Tryz.underlying22 Tryz.underlying5 Tryz.underlying9 _
  have e1 : ((str a).toList == (str b).toList) = decide (a = b) := by
    rw [str_toList, str_toList]
    by_cases h : a = b <;> simp [h]
  clear h1 h2
  go_enter Tryz.func43, Tryz.ntmps43
  go_wp2
  go_ret
  exact ⟨rfl, rfl⟩
theorem eqMeta_deep (a b c d a' b' c' d' : Int) (n : Nat) (w : World) : (Op.equalIn (n + 1 + 1) 35 (.agg #[.int .i64 a, .int .i64 b, .int .i64 c, .int .i64 d]) (.agg #[.int .i64 a', .int .i64 b', .int .i64 c', .int .i64 d'])).run Tryz.prog w = .ok (decide (a = a' ∧ b = b' ∧ c = c' ∧ d = d')) w := by
  have hM : Tryz.prog.underlying 35 = some (.struct (Tryz.prog.fieldsOf 35)) := by kernel_rfl
  have pM : Tryz.prog.stoodInHeld 35 = false := by kernel_rfl
  rw [run_equalIn_agg (P := Tryz.prog) w (n + 1) 35 _ _ hM pM]
  clear hM pM
  simp only [Program.fieldsOf, Tryz.underlying35]
  go_simp
  by_cases h4 : a = a' <;> by_cases h5 : b = b' <;> by_cases h6 : c = c' <;> by_cases h7 : d = d' <;> simp [h4, h5, h6, h7]
theorem eqMeta (a b c d a' b' c' d' : Int) (w : World) : (binOp .eql 35 (.agg #[.int .i64 a, .int .i64 b, .int .i64 c, .int .i64 d]) (.agg #[.int .i64 a', .int .i64 b', .int .i64 c', .int .i64 d'])).run Tryz.prog w = .ok (.bool (decide (a = a' ∧ b = b' ∧ c = c' ∧ d = d'))) w := by
  rw [run_eql_struct, show (10000 : Nat) = 9998 + 1 + 1 from rfl, eqMeta_deep]
  rfl
theorem same_is (a b : MemV) : decide (a = b) = (decide (a.path = b.path) && (decide (a.target = b.target) && ((((a.kind.toNat : Int)) == (b.kind.toNat : Int)) && (decide (a.mode = b.mode ∧ a.uid = b.uid ∧ a.gid = b.gid ∧ a.time = b.time) && decide (a.body = b.body))))) := by
  have s2 : (((a.kind.toNat : Int)) == (b.kind.toNat : Int)) = decide (a.kind = b.kind) := by
    by_cases h : a.kind = b.kind
    · simp [h]
    · have : ¬ a.kind.toNat = b.kind.toNat := fun hh => h (UInt8.toNat.inj hh)
      simp only [h, decide_false, beq_eq_false_iff_ne, ne_eq]
      omega
  rw [s2, Bool.eq_iff_iff]
  simp only [decide_eq_true_eq, Bool.and_eq_true]
  constructor
  · rintro rfl; simp
  · rintro ⟨h1, h2, h3, ⟨h4, h5, h6, h7⟩, h8⟩
    cases a; cases b; simp_all
set_option maxHeartbeats 4000000 in
theorem same_any (a b : MemV) (p q : Option Addr) (c d : Nat) (w : World) (h1 : BAt w p a.body.length a.body) (h2 : BAt w q b.body.length b.body) :
    Calls Tryz.prog 17 #[.agg (memC a p c), .agg (memC b q d)] w fun e w' => e = .returned (.bool (decide (a = b))) ∧ Below w.heap.size w w' := by
  rw [same_is]
  unfold memC
  obtain ⟨n, hn⟩ : ∃ n, a.body.length = n := ⟨_, rfl⟩
  obtain ⟨m, hm⟩ : ∃ m, b.body.length = m := ⟨_, rfl⟩
  obtain ⟨ka, hka⟩ : ∃ k : Int, (a.kind.toNat : Int) = k := ⟨_, rfl⟩
  obtain ⟨kb, hkb⟩ : ∃ k : Int, (b.kind.toNat : Int) = k := ⟨_, rfl⟩
  rw [hn] at h1
  rw [hm] at h2
  rw [hn, hm, hka, hkb]
  have e1 : ((str a.path).toList == (str b.path).toList) = decide (a.path = b.path) := by
    rw [str_toList, str_toList]
    by_cases h : a.path = b.path <;> simp [h]
  have e2 : ((str a.target).toList == (str b.target).toList) = decide (a.target = b.target) := by
    rw [str_toList, str_toList]
    by_cases h : a.target = b.target <;> simp [h]
  have e4 := fun w => eqMeta a.mode a.uid a.gid a.time b.mode b.uid b.gid b.time w
  obtain ⟨x1, hx1⟩ : ∃ x, decide (a.path = b.path) = x := ⟨_, rfl⟩
  obtain ⟨x2, hx2⟩ : ∃ x, decide (a.target = b.target) = x := ⟨_, rfl⟩
  obtain ⟨x3, e3⟩ : ∃ x, (ka == kb) = x := ⟨_, rfl⟩
  obtain ⟨x4, hx4⟩ : ∃ x, decide (a.mode = b.mode ∧ a.uid = b.uid ∧ a.gid = b.gid ∧ a.time = b.time) = x := ⟨_, rfl⟩
  obtain ⟨x5, hx5⟩ : ∃ x, decide (a.body = b.body) = x := ⟨_, rfl⟩
  rw [hx1] at e1
  rw [hx2] at e2
  simp only [hx4] at e4
  rw [hx1, hx2, e3, hx4, hx5]
  have HX5 := Lib.hid hx5
  have HL := Lib.hid (And.intro hn hm)
  clear hx1 hx2 hx4 hx5 hn hm hka hkb
  obtain ⟨W2, hW2⟩ : ∃ W2, (w.alloc (.cells #[.string (str a.path), .string (str a.target), .int .u8 ka, .int .i64 a.mode, .int .i64 a.uid, .int .i64 a.gid, .int .i64 a.time, .slice p n c] 37)).alloc (.cells #[.string (str b.path), .string (str b.target), .int .u8 kb, .int .i64 b.mode, .int .i64 b.uid, .int .i64 b.gid, .int .i64 b.time, .slice q m d] 37) = W2 := ⟨_, rfl⟩
  have hB : Below w.heap.size w W2 := by rw [← hW2]; exact ((Below.refl w.heap.size w).alloc (Nat.le_refl _) _).alloc (by simp) _
  have HB := Lib.hid hB
  have HA := Lib.hid (h1.below hB)
  have HBB := Lib.hid (h2.below hB)
  have hX : Blk W2 w.heap.size 37 #[.string (str a.path), .string (str a.target), .int .u8 ka, .int .i64 a.mode, .int .i64 a.uid, .int .i64 a.gid, .int .i64 a.time, .slice p n c] := by rw [← hW2]; exact (Blk.new w _ _).alloc _
  have hY : Blk W2 (w.heap.size + 1) 37 #[.string (str b.path), .string (str b.target), .int .u8 kb, .int .i64 b.mode, .int .i64 b.uid, .int .i64 b.gid, .int .i64 b.time, .slice q m d] := by
    have := Blk.new (w.alloc (.cells #[.string (str a.path), .string (str a.target), .int .u8 ka, .int .i64 a.mode, .int .i64 a.uid, .int .i64 a.gid, .int .i64 a.time, .slice p n c] 37)) 37 #[.string (str b.path), .string (str b.target), .int .u8 kb, .int .i64 b.mode, .int .i64 b.uid, .int .i64 b.gid, .int .i64 b.time, .slice q m d]
    rw [World.size_alloc] at this
    rw [← hW2]
    exact this
  have c0 := hX.cell 0
  have d0 := hY.cell 0
  have c1 := hX.cell 1
  have d1 := hY.cell 1
  have c2 := hX.cell 2
  have d2 := hY.cell 2
  have c3 := hX.cell 3
  have d3 := hY.cell 3
  have c4 := hX.cell 4
  have d4 := hY.cell 4
  have c5 := hX.cell 5
  have d5 := hY.cell 5
  have c6 := hX.cell 6
  have d6 := hY.cell 6
  have c7 := hX.cell 7
  have d7 := hY.cell 7
  simp only [List.getElem?_toArray, List.getElem?_cons_zero, List.getElem?_cons_succ] at c0 d0 c1 d1 c2 d2 c3 d3 c4 d4 c5 d5 c6 d6 c7 d7
  clear hX hY hB h1 h2
  cases x1 with
  | false =>
    go_enter Tryz.func17, Tryz.ntmps17
    go_upto_region 1 with fail
    clear hW2
    go_wp2
    go_ret
    exact ⟨rfl, HB.out⟩
  | true =>
    cases x2 with
    | false =>
      go_enter Tryz.func17, Tryz.ntmps17
      go_upto_region 1 with fail
      clear hW2
      go_wp2
      go_ret
      exact ⟨rfl, HB.out⟩
    | true =>
      cases x3 with
      | false =>
        go_enter Tryz.func17, Tryz.ntmps17
        go_upto_region 1 with fail
        clear hW2
        go_wp2
        go_ret
        exact ⟨rfl, HB.out⟩
      | true =>
        cases x4 with
        | false =>
          go_enter Tryz.func17, Tryz.ntmps17
          go_upto_region 1 with fail
          clear hW2
          go_wp2
          go_ret
          exact ⟨rfl, HB.out⟩
        | true =>
          go_enter Tryz.func17, Tryz.ntmps17
          go_upto_region 1 with fail
          clear hW2
          go_wp2_with fail
          refine (equal_any p q n c m d a.body b.body W2 HL.out.1 HL.out.2 HA.out HBB.out).mono ?_
          rw [HX5.out]
          rintro e w3 ⟨rfl, rfl⟩
          go_wp2
          go_ret
          exact ⟨rfl, HB.out⟩
set_option maxHeartbeats 4000000 in
theorem rsame_any (a b : MemV) (p q : Option Addr) (c d : Nat) (w : World) (h1 : BAt w p a.body.length a.body) (h2 : BAt w q b.body.length b.body) :
    Calls Tryz.prog 18 #[.agg (memC a p c), .agg (memC b q d)] w fun e w' => e = .returned (.bool (decide (a = b))) ∧ Below w.heap.size w w' := by
  rw [same_is]
  unfold memC
  obtain ⟨n, hn⟩ : ∃ n, a.body.length = n := ⟨_, rfl⟩
  obtain ⟨m, hm⟩ : ∃ m, b.body.length = m := ⟨_, rfl⟩
  obtain ⟨ka, hka⟩ : ∃ k : Int, (a.kind.toNat : Int) = k := ⟨_, rfl⟩
  obtain ⟨kb, hkb⟩ : ∃ k : Int, (b.kind.toNat : Int) = k := ⟨_, rfl⟩
  rw [hn] at h1
  rw [hm] at h2
  rw [hn, hm, hka, hkb]
  have e1 : ((str a.path).toList == (str b.path).toList) = decide (a.path = b.path) := by
    rw [str_toList, str_toList]
    by_cases h : a.path = b.path <;> simp [h]
  have e2 : ((str a.target).toList == (str b.target).toList) = decide (a.target = b.target) := by
    rw [str_toList, str_toList]
    by_cases h : a.target = b.target <;> simp [h]
  have e4 := fun w => eqMeta a.mode a.uid a.gid a.time b.mode b.uid b.gid b.time w
  obtain ⟨x1, hx1⟩ : ∃ x, decide (a.path = b.path) = x := ⟨_, rfl⟩
  obtain ⟨x2, hx2⟩ : ∃ x, decide (a.target = b.target) = x := ⟨_, rfl⟩
  obtain ⟨x3, e3⟩ : ∃ x, (ka == kb) = x := ⟨_, rfl⟩
  obtain ⟨x4, hx4⟩ : ∃ x, decide (a.mode = b.mode ∧ a.uid = b.uid ∧ a.gid = b.gid ∧ a.time = b.time) = x := ⟨_, rfl⟩
  obtain ⟨x5, hx5⟩ : ∃ x, decide (a.body = b.body) = x := ⟨_, rfl⟩
  rw [hx1] at e1
  rw [hx2] at e2
  simp only [hx4] at e4
  rw [hx1, hx2, e3, hx4, hx5]
  have HX5 := Lib.hid hx5
  have HL := Lib.hid (And.intro hn hm)
  clear hx1 hx2 hx4 hx5 hn hm hka hkb
  obtain ⟨W2, hW2⟩ : ∃ W2, (w.alloc (.cells #[.string (str a.path), .string (str a.target), .int .u8 ka, .int .i64 a.mode, .int .i64 a.uid, .int .i64 a.gid, .int .i64 a.time, .slice p n c] 37)).alloc (.cells #[.string (str b.path), .string (str b.target), .int .u8 kb, .int .i64 b.mode, .int .i64 b.uid, .int .i64 b.gid, .int .i64 b.time, .slice q m d] 37) = W2 := ⟨_, rfl⟩
  have hB : Below w.heap.size w W2 := by rw [← hW2]; exact ((Below.refl w.heap.size w).alloc (Nat.le_refl _) _).alloc (by simp) _
  have HB := Lib.hid hB
  have HA := Lib.hid (h1.below hB)
  have HBB := Lib.hid (h2.below hB)
  have hX : Blk W2 w.heap.size 37 #[.string (str a.path), .string (str a.target), .int .u8 ka, .int .i64 a.mode, .int .i64 a.uid, .int .i64 a.gid, .int .i64 a.time, .slice p n c] := by rw [← hW2]; exact (Blk.new w _ _).alloc _
  have hY : Blk W2 (w.heap.size + 1) 37 #[.string (str b.path), .string (str b.target), .int .u8 kb, .int .i64 b.mode, .int .i64 b.uid, .int .i64 b.gid, .int .i64 b.time, .slice q m d] := by
    have := Blk.new (w.alloc (.cells #[.string (str a.path), .string (str a.target), .int .u8 ka, .int .i64 a.mode, .int .i64 a.uid, .int .i64 a.gid, .int .i64 a.time, .slice p n c] 37)) 37 #[.string (str b.path), .string (str b.target), .int .u8 kb, .int .i64 b.mode, .int .i64 b.uid, .int .i64 b.gid, .int .i64 b.time, .slice q m d]
    rw [World.size_alloc] at this
    rw [← hW2]
    exact this
  have c0 := hX.cell 0
  have d0 := hY.cell 0
  have c1 := hX.cell 1
  have d1 := hY.cell 1
  have c2 := hX.cell 2
  have d2 := hY.cell 2
  have c3 := hX.cell 3
  have d3 := hY.cell 3
  have c4 := hX.cell 4
  have d4 := hY.cell 4
  have c5 := hX.cell 5
  have d5 := hY.cell 5
  have c6 := hX.cell 6
  have d6 := hY.cell 6
  have c7 := hX.cell 7
  have d7 := hY.cell 7
  simp only [List.getElem?_toArray, List.getElem?_cons_zero, List.getElem?_cons_succ] at c0 d0 c1 d1 c2 d2 c3 d3 c4 d4 c5 d5 c6 d6 c7 d7
  clear hX hY hB h1 h2
  cases x1 with
  | false =>
    go_enter Tryz.func18, Tryz.ntmps18
    go_upto_region 1 with fail
    clear hW2
    go_wp2
    go_ret
    exact ⟨rfl, HB.out⟩
  | true =>
    cases x2 with
    | false =>
      go_enter Tryz.func18, Tryz.ntmps18
      go_upto_region 1 with fail
      clear hW2
      go_wp2
      go_ret
      exact ⟨rfl, HB.out⟩
    | true =>
      cases x3 with
      | false =>
        go_enter Tryz.func18, Tryz.ntmps18
        go_upto_region 1 with fail
        clear hW2
        go_wp2
        go_ret
        exact ⟨rfl, HB.out⟩
      | true =>
        cases x4 with
        | false =>
          go_enter Tryz.func18, Tryz.ntmps18
          go_upto_region 1 with fail
          clear hW2
          go_wp2
          go_ret
          exact ⟨rfl, HB.out⟩
        | true =>
          have v1 : (convert 22 9 (.slice p n c)).run Tryz.prog W2 = .ok (.string (str a.body)) W2 := conv_at HA.out HL.out.1 _ _ _ Tryz.underlying22 Tryz.underlying5 Tryz.underlying9 _
          have v2 : (convert 22 9 (.slice q m d)).run Tryz.prog W2 = .ok (.string (str b.body)) W2 := conv_at HBB.out HL.out.2 _ _ _ Tryz.underlying22 Tryz.underlying5 Tryz.underlying9 _
          have e5 : ((str a.body).toList == (str b.body).toList) = x5 := by
            rw [← HX5.out, str_toList, str_toList]
            by_cases h : a.body = b.body <;> simp [h]
          go_enter Tryz.func18, Tryz.ntmps18
          go_upto_region 1 with fail
          clear hW2
          go_wp2
          go_ret
          exact ⟨rfl, HB.out⟩
end Go.Proofs.YtdjedimjhogdoaaGreatDoor.Mem
end
section
namespace Go.Proofs.YtdjedimjhogdoaaGreatDoor.Mk
open Go.ChangeShapes Go.WideShapes Go.ChangeAt Go.RowKit Go.MapKept Go.Proofs.YtdjedimjhogdoaaGreatDoor.Base Go.Proofs.YtdjedimjhogdoaaGreatDoor.Byt Go.Proofs.YtdjedimjhogdoaaGreatDoor.Txt
set_option linter.unusedVariables false

/-- how keys stand: values of one kind, of each key its own -/
structure Keying (α : Type) where
  enc : α → Value
  kind : TypeDesc
  isKey : ∀ a, IsKey kind (enc a)
  inj : ∀ a b, enc a = enc b → a = b
  same : ∀ a, Instr.sameBits 10000 (enc a) (enc a) = true
/-- texts as keys -/
def strK : Keying (List UInt8) where
  enc l := .string (str l)
  kind := .string
  isKey _ := trivial
  inj a b h := by injection h with h; exact str_inj h
  same a := by
    rw [Instr.sameBits]
    simpa using str_beq a a
section
variable {α : Type} (K : Keying α)
/-- block B is a map that holds f -/
def MapK (w : World) (B : Nat) (f : α → Option Value) : Prop :=
  ∃ es clock, w.heap[B]? = some (.map es clock) ∧ Stamped es clock ∧ (∀ e ∈ es.toList, ∃ k, e.key = K.enc k ∧ f k = some e.val) ∧ (∀ k v, f k = some v → ∃ e ∈ es.toList, e.key = K.enc k)
variable {K} {w w' : World} {B : Nat} {f : α → Option Value}
theorem MapK.lt (h : MapK K w B f) : B < w.heap.size := by
  obtain ⟨es, clock, hb, _⟩ := h
  exact (Array.getElem?_eq_some_iff.1 hb).1
theorem MapK.kept {S : Nat → Prop} (h : MapK K w B f) (hk : Kept S w w') (hB : ¬ S B) : MapK K w' B f := by
  obtain ⟨es, clock, hb, h⟩ := h
  exact ⟨es, clock, hk.some_ hb hB, h⟩
theorem mapK_made (K : Keying α) (w : World) : MapK K (w.alloc (.map #[] 0)) w.heap.size (fun _ => none) :=
  ⟨#[], 0, (MapKept.heap_alloc w _).1, stamped_empty 0, by simp, by simp⟩
theorem kept_block {o o' : Obj} (hb : w.heap[B]? = some o) : Kept (oneB B) w (Go.ChangeMaps.setBlock w B o') :=
  ⟨rfl, rfl, rfl, by simp [Go.ChangeMaps.setBlock], fun k hk hn => (MapKept.heap_set hb).2 k hn⟩
variable {P : Program} {t k e : TypeId}
theorem MapK.put [DecidableEq α] (h : MapK K w B f) (ht : P.underlying t = some (.map k e)) (hk : P.underlying k = some K.kind) (x : α) (v : Value) :
    ∃ w', (Instr.mapUpdate t (.map (some B)) (K.enc x) v).run P w = .ok () w' ∧ MapK K w' B (fun y => if y = x then some v else f y) ∧ Kept (oneB B) w w' ∧ w'.heap.size = w.heap.size := by
  obtain ⟨es, clock, hb, hs, h1, h2⟩ := h
  rcases findNow_spec (K.isKey x) es.toList 0 (fun y hy => by obtain ⟨j, hj, _⟩ := h1 y hy; rw [hj]; exact K.isKey j) with ⟨hfind, hne⟩ | ⟨j, e0, hfind, h3, h4⟩
  · refine ⟨Go.ChangeMaps.setBlock w B (.map (es.push { key := K.enc x, val := v, born := clock }) (clock + 1)), ?_, ⟨_, _, (MapKept.heap_set hb).1, stamped_push hs hne, ?_, ?_⟩, kept_block hb, by simp [Go.ChangeMaps.setBlock]⟩
    · simp [Instr.mapUpdate, run_underlying ht, MapKept.run_getObj_map hb, run_checkKey hk (K.isKey x), run_findKey hk hfind, MapKept.run_setObj_map _ hb, Result.andThen, Go.ChangeMaps.setBlock]
    · intro y hy
      simp only [Array.toList_push, List.mem_append, List.mem_singleton] at hy
      rcases hy with hy | rfl
      · obtain ⟨j, hj, hf⟩ := h1 y hy
        refine ⟨j, hj, ?_⟩
        show (if j = x then some v else f j) = _
        rw [if_neg (fun e => hne y hy (by rw [hj, e]))]
        exact hf
      · exact ⟨x, rfl, by show (if x = x then some v else f x) = _; rw [if_pos rfl]⟩
    · intro j u hj
      simp only [Array.toList_push, List.mem_append, List.mem_singleton]
      have hj : (if j = x then some v else f j) = some u := hj
      by_cases hjx : j = x
      · exact ⟨_, Or.inr rfl, by rw [hjx]⟩
      · rw [if_neg hjx] at hj
        obtain ⟨y, hy, hk⟩ := h2 j u hj
        exact ⟨y, Or.inl hy, hk⟩
  · rw [Nat.zero_add] at hfind
    have h3' : es[j]? = some e0 := by simpa using h3
    have hkeep : ∀ w : World, (Instr.keyThatStays (((es[j]?).map (·.key)).getD (K.enc x)) (K.enc x)).run P w = .ok (K.enc x) w := fun w => by
      rw [h3']
      simp only [Option.map_some, Option.getD_some, h4, Instr.keyThatStays, K.same x, if_true]
      rfl
    refine ⟨Go.ChangeMaps.setBlock w B (.map (es.modify j fun e => { e with key := K.enc x, val := v }) clock), ?_, ⟨_, _, (MapKept.heap_set hb).1, ?_, ?_, ?_⟩, kept_block hb, by simp [Go.ChangeMaps.setBlock]⟩
    · simp only [Instr.mapUpdate, Sem.run_bind, run_underlying ht, MapKept.run_getObj_map hb, run_checkKey hk (K.isKey x), run_findKey hk hfind, hkeep, Result.andThen]
      simp [MapKept.run_setObj_map _ hb, Go.ChangeMaps.setBlock]
    · exact stamped_modify hs j _ (fun _ _ => rfl) fun e he hje => by
        rw [h3'] at hje
        cases hje
        exact h4.symm
    · intro y hy
      obtain ⟨i, hi⟩ := List.getElem?_of_mem hy
      rw [Array.getElem?_toList, Array.getElem?_modify] at hi
      by_cases hji : j = i
      · rw [if_pos hji] at hi
        rw [← hji, h3'] at hi
        cases hi
        exact ⟨x, rfl, by show (if x = x then some v else f x) = _; rw [if_pos rfl]⟩
      · rw [if_neg hji] at hi
        have hmem : y ∈ es.toList := List.mem_of_getElem? (by rw [Array.getElem?_toList]; exact hi)
        obtain ⟨a, ha, hf⟩ := h1 y hmem
        refine ⟨a, ha, ?_⟩
        show (if a = x then some v else f a) = _
        rw [if_neg (fun hax => ?_)]
        · exact hf
        · subst hax
          have hlj : j < es.toList.length := (List.getElem?_eq_some_iff.1 h3).1
          have hli : i < es.toList.length := by
            have := (Array.getElem?_eq_some_iff.1 hi).1
            simpa using this
          have hn := hs.2.2
          have hkj : (es.toList.map (·.key))[j]? = some (K.enc a) := by rw [List.getElem?_map, h3]; simp [h4]
          have hki : (es.toList.map (·.key))[i]? = some (K.enc a) := by rw [List.getElem?_map, Array.getElem?_toList, hi]; simp [ha]
          have hjl : j < (es.toList.map (·.key)).length := (List.getElem?_eq_some_iff.1 hkj).1
          have hil : i < (es.toList.map (·.key)).length := (List.getElem?_eq_some_iff.1 hki).1
          have e1 : (es.toList.map (·.key))[j] = (es.toList.map (·.key))[i] := by
            have a1 := (List.getElem?_eq_some_iff.1 hkj).2
            have a2 := (List.getElem?_eq_some_iff.1 hki).2
            rw [a1, a2]
          exact hji ((List.getElem_inj hn).1 e1)
    · intro a u ha
      have ha : (if a = x then some v else f a) = some u := ha
      have key : ∀ y ∈ es.toList, ∃ z ∈ (es.modify j fun e => { e with key := K.enc x, val := v }).toList, z.key = y.key := fun y hy => by
        obtain ⟨i, hi⟩ := List.getElem?_of_mem hy
        rw [Array.getElem?_toList] at hi
        by_cases hji : j = i
        · subst hji
          refine ⟨{ y with key := K.enc x, val := v }, List.mem_of_getElem? (i := j) (by rw [Array.getElem?_toList, Array.getElem?_modify, if_pos rfl, hi]; rfl), ?_⟩
          rw [h3'] at hi
          cases hi
          exact h4.symm
        · exact ⟨y, List.mem_of_getElem? (i := i) (by rw [Array.getElem?_toList, Array.getElem?_modify, if_neg hji]; exact hi), rfl⟩
      by_cases hax : a = x
      · obtain ⟨z, hz, hzk⟩ := key e0 (List.mem_of_getElem? h3)
        exact ⟨z, hz, by rw [hzk, h4, hax]⟩
      · rw [if_neg hax] at ha
        obtain ⟨y, hy, hyk⟩ := h2 a u ha
        obtain ⟨z, hz, hzk⟩ := key y hy
        exact ⟨z, hz, by rw [hzk, hyk]⟩
/-- what is there is found; of what is not there, the zero value -/
theorem MapK.look (h : MapK K w B f) (ht : P.underlying t = some (.map k e)) (hk : P.underlying k = some K.kind) {z : Value} (hz : ∀ w, (zeroValue e).run P w = .ok z w) (x : α) :
    (Instr.lookup t (.map (some B)) (K.enc x) false).run P w = .ok ((f x).getD z) w := by
  obtain ⟨es, clock, hb, hs, h1, h2⟩ := h
  rcases findNow_spec (K.isKey x) es.toList 0 (fun y hy => by obtain ⟨j, hj, _⟩ := h1 y hy; rw [hj]; exact K.isKey j) with ⟨hfind, hno⟩ | ⟨j, e0, hfind, h3, h4⟩
  · have hx : f x = none := by
      cases hf : f x with
      | none => rfl
      | some v =>
        obtain ⟨y, hy, hyk⟩ := h2 x v hf
        exact absurd hyk (hno y hy)
    rw [hx]
    simp [Instr.lookup, run_underlying ht, MapKept.run_getObj_map hb, run_checkKey hk (K.isKey x), run_findKey hk hfind, Result.andThen, hz]
  · have hx : f x = some e0.val := by
      obtain ⟨j', hj', hf⟩ := h1 e0 (List.mem_of_getElem? h3)
      rw [← K.inj _ _ (hj'.symm.trans h4)]
      exact hf
    rw [hx]
    have hfind' : Instr.findNow K.kind (K.enc x) es.toList 0 = some (some (0 + j, e0.val)) := by simpa using hfind
    simp [Instr.lookup, run_underlying ht, MapKept.run_getObj_map hb, run_checkKey hk (K.isKey x), run_findKey hk hfind', Result.andThen]
/-- .. and whether it is there -/
theorem MapK.look_ok (h : MapK K w B f) (ht : P.underlying t = some (.map k e)) (hk : P.underlying k = some K.kind) {z : Value} (hz : ∀ w, (zeroValue e).run P w = .ok z w) (x : α) :
    (Instr.lookup t (.map (some B)) (K.enc x) true).run P w = .ok (.tuple #[(f x).getD z, .bool (f x).isSome]) w := by
  obtain ⟨es, clock, hb, hs, h1, h2⟩ := h
  rcases findNow_spec (K.isKey x) es.toList 0 (fun y hy => by obtain ⟨j, hj, _⟩ := h1 y hy; rw [hj]; exact K.isKey j) with ⟨hfind, hno⟩ | ⟨j, e0, hfind, h3, h4⟩
  · have hx : f x = none := by
      cases hf : f x with
      | none => rfl
      | some v =>
        obtain ⟨y, hy, hyk⟩ := h2 x v hf
        exact absurd hyk (hno y hy)
    rw [hx]
    simp [Instr.lookup, run_underlying ht, MapKept.run_getObj_map hb, run_checkKey hk (K.isKey x), run_findKey hk hfind, Result.andThen, hz]
  · have hx : f x = some e0.val := by
      obtain ⟨j', hj', hf⟩ := h1 e0 (List.mem_of_getElem? h3)
      rw [← K.inj _ _ (hj'.symm.trans h4)]
      exact hf
    rw [hx]
    have hfind' : Instr.findNow K.kind (K.enc x) es.toList 0 = some (some (0 + j, e0.val)) := by simpa using hfind
    simp [Instr.lookup, run_underlying ht, MapKept.run_getObj_map hb, run_checkKey hk (K.isKey x), run_findKey hk hfind', Result.andThen]
/-- a map that is none has nothing -/
theorem look_nil (ht : P.underlying t = some (.map k e)) (hk : P.underlying k = some K.kind) {z : Value} (hz : ∀ w, (zeroValue e).run P w = .ok z w) (x : α) (w : World) :
    (Instr.lookup t (.map none) (K.enc x) false).run P w = .ok z w := by
  have hf : Instr.findNow K.kind (K.enc x) [] 0 = some none := rfl
  simp [Instr.lookup, run_underlying ht, run_checkKey hk (K.isKey x), run_findKey hk hf, Result.andThen, hz]
end
/-! ### at the operations -/
section
variable {α : Type} [DecidableEq α] {K : Keying α} {P : Program} {w : World} {ops : Array Oper} {rest : List Oper} {o : Oper} {a : Act} {Q : Exit → Act → World → Prop} {f : α → Option Value} {t k e : TypeId}
theorem wpList_putK (hg : o.guard = none) (m x v : Operand) (hop : o.op = .mapUpdate t m x v) (ht : P.underlying t = some (.map k e)) (hk : P.underlying k = some K.kind)
    (B : Nat) (h : MapK K w B f) (hm : a.eval m = .map (some B)) (key : α) (hx : a.eval x = K.enc key) (val : Value) (hv : a.eval v = val)
    (hK : ∀ w', Hid (MapK K w' B (fun y => if y = key then some val else f y)) → Hid (Kept (oneB B) w w') → w'.heap.size = w.heap.size → wpList P ops Q rest (a.put o.dst undef) w') : wpList P ops Q (o :: rest) a w := by
  refine wpList_plain hg fun K' hK' => ?_
  subst hv
  obtain ⟨w', hrun, h1, h2, h3⟩ := h.put ht hk key (a.eval v)
  unfold Oper.wp
  simp [execOp, hop, hm, hx, hrun, Result.andThen]
  exact hK' _ _ (hK w' (Lib.hid h1) (Lib.hid h2) h3)
end
end Go.Proofs.YtdjedimjhogdoaaGreatDoor.Mk
end
section
namespace Go.Proofs.YtdjedimjhogdoaaGreatDoor.Mk
open Go.ChangeShapes Go.WideShapes Go.ChangeAt Go.RowKit Go.MapKept Go.Proofs.YtdjedimjhogdoaaGreatDoor.Base Go.Proofs.YtdjedimjhogdoaaGreatDoor.Byt Go.Proofs.YtdjedimjhogdoaaGreatDoor.Txt
set_option linter.unusedVariables false

/-- bytes as keys -/
def u8K : Keying UInt8 where
  enc c := .int .u8 (c.toNat : Int)
  kind := .int .u8
  isKey _ := rfl
  inj a b h := by injection h with _ h; exact UInt8.toNat.inj (by omega)
  same a := by
    rw [Instr.sameBits]
    simp
section
variable {α : Type} {K : Keying α} {w : World} {B : Nat} {f : α → Option Value} {P : Program} {t k e : TypeId}
/-- whether there is anything -/
theorem MapK.count (h : MapK K w B f) (ht : P.underlying t = some (.map k e)) (ty : TypeId) : ∃ n : Nat, (Builtin.len_ #[t] ty #[.map (some B)]).run P w = .ok (.int .i64 n) w ∧ (n = 0 ↔ ∀ x, f x = none) := by
  obtain ⟨es, clock, hb, hs, h1, h2⟩ := h
  refine ⟨es.size, by simp [Builtin.len_, run_underlying ht, MapKept.run_getObj_map hb, goInt, Result.andThen], fun hz x => ?_, fun hn => ?_⟩
  · cases hf : f x with
    | none => rfl
    | some v =>
      obtain ⟨y, hy, _⟩ := h2 x v hf
      rw [Array.eq_empty_of_size_eq_zero hz] at hy
      simp at hy
  · rcases Nat.eq_zero_or_pos es.size with h0 | h0
    · exact h0
    · obtain ⟨j, _, hf⟩ := h1 es[0] (by simp)
      rw [hn j] at hf
      cases hf
/-- nothing is left -/
theorem MapK.cleared (h : MapK K w B f) (ht : P.underlying t = some (.map k e)) (ty : TypeId) :
    ∃ w', (Builtin.clear_ #[t] ty #[.map (some B)]).run P w = .ok (.tuple #[]) w' ∧ MapK K w' B (fun _ => none) ∧ Kept (oneB B) w w' ∧ w'.heap.size = w.heap.size := by
  obtain ⟨es, clock, hb, hs, h1, h2⟩ := h
  refine ⟨Go.ChangeMaps.setBlock w B (.map #[] clock), ?_, ⟨#[], clock, (MapKept.heap_set hb).1, stamped_empty clock, by simp, by simp⟩, kept_block hb, by simp [Go.ChangeMaps.setBlock]⟩
  simp [Builtin.clear_, run_underlying ht, MapKept.run_getObj_map hb, MapKept.run_setObj_map _ hb, Result.andThen, Go.ChangeMaps.setBlock]
end
section
variable {α : Type} {K : Keying α} {P : Program} {w : World} {ops : Array Oper} {rest : List Oper} {o : Oper} {a : Act} {Q : Exit → Act → World → Prop} {f : α → Option Value} {t k e : TypeId}
theorem wpList_lenK (hg : o.guard = none) (m : Operand) (hop : o.op = .call { callee := .builtin .len, args := #[m], argTypes := #[t] }) (ht : P.underlying t = some (.map k e))
    (B : Nat) (h : MapK K w B f) (hm : a.eval m = .map (some B)) (hK : ∀ n : Nat, Hid (n = 0 ↔ ∀ x, f x = none) → wpList P ops Q rest (a.put o.dst (.int .i64 n)) w) : wpList P ops Q (o :: rest) a w := by
  refine wpList_plain hg fun K' hK' => ?_
  obtain ⟨n, hrun, h1⟩ := h.count ht o.type
  unfold Oper.wp
  simp [execOp, hop, resolve, invoke, builtin, hm, hrun, Result.andThen]
  exact hK' _ _ (hK n (Lib.hid h1))
theorem wpList_clearK (hg : o.guard = none) (m : Operand) (hop : o.op = .call { callee := .builtin .clear, args := #[m], argTypes := #[t] }) (ht : P.underlying t = some (.map k e))
    (B : Nat) (h : MapK K w B f) (hm : a.eval m = .map (some B)) (hK : ∀ w', Hid (MapK K w' B (fun _ => none)) → Hid (Kept (oneB B) w w') → w'.heap.size = w.heap.size → wpList P ops Q rest (a.put o.dst (.tuple #[])) w') : wpList P ops Q (o :: rest) a w := by
  refine wpList_plain hg fun K' hK' => ?_
  obtain ⟨w', hrun, h1, h2, h3⟩ := h.cleared ht o.type
  unfold Oper.wp
  simp [execOp, hop, resolve, invoke, builtin, hm, hrun, Result.andThen]
  exact hK' _ _ (hK w' (Lib.hid h1) (Lib.hid h2) h3)
end
end Go.Proofs.YtdjedimjhogdoaaGreatDoor.Mk
end
section
namespace Go.Proofs.YtdjedimjhogdoaaGreatDoor.Block
open Go.ChangeShapes Go.WideShapes Go.ChangeAt Go.RowKit Go.Proofs.YtdjedimjhogdoaaGreatDoor.Base Go.Proofs.YtdjedimjhogdoaaGreatDoor.Byt Go.Proofs.YtdjedimjhogdoaaGreatDoor.Num Go.Lib
set_option linter.unusedVariables false

theorem bat_none {w : World} {n : Nat} {bs : List UInt8} (h : BAt w none n bs) : n = 0 := by
  rcases Nat.eq_zero_or_pos n with h0 | h0
  · exact h0
  · obtain ⟨_, _, he, _⟩ := h h0
    cases he
def ClonePost (w : World) (n : Nat) (bs : List UInt8) (e : Ending) (w' : World) : Prop := ∃ v, e = .returned v ∧ OwnB w' w.heap.size v n bs ∧ Kept noneB w w'
theorem clone_any (w : World) (p : Option Addr) (n c : Nat) (bs : List UInt8) (hb : BAt w p n bs) (hl : bs.length = n) (hn : n ≤ 140737488351232) :
    Calls Tryz.prog 67 #[.slice p n c] w (ClonePost w n bs) := by
  obtain ⟨i0, hi, hz0, hz1, hz2⟩ := info_parts infoU8
  have q22 : ∀ (w : World) (a : Option Addr) (n c n' c' : Nat), (binOp .eql 22 (.slice a n c) (.slice none n' c')).run Tryz.prog w = .ok (.bool a.isNone) w := fun w a n c n' c' => Lib.run_eql_slice_nil w _ _ a n c n' c' Tryz.underlying22
  have HI := Lib.hid hi
  have HZ0 := Lib.hid hz0
  have HZ1 := Lib.hid hz1
  have HZ2 := Lib.hid hz2
  have HB := Lib.hid hb
  have HL := Lib.hid hl
  clear hi hz0 hz1 hz2 hb hl
  rcases p with _ | x
  · obtain rfl := bat_none HB.out
    obtain rfl : bs = [] := List.eq_nil_of_length_eq_zero HL.out
    go_enter Tryz.func67, Tryz.ntmps67
    go_wp2
    go_ret
    exact ⟨_, rfl, World.ownsRow_nil _ _ _ _, Kept.refl _ _⟩
  · go_enter Tryz.func67, Tryz.ntmps67
    go_wp2_with (at_builtin; refine append_bytes rfl _ _ 22 rfl w.heap.size 5 i0 Tryz.underlying22 HI.out HZ0.out HZ1.out HZ2.out _ 0 [] rfl (World.ownsRow_made w #[] 0 (Nat.le_refl _) (by decide) rfl) (some x) n c bs rfl (HB.out.alloc _) HL.out ?d2 ?d3 ?_)
    case d2 => omega
    case d3 => simp
    intro v' w1 hown hgrow
    have HO := Lib.hid hown
    have hk : Kept noneB w w1 := (((Kept.refl noneB w).alloc _)).grown hgrow (by intro k hk; simp [Value.ownBlock] at hk; omega)
    have HK := Lib.hid hk
    clear hown hgrow hk
    go_wp2
    go_ret
    exact ⟨v', rfl, HO.out, HK.out⟩

def NewPost (w : World) (bs : List UInt8) (zs : List Int) (e : Ending) (w' : World) : Prop :=
  ∃ (g : Nat) (S : Sv), e = .returned (.pointer (some ⟨g, 0, none⟩)) ∧ w.heap.size ≤ g ∧ S.bs = bs ∧ S.n = bs.length ∧ S.zs = zs ∧ S.off g ∧ (∀ x, S.p = some x → w.heap.size ≤ x.block) ∧ (∀ x, S.q = some x → w.heap.size ≤ x.block) ∧ Src w' g S 0 0 ∧ Kept noneB w w'
theorem new_any (w : World) (p : Option Addr) (n c : Nat) (bs : List UInt8) (q : Option Addr) (m d : Nat) (zs : List Int) (hb : BAt w p n bs) (hl : bs.length = n) (hn : n ≤ 140737488351232) (hq : IAt w q m zs) (hz : zs.length = m) (hm : m * 8 ≤ 140737488351232) :
    Calls Tryz.prog 48 #[.slice p n c, .slice q m d] w (NewPost w bs zs) := by
  obtain ⟨i0, hi, hz0, hz1, hz2⟩ := info_parts infoI64
  have HI := Lib.hid hi
  have HZ0 := Lib.hid hz0
  have HZ1 := Lib.hid hz1
  have HZ2 := Lib.hid hz2
  have HB := Lib.hid hb
  have HL := Lib.hid hl
  have HQ := Lib.hid hq
  have HZ := Lib.hid hz
  clear hi hz0 hz1 hz2 hb hl hq hz
  go_enter Tryz.func48, Tryz.ntmps48
  go_wp2_with fail
  refine (clone_any w p n c bs HB.out HL.out hn).mono ?_
  rintro e w1 ⟨v, rfl, ho1, hk1⟩
  have HO1 := Lib.hid ho1
  have HK1 := Lib.hid hk1
  clear ho1 hk1
  go_wp2_with (at_builtin; refine append_ints rfl _ _ 23 rfl w1.heap.size 3 i0 Tryz.underlying23 HI.out HZ0.out HZ1.out HZ2.out _ 0 [] rfl (World.ownsRow_nil _ _ _ _) q m d zs rfl (HQ.out.kept HK1.out (fun _ _ _ => id)) HZ.out ?d2 ?d3 ?_)
  case d2 => omega
  case d3 => exact Nat.le_refl _
  intro v' w2 hown hgrow
  have HO2 := Lib.hid hown
  have hk2 : Kept noneB w1 w2 := (Kept.refl noneB w1).grown hgrow (by intro k hk; simp [Value.ownBlock] at hk)
  have HK2 := Lib.hid hk2
  clear hown hgrow hk2
  obtain ⟨p1, c1, rfl, h1, h2, h3, h4, h5⟩ := HO1.out.slice
  obtain ⟨q1, d1, rfl, h6, h7, h8, h9, h10⟩ := iat_of_own HO2.out
  have h11 := own_block HO2.out rfl
  have F : Hid (NewPost w bs zs (.returned (.pointer (some ⟨w2.heap.size, 0, none⟩))) (w2.alloc (.cells #[.slice p1 n c1, .int .i64 0, .slice q1 m d1, .int .i64 0] 100))) := Lib.hid (by
    have hk3 : Kept noneB w2 (w2.alloc (.cells #[.slice p1 n c1, .int .i64 0, .slice q1 m d1, .int .i64 0] 100)) := (Kept.refl noneB w2).alloc _
    refine ⟨w2.heap.size, ⟨p1, n, c1, bs, q1, m, d1, zs⟩, rfl, (HK1.out.trans HK2.out).size, rfl, HL.out.symm, rfl, ?_, fun x hx => (h5 x hx).1, fun x hx => Nat.le_trans HK1.out.size (h11 x hx).1, ⟨?_, ?_, h4, h1, h2, hn, Nat.zero_le _, ?_, h9, h6, h7, fun h => h, fun _ => rfl⟩, (HK1.out.trans HK2.out).trans hk3⟩
    · intro _ x hx
      have := (h11 x hx).2.1
      omega
    · exact heap_alloc_new _ _
    · exact (h3.kept HK2.out (fun _ _ _ => id)).kept hk3 (fun _ _ _ => id)
    · exact h8.kept hk3 (fun _ _ _ => id))
  clear h1 h2 h3 h4 h5 h6 h7 h8 h9 h10 h11
  go_wp2
  go_ret
  exact F.out

theorem block_nil (w : World) : Calls Tryz.prog 49 #[.pointer none] w fun e w' => e = .returned (.tuple #[.slice none 0 0, .int .i64 1]) ∧ w = w' := by
  go_enter Tryz.func49, Tryz.ntmps49
  go_wp2
  go_ret2
  exact ⟨rfl, rfl⟩
def BlockPost (w : World) (g a : Nat) (S : Sv) (e : Ending) (w' : World) : Prop :=
  (a = S.n ∧ e = .returned (.tuple #[.slice none 0 0, .int .i64 14]) ∧ (∃ t', Src w' g S a t') ∧ Kept (oneB g) w w') ∨ (a < S.n ∧ ReadPost w g a S 512 e w')
theorem ReadPost.from {w w1 w' : World} {g a N : Nat} {S : Sv} {e : Ending} (hk : Kept (oneB g) w w1) (h : ReadPost w1 g a S N e w') : ReadPost w g a S N e w' := by
  rcases h with ⟨h1, v, h2, h3, h4, h5⟩ | ⟨h1, h2, h3, h4⟩
  · exact Or.inl ⟨h1, v, h2, h3.mono hk.size, h4, hk.trans h5⟩
  · exact Or.inr ⟨h1, h2, h3, hk.trans h4⟩
theorem srcBlock_any (w : World) (g a t : Nat) (S : Sv) (h : Src w g S a t) (ho : S.off g) :
    Calls Tryz.prog 49 #[.pointer (some ⟨g, 0, none⟩)] w (BlockPost w g a S) := by
  have hle := h.le
  have H := Lib.hid h
  have HO := Lib.hid ho
  clear h ho
  by_cases han : a = S.n
  · have hz : Hid (S.n - a = 0) := Lib.hid (by omega)
    go_enter Tryz.func49, Tryz.ntmps49
    go_wp2_with fail
    refine (left_any _ g a t S H.out).mono ?_
    rintro e w1 ⟨rfl, hs1, hk1⟩
    obtain ⟨p, hp, _, _⟩ := left_bat hs1
    rw [hp, hz.out]
    have HS1 := Lib.hid hs1
    have HK1 := Lib.hid hk1
    clear hs1 hk1 hp
    go_wp2
    go_ret2
    exact Or.inl ⟨han, rfl, ⟨t, HS1.out⟩, HK1.out.of_none _⟩
  · obtain ⟨l, hl⟩ : ∃ l, S.n - a = l + 1 := ⟨S.n - a - 1, by omega⟩
    have HLL := Lib.hid hl
    clear hl
    go_enter Tryz.func49, Tryz.ntmps49
    go_wp2_with fail
    refine (left_any _ g a t S H.out).mono ?_
    rintro e w1 ⟨rfl, hs1, hk1⟩
    obtain ⟨p, hp, _, _⟩ := left_bat hs1
    rw [hp, HLL.out]
    have HS1 := Lib.hid hs1
    have HK1 := Lib.hid hk1
    clear hs1 hk1 hp
    have hb0 : ((((l + 1 : Nat) : Int)) == 0) = false := by simp; omega
    go_wp2_with fail
    refine (srcRead_any _ g a t S HS1.out HO.out 512 (by decide)).mono ?_
    intro e w2 hr
    have HR := Lib.hid (hr.from (HK1.out.of_none _))
    clear hr
    have hr' := HR.out
    rcases hr' with ⟨h1, v, rfl, h3, h4, h5⟩ | ⟨h1, rfl, h3, h4⟩
    · clear h1 h3 h4 h5
      go_wp2
      go_ret2
      exact Or.inr ⟨by have := HLL.out; omega, HR.out⟩
    · clear h1 h3 h4
      go_wp2
      go_ret2
      exact Or.inr ⟨by have := HLL.out; omega, HR.out⟩
theorem place_nil (w : World) : Calls Tryz.prog 30 #[.pointer none] w fun e w' => e = .returned (.int .i64 0) ∧ w = w' := by
  go_enter Tryz.func30, Tryz.ntmps30
  go_wp2
  go_ret
  exact ⟨rfl, rfl⟩
theorem place_any (w : World) (g a t : Nat) (S : Sv) (h : Src w g S a t) :
    Calls Tryz.prog 30 #[.pointer (some ⟨g, 0, none⟩)] w fun e w' => e = .returned (.int .i64 a) ∧ w = w' := by
  have h1 := h.c1
  clear h
  go_enter Tryz.func30, Tryz.ntmps30
  go_wp2
  go_ret
  exact ⟨rfl, rfl⟩

/-- to whole blocks -/
def padN (k : Nat) : Nat := (k + 511) / 512 * 512
theorem padF_nat (k : Nat) (h : k ≤ 4611686018427387904) : padF (k : Int) = (padN k : Int) := by
  unfold padF padN
  rw [if_pos ⟨by omega, by omega⟩]
  by_cases h2 : ((k : Int) % 512 = 0)
  · rw [if_pos h2]; omega
  · rw [if_neg h2]; omega
theorem padN_ge (k : Nat) : k ≤ padN k := by unfold padN; omega
theorem padN_le (k : Nat) : padN k ≤ k + 511 := by unfold padN; omega
theorem body_nil (w : World) (n : Int) : Calls Tryz.prog 79 #[.pointer none, .int .i64 n] w fun e w' => e = .returned (.tuple #[.slice none 0 0, .int .i64 1]) ∧ w = w' := by
  go_enter Tryz.func79, Tryz.ntmps79
  go_wp2
  go_ret2
  exact ⟨rfl, rfl⟩
theorem body_wrong (w : World) (g a t : Nat) (S : Sv) (h : Src w g S a t) (n : Int) (hn : ¬ (0 ≤ n ∧ n ≤ 4611686018427387904)) :
    Calls Tryz.prog 79 #[.pointer (some ⟨g, 0, none⟩), .int .i64 n] w fun e w' => e = .returned (.tuple #[.slice none 0 0, .int .i64 4]) ∧ Src w' g S a t ∧ Kept noneB w w' := by
  have H := Lib.hid h
  clear h
  go_enter Tryz.func79, Tryz.ntmps79
  go_wp2_with fail
  refine (pad_any n _).mono ?_
  rintro e w1 ⟨rfl, hb1⟩
  rw [inB_false hn]
  have HK1 := Lib.hid (Kept.of_below hb1 noneB)
  clear hb1
  go_wp2
  go_ret2
  exact ⟨rfl, H.out.kept0 HK1.out, HK1.out⟩
/-- what Body answers for a number of bytes -/
def BodyPost (w : World) (g a : Nat) (S : Sv) (k : Nat) (e : Ending) (w' : World) : Prop :=
  (a + padN k ≤ S.n ∧ ∃ p, e = .returned (.tuple #[.slice p k k, .int .i64 0]) ∧ BAt w' p k ((S.bs.drop a).take k) ∧ (∀ x, p = some x → w.heap.size ≤ x.block) ∧ (∃ t', Src w' g S (a + padN k) t') ∧ Kept (oneB g) w w') ∨
  (S.n < a + padN k ∧ e = .returned (.tuple #[.slice none 0 0, .int .i64 2]) ∧ (∃ t', Src w' g S S.n t') ∧ Kept (oneB g) w w')
theorem body_any (w : World) (g a t : Nat) (S : Sv) (h : Src w g S a t) (ho : S.off g) (k : Nat) (hn : k ≤ 4611686018427387904) :
    Calls Tryz.prog 79 #[.pointer (some ⟨g, 0, none⟩), .int .i64 k] w (BodyPost w g a S k) := by
  have H := Lib.hid h
  have HO := Lib.hid ho
  clear h ho
  go_enter Tryz.func79, Tryz.ntmps79
  go_wp2_with fail
  refine (pad_any k _).mono ?_
  rintro e w1 ⟨rfl, hb1⟩
  rw [inB_true (by omega) (by omega), padF_nat k hn]
  have HK1 := Lib.hid (Kept.of_below hb1 noneB)
  clear hb1
  have hp1 := padN_ge k
  have hp2 := padN_le k
  obtain ⟨P, hP⟩ : ∃ P, P = padN k := ⟨_, rfl⟩
  rw [← hP] at hp1 hp2 ⊢
  have HP := Lib.hid hP
  clear hP
  go_wp2_with fail
  refine (srcRead_any _ g a t S (H.out.kept0 HK1.out) HO.out P (by omega)).mono ?_
  intro e w2 hr
  rcases hr.from (HK1.out.of_none _) with ⟨h1, v, rfl, h3, h4, h5⟩ | ⟨h1, rfl, h3, h4⟩
  · obtain ⟨p, c, rfl, h6, h7, h8, h9, h10⟩ := h3.slice
    have h11 := h8.take hp1
    rw [List.take_take, Nat.min_eq_left hp1] at h11
    have F : Hid (BodyPost w g a S k (.returned (.tuple #[.slice p k k, .int .i64 0])) w2) := Lib.hid (Or.inl ⟨by rw [← HP.out]; exact h1, p, rfl, h11, fun x hx => (h10 x hx).1, by rw [← HP.out]; exact h4, h5⟩)
    clear h1 h3 h4 h5 h8 h9 h10 h11 hr
    go_wp2
    go_ret2
    exact F.out
  · have F : Hid (BodyPost w g a S k (.returned (.tuple #[.slice none 0 0, .int .i64 2])) w2) := Lib.hid (Or.inr ⟨by rw [← HP.out]; exact h1, rfl, h3, h4⟩)
    clear h1 h3 h4 hr
    go_wp2
    go_ret2
    exact F.out
end Go.Proofs.YtdjedimjhogdoaaGreatDoor.Block
end
section
namespace Go.Proofs.YtdjedimjhogdoaaGreatDoor
open Go.Shelf
def Tryz.laysTrimLeft_ren : Go.Shelf.Ren := ⟨fun | 8 => 94 | 9 => 114 | 11 => 115 | 12 => 116 | 14 => 117 | 16 => 134 | 17 => 135 | 18 => 136 | 20 => 146 | n => n, fun | 22 => 22 | 9 => 9 | 3 => 3 | 4 => 4 | 5 => 5 | 28 => 167 | 27 => 166 | 0 => 0 | 31 => 170 | 33 => 187 | 21 => 21 | 36 => 182 | 37 => 174 | 40 => 185 | 39 => 184 | n => n, fun | 0 => 1 | 1 => 2 | n => n⟩
theorem Tryz.laysTrimLeft : Go.Proofs.SlLaysV.n8 Tryz.prog Tryz.laysTrimLeft_ren := {
  mixed := by kernel_rfl
  f8 := Tryz.func94.trans (congrArg some (by kernel_rfl))
  f9 := Tryz.func114.trans (congrArg some (by kernel_rfl))
  f11 := Tryz.func115.trans (congrArg some (by kernel_rfl))
  f12 := Tryz.func116.trans (congrArg some (by kernel_rfl))
  f14 := Tryz.func117.trans (congrArg some (by kernel_rfl))
  f16 := Tryz.func134.trans (congrArg some (by kernel_rfl))
  f17 := Tryz.func135.trans (congrArg some (by kernel_rfl))
  f18 := Tryz.func136.trans (congrArg some (by kernel_rfl))
  f20 := Tryz.func146.trans (congrArg some (by kernel_rfl))
  t0 := Tryz.underlying0
  a0 := Tryz.isAgg0
  z0 := Tryz.sizeOf0
  v0 := Tryz.zeroValue0
  t3 := Tryz.underlying3
  a3 := Tryz.isAgg3
  z3 := Tryz.sizeOf3
  v3 := Tryz.zeroValue3
  t4 := Tryz.underlying4
  a4 := Tryz.isAgg4
  z4 := Tryz.sizeOf4
  v4 := Tryz.zeroValue4
  t5 := Tryz.underlying5
  a5 := Tryz.isAgg5
  z5 := Tryz.sizeOf5
  v5 := Tryz.zeroValue5
  t9 := Tryz.underlying9
  a9 := Tryz.isAgg9
  z9 := Tryz.sizeOf9
  v9 := Tryz.zeroValue9
  t21 := Tryz.underlying21
  a21 := Tryz.isAgg21
  z21 := Tryz.sizeOf21
  v21 := Tryz.zeroValue21
  t22 := Tryz.underlying22
  a22 := Tryz.isAgg22
  z22 := Tryz.sizeOf22
  v22 := Tryz.zeroValue22
  t27 := Tryz.underlying166
  a27 := Tryz.isAgg166
  z27 := Tryz.sizeOf166
  t28 := Tryz.underlying167
  a28 := Tryz.isAgg167
  z28 := Tryz.sizeOf167
  v28 := Tryz.zeroValue167
  t31 := Tryz.underlying170
  a31 := Tryz.isAgg170
  z31 := Tryz.sizeOf170
  v31 := Tryz.zeroValue170
  t33 := Tryz.underlying187
  a33 := Tryz.isAgg187
  z33 := Tryz.sizeOf187
  v33 := Tryz.zeroValue187
  t36 := Tryz.underlying182
  a36 := Tryz.isAgg182
  z36 := Tryz.sizeOf182
  t37 := Tryz.underlying174
  a37 := Tryz.isAgg174
  z37 := Tryz.sizeOf174
  v37 := Tryz.zeroValue174
  t39 := Tryz.underlying184
  a39 := Tryz.isAgg184
  z39 := Tryz.sizeOf184
  v39 := Tryz.zeroValue184
  t40 := Tryz.underlying185
  a40 := Tryz.isAgg185
  z40 := Tryz.sizeOf185
  v40 := Tryz.zeroValue185 }
end Go.Proofs.YtdjedimjhogdoaaGreatDoor
end
section
namespace Go.Proofs.YtdjedimjhogdoaaGreatDoor.Block
open Go.ChangeShapes Go.WideShapes Go.ChangeAt Go.RowKit Go.Proofs.YtdjedimjhogdoaaGreatDoor.Base Go.Proofs.YtdjedimjhogdoaaGreatDoor.Byt Go.Proofs.YtdjedimjhogdoaaGreatDoor.Num Go.Lib Go.Proofs Go.Shelf
set_option linter.unusedVariables false

theorem info256b : (Tryz.prog.info? (Tryz.laysTrimLeft_ren.t 27)).map (fun i => (i.zero, i.size)) = some (some (.agg (Array.replicate 256 (.bool false))), 256) := by kernel_rfl
theorem trimLeft0_any (p : Option Addr) (n c : Nat) (bs : List UInt8) (w : World) (hl : bs.length = n) (hc : n ≤ c) (hm : c ≤ maxLen) (h : BAt w p n bs) :
    Calls Tryz.prog 94 #[.slice p n c, .string ⟨#[0]⟩] w fun e w' => e = .returned (Lib.leftV p n c (n - (Lib.trimLeftS bs [0]).length)) ∧ Below w.heap.size w w' :=
  Any.bytes_TrimLeft_ascii Tryz.laysTrimLeft (zero_of_info info256b).1 (zero_of_info info256b).2 p n c bs ⟨#[0]⟩ w hl hc (by unfold maxLen at hm; omega) h (by decide) (fun j b hb => by
    match j, hb with
    | 0, hb => cases hb; decide)
/-- are all bytes 0? -/
def restB (bs : List UInt8) : Bool := bs.all (· == 0)
theorem rest_len : ∀ bs : List UInt8, decide ((Lib.trimLeftS bs [0]).length = 0) = restB bs
  | [] => rfl
  | x :: l => by
    unfold Lib.trimLeftS restB
    by_cases h : x = 0
    · subst h
      have := rest_len l
      unfold Lib.trimLeftS restB at this
      simpa using this
    · have hx : ([0] : List UInt8).contains x = false := by simpa using h
      rw [List.dropWhile_cons_of_neg (by rw [hx]; decide)]
      simp [h]
theorem trimLeft0_le (l : List UInt8) : (Lib.trimLeftS l [0]).length ≤ l.length := (List.dropWhile_suffix _ : Lib.trimLeftS l [0] <:+ l).length_le
theorem leftV_len (p : Option Addr) (n c k : Nat) (hk : k ≤ n) : ∃ p' c', Lib.leftV p n c (n - k) = .slice p' k c' := by
  unfold Lib.leftV Lib.fromV
  by_cases h0 : k = 0
  · subst h0
    exact ⟨none, 0, by rw [if_pos (by omega)]⟩
  · by_cases h1 : n - k = n
    · omega
    · rw [if_neg h1, show n - (n - k) = k by omega]
      exact ⟨_, _, rfl⟩
theorem rest_nil (w : World) : Calls Tryz.prog 71 #[.pointer none] w fun e w' => e = .returned (.bool false) ∧ w = w' := by
  go_enter Tryz.func71, Tryz.ntmps71
  go_wp2
  go_ret
  exact ⟨rfl, rfl⟩
theorem rest_any (w : World) (g a t : Nat) (S : Sv) (h : Src w g S a t) :
    Calls Tryz.prog 71 #[.pointer (some ⟨g, 0, none⟩)] w fun e w' => e = .returned (.bool (restB (S.bs.drop a))) ∧ Src w' g S a t ∧ Kept noneB w w' := by
  have H := Lib.hid h
  clear h
  go_enter Tryz.func71, Tryz.ntmps71
  go_wp2_with fail
  refine (left_any _ g a t S H.out).mono ?_
  rintro e w1 ⟨rfl, hs1, hk1⟩
  obtain ⟨p, hp, hb1, _⟩ := left_bat hs1
  rw [hp]
  have hlen : (S.bs.drop a).length = S.n - a := by rw [List.length_drop, H.out.len]
  have HS1 := Lib.hid hs1
  have HK1 := Lib.hid hk1
  have HB1 := Lib.hid hb1
  have HLEN := Lib.hid hlen
  clear hs1 hk1 hb1 hp hlen
  go_wp2_with fail
  refine (trimLeft0_any p _ _ (S.bs.drop a) w1 HLEN.out (by have := HS1.out.nc; omega) (by have := HS1.out.cm; omega) HB1.out).mono ?_
  rintro e w2 ⟨rfl, hb2⟩
  obtain ⟨k, hk⟩ : ∃ k, k = (Lib.trimLeftS (S.bs.drop a) [0]).length := ⟨_, rfl⟩
  have hkl : k ≤ S.n - a := by rw [hk, ← HLEN.out]; exact trimLeft0_le _
  rw [← hk]
  obtain ⟨p', c', hv⟩ := leftV_len p (S.n - a) (S.c - a) k hkl
  rw [hv]
  have HKK := Lib.hid hk
  have HK2 := Lib.hid (Kept.of_below hb2 noneB)
  clear hv hk hkl hb2
  have F : ∀ b, b = decide (k = 0) → (Ending.returned (.bool b) = .returned (.bool (restB (S.bs.drop a)))) := fun b hb => by rw [hb, HKK.out, rest_len]
  have FH := Lib.hid F
  clear F
  by_cases h0 : k = 0
  · subst h0
    go_wp2
    go_ret
    exact ⟨FH.out true rfl, HS1.out.kept0 HK2.out, HK1.out.trans HK2.out⟩
  · have hz : ((k : Int) == 0) = false := by simpa using h0
    go_wp2
    go_ret
    exact ⟨FH.out false (by simp [h0]), HS1.out.kept0 HK2.out, HK1.out.trans HK2.out⟩
end Go.Proofs.YtdjedimjhogdoaaGreatDoor.Block
end
section
namespace Go.Proofs.YtdjedimjhogdoaaGreatDoor.Attr
open Go.ChangeShapes Go.WideShapes Go.ChangeAt Go.RowKit Go.Shelf Go.Proofs.YtdjedimjhogdoaaGreatDoor.Base Go.Proofs.YtdjedimjhogdoaaGreatDoor.Byt Go.Proofs.YtdjedimjhogdoaaGreatDoor.Txt Go.Proofs.YtdjedimjhogdoaaGreatDoor.Rec Go.Proofs.YtdjedimjhogdoaaGreatDoor.Bk Go.Lib
set_option linter.unusedVariables false
set_option maxRecDepth 100000
attribute [local go_sem] Oper.semAt_some

abbrev RecI := Nat × (List UInt8 × List UInt8)
def encI (x : RecI) : Array Value := #[.int .i64 (x.1 : Int), .agg #[.string (str x.2.1), .string (str x.2.2)]]
/-- what has come when m rounds are over -/
def backTo (rs : RecL) (m : Nat) : List RecI := (List.range m).map fun t => (rs.length - 1 - t, rs.getD (rs.length - 1 - t) ([], []))
theorem backTo_succ (rs : RecL) (m : Nat) : backTo rs (m + 1) = backTo rs m ++ [(rs.length - 1 - m, rs.getD (rs.length - 1 - m) ([], []))] := by simp [backTo, List.range_succ]
theorem backTo_length (rs : RecL) (m : Nat) : (backTo rs m).length = m := by simp [backTo]
theorem backTo_all (rs : RecL) : (backTo rs rs.length).map (·.2) = rs.reverse := by
  apply List.ext_getElem
  · simp [backTo]
  · intro i h1 h2
    have hi : i < rs.length := by simpa using h2
    simp [backTo, List.getD, show rs.length - 1 - i < rs.length by omega]
theorem backTo_pre (rs : RecL) (m : Nat) (hm : m ≤ rs.length) : backTo rs m <+: backTo rs rs.length := by
  refine ⟨(backTo rs rs.length).drop m, ?_⟩
  have : backTo rs m = (backTo rs rs.length).take m := by
    simp [backTo, ← List.map_take, List.take_range, Nat.min_eq_left hm]
  rw [this, List.take_append_drop]
set_option maxHeartbeats 1000000 in
theorem back_in (F : Fence) (n : Nat) (hF : F = Fence.wide) (hn : 1 ≤ n) (l Bs n₀ : Nat) (p : Option Addr) (c : Nat) (rs : RecL) (hreach : rs.length ≤ 4611686018427387904) (J Jx : List RecI → World → Prop)
    (hY : ∀ pre x W, J pre W → pre.length < rs.length → YieldAt F (n - 1) Tryz.prog l (encI x) W fun e W' =>
      (e = .returned (.bool true) ∧ J (pre ++ [x]) W' ∧ Below n₀ W W') ∨ (e = .returned (.bool false) ∧ Jx (pre ++ [x]) W'))
    (W : World) (hBn : Bs < n₀) (hBs : W.cell? ⟨Bs, 0, none⟩ = some (.slice p rs.length c))
    (hR : 0 < rs.length → ∃ b o, p = some ⟨b, o, none⟩ ∧ b < n₀ ∧ ∀ i, i < rs.length → W.cell? ⟨b, o + 2 * i, none⟩ = some (.string (str (rs.getD i ([], [])).1)) ∧ W.cell? ⟨b, o + 2 * i + 1, none⟩ = some (.string (str (rs.getD i ([], [])).2))) (h0 : J [] W) :
    CallsIn F n Tryz.prog 152 #[.func (.yield l) #[] #[], .pointer (some ⟨Bs, 0, none⟩)] W fun e W' => (∃ v, e = .returned v) ∧
      ((∃ ys, ys = backTo rs rs.length ∧ J ys W') ∨ (∃ pre, pre <+: backTo rs rs.length ∧ Jx pre W')) := by
  subst hF
  obtain ⟨N, hN⟩ : ∃ N, rs.length = N := ⟨_, rfl⟩
  rw [hN] at hBs hreach
  refine callsIn_of_wp Tryz.func152 rfl trivial ?_ rfl
  simp only [Tryz.ntmps152, List.size_toArray, List.length_cons, List.length_nil, Nat.reduceAdd, Nat.reduceSub, Array.replicate_succ, Array.replicate_zero, List.push_toArray, List.append_toArray, List.nil_append, List.cons_append]
  gi_wp2
  gi_loopw [3] (fun i wr => ∃ k : Nat, k ≤ N ∧ i = .int .i64 ((k : Int) - 1) ∧ J (backTo rs (N - k)) wr ∧ Below n₀ W wr)
    (fun i _ => (RowKit.intOf i + 1).toNat)
  case atStart => exact ⟨N, Nat.le_refl _, rfl, by rw [Nat.sub_self]; exact h0, Below.refl _ _⟩
  case round =>
    obtain ⟨k, hk, rfl, hJs, hnx⟩ := hrel
    cases k with
    | zero =>
      have hJ' : J (backTo rs rs.length) wr := by rw [hN]; exact hJs
      clear hJs hY
      gi_wp2
      go_end0
      exact ⟨⟨_, rfl⟩, .inl ⟨_, rfl, hJ'⟩⟩
    | succ j =>
      rw [show (((j + 1 : Nat) : Int) - 1) = (j : Int) by omega]
      obtain ⟨b, o, rfl, hb, hc⟩ := hR (by omega)
      obtain ⟨c0, c1⟩ := hc j (by omega)
      have hcb := (hnx.cell (p := ⟨Bs, 0, none⟩) hBn).trans hBs
      have d0 := (hnx.cell (p := ⟨b, o + 2 * j, none⟩) hb).trans c0
      have d1 := (hnx.cell (p := ⟨b, o + 2 * j + 1, none⟩) hb).trans c1
      rw [Nat.mul_comm] at d0 d1
      obtain ⟨r, hr⟩ : ∃ r, rs.getD j ([], []) = r := ⟨_, rfl⟩
      rw [hr] at d0 d1
      have hs : backTo rs (N - j) = backTo rs (N - (j + 1)) ++ [(j, r)] := by
        have : N - j = N - (j + 1) + 1 := by omega
        rw [this, backTo_succ, show rs.length - 1 - (N - (j + 1)) = j by omega, hr]
      obtain ⟨fn, tmps, assign, body, hy, hR'⟩ := hY (backTo rs (N - (j + 1))) (j, r) wr hJs (by rw [backTo_length]; omega)
      simp only [encI] at hy
      have HS := Lib.hid hs
      have hp2 := backTo_pre rs (N - j) (by omega)
      have HP := Lib.hid hp2
      rw [← hs] at hR'
      clear hs hY hR hJs c0 c1 hc hp2 hBs hr
      gi_wp2
      refine hR'.mono ?_
      rintro e W3 (⟨rfl, hJ3, hk3⟩ | ⟨rfl, hJx3⟩)
      · gi_wp2
        go_roundw
        case rel => exact ⟨j, by omega, rfl, hJ3, hnx.trans hk3⟩
        case measure => simp [RowKit.intOf]
      · gi_wp2
        refine bodyPost_ret (results_none rfl _ _ _) rfl ?_
        exact ⟨⟨_, rfl⟩, .inr ⟨_, HP.out, hJx3⟩⟩
theorem back_stops (n : Nat) (hn : 1 ≤ n) (Bs : Nat) (p : Option Addr) (c : Nat) (rs : RecL) (hreach : rs.length ≤ 4611686018427387904) (w : World) (hBn : Bs < w.heap.size) (hc : w.cell? ⟨Bs, 0, none⟩ = some (.slice p rs.length c)) (hR : RecsAt w p rs.length rs) :
    SeqStopsK Fence.wide n Tryz.prog 152 #[.pointer (some ⟨Bs, 0, none⟩)] encI (Below w.heap.size) (fun ys => ys = backTo rs rs.length) (fun pre => pre <+: backTo rs rs.length) rs.length w := fun l J Jx W hW _ _ hY h0 =>
  back_in Fence.wide n rfl hn l Bs w.heap.size p c rs hreach J Jx hY W hBn ((hW.cell (p := ⟨Bs, 0, none⟩) hBn).trans hc)
    (fun h0 => by
      obtain ⟨b, o, hp, hb, hc⟩ := hR.2 h0
      exact ⟨b, o, hp, hb, fun i hi => ⟨(hW.cell (p := ⟨b, o + 2 * i, none⟩) hb).trans (hc i hi).1, (hW.cell (p := ⟨b, o + 2 * i + 1, none⟩) hb).trans (hc i hi).2⟩⟩) h0
theorem backward_any (p : Option Addr) (n c : Nat) (w : World) :
    Calls Tryz.prog 142 #[.slice p n c] w fun e w' => e = .returned (.func (.func 152) #[] #[.pointer (some ⟨w.heap.size, 0, none⟩)]) ∧ w' = w.alloc (.cells #[.slice p n c] 73) := by
  go_enter Tryz.func142, Tryz.ntmps142
  go_wp2
  go_ret
  exact ⟨rfl, rfl⟩
end Go.Proofs.YtdjedimjhogdoaaGreatDoor.Attr
end
section
namespace Go.Proofs.YtdjedimjhogdoaaGreatDoor
open Go.Shelf
def Tryz.laysTrim_ren : Go.Shelf.Ren := ⟨fun | 160 => 143 | 232 => 154 | 231 => 153 | 227 => 155 | 234 => 157 | 233 => 156 | 236 => 159 | 235 => 158 | 228 => 169 | 271 => 172 | 151 => 171 | 197 => 170 | 120 => 147 | 152 => 177 | 260 => 176 | 137 => 179 | 119 => 180 | 224 => 125 | 225 => 150 | 217 => 149 | 266 => 167 | n => n, fun | 9 => 9 | 4 => 4 | 3 => 3 | 5 => 5 | 117 => 203 | 116 => 202 | 0 => 0 | 124 => 206 | 21 => 21 | 105 => 187 | 46 => 174 | 119 => 182 | 139 => 185 | 138 => 184 | n => n, fun | 3 => 1 | 4 => 2 | n => n⟩
theorem Tryz.laysTrim : Go.Proofs.Lays.n160 Tryz.prog Tryz.laysTrim_ren := {
  mixed := by kernel_rfl
  f119 := Tryz.func180.trans (congrArg some (by kernel_rfl))
  f120 := Tryz.func147.trans (congrArg some (by kernel_rfl))
  f137 := Tryz.func179.trans (congrArg some (by kernel_rfl))
  f151 := Tryz.func171.trans (congrArg some (by kernel_rfl))
  f152 := Tryz.func177.trans (congrArg some (by kernel_rfl))
  f160 := Tryz.func143.trans (congrArg some (by kernel_rfl))
  f197 := Tryz.func170.trans (congrArg some (by kernel_rfl))
  f217 := Tryz.func149.trans (congrArg some (by kernel_rfl))
  f224 := Tryz.func125.trans (congrArg some (by kernel_rfl))
  f225 := Tryz.func150.trans (congrArg some (by kernel_rfl))
  f227 := Tryz.func155.trans (congrArg some (by kernel_rfl))
  f228 := Tryz.func169.trans (congrArg some (by kernel_rfl))
  f231 := Tryz.func153.trans (congrArg some (by kernel_rfl))
  f232 := Tryz.func154.trans (congrArg some (by kernel_rfl))
  f233 := Tryz.func156.trans (congrArg some (by kernel_rfl))
  f234 := Tryz.func157.trans (congrArg some (by kernel_rfl))
  f235 := Tryz.func158.trans (congrArg some (by kernel_rfl))
  f236 := Tryz.func159.trans (congrArg some (by kernel_rfl))
  f260 := Tryz.func176.trans (congrArg some (by kernel_rfl))
  f266 := Tryz.func167.trans (congrArg some (by kernel_rfl))
  f271 := Tryz.func172.trans (congrArg some (by kernel_rfl))
  t0 := Tryz.underlying0
  a0 := Tryz.isAgg0
  z0 := Tryz.sizeOf0
  v0 := Tryz.zeroValue0
  t3 := Tryz.underlying3
  a3 := Tryz.isAgg3
  z3 := Tryz.sizeOf3
  v3 := Tryz.zeroValue3
  t4 := Tryz.underlying4
  a4 := Tryz.isAgg4
  z4 := Tryz.sizeOf4
  v4 := Tryz.zeroValue4
  t5 := Tryz.underlying5
  a5 := Tryz.isAgg5
  z5 := Tryz.sizeOf5
  v5 := Tryz.zeroValue5
  t9 := Tryz.underlying9
  a9 := Tryz.isAgg9
  z9 := Tryz.sizeOf9
  v9 := Tryz.zeroValue9
  t21 := Tryz.underlying21
  a21 := Tryz.isAgg21
  z21 := Tryz.sizeOf21
  v21 := Tryz.zeroValue21
  t46 := Tryz.underlying174
  a46 := Tryz.isAgg174
  z46 := Tryz.sizeOf174
  v46 := Tryz.zeroValue174
  t105 := Tryz.underlying187
  a105 := Tryz.isAgg187
  z105 := Tryz.sizeOf187
  v105 := Tryz.zeroValue187
  t116 := Tryz.underlying202
  a116 := Tryz.isAgg202
  z116 := Tryz.sizeOf202
  t117 := Tryz.underlying203
  a117 := Tryz.isAgg203
  z117 := Tryz.sizeOf203
  v117 := Tryz.zeroValue203
  t119 := Tryz.underlying182
  a119 := Tryz.isAgg182
  z119 := Tryz.sizeOf182
  t124 := Tryz.underlying206
  a124 := Tryz.isAgg206
  z124 := Tryz.sizeOf206
  v124 := Tryz.zeroValue206
  t138 := Tryz.underlying184
  a138 := Tryz.isAgg184
  z138 := Tryz.sizeOf184
  v138 := Tryz.zeroValue184
  t139 := Tryz.underlying185
  a139 := Tryz.isAgg185
  z139 := Tryz.sizeOf185
  v139 := Tryz.zeroValue185
  g3 := by kernel_rfl
  g4 := by kernel_rfl }
end Go.Proofs.YtdjedimjhogdoaaGreatDoor
end
section
namespace Go.Proofs.YtdjedimjhogdoaaGreatDoor
open Go.Shelf
def Tryz.laysAtoi_ren : Go.Shelf.Ren := ⟨fun | 172 => 131 | 244 => 144 | 245 => 145 | 247 => 160 | 279 => 161 | 280 => 162 | 281 => 163 | 282 => 164 | 287 => 148 | 316 => 173 | 171 => 175 | 205 => 174 | 321 => 165 | 322 => 166 | 243 => 178 | 246 => 181 | 283 => 182 | 284 => 183 | 285 => 184 | 286 => 185 | 129 => 187 | 317 => 186 | 318 => 188 | 319 => 189 | 320 => 190 | 337 => 191 | 338 => 192 | n => n, fun | 9 => 9 | 3 => 3 | 75 => 178 | 76 => 179 | 4 => 4 | 5 => 5 | 167 => 207 | 37 => 22 | 0 => 0 | 85 => 208 | 2 => 2 | 168 => 210 | 53 => 192 | 175 => 193 | 46 => 174 | 210 => 218 | 127 => 221 | 145 => 224 | 143 => 222 | 21 => 21 | 171 => 227 | 173 => 230 | 212 => 233 | 51 => 42 | 20 => 20 | 213 => 234 | 232 => 237 | 233 => 238 | 80 => 239 | n => n, fun | 15 => 3 | 16 => 4 | 17 => 5 | 18 => 6 | 19 => 7 | n => n⟩
theorem Tryz.laysAtoi : Go.Proofs.Lays.n172 Tryz.prog Tryz.laysAtoi_ren := {
  mixed := by kernel_rfl
  f129 := Tryz.func187.trans (congrArg some (by kernel_rfl))
  f171 := Tryz.func175.trans (congrArg some (by kernel_rfl))
  f172 := Tryz.func131.trans (congrArg some (by kernel_rfl))
  f205 := Tryz.func174.trans (congrArg some (by kernel_rfl))
  f243 := Tryz.func178.trans (congrArg some (by kernel_rfl))
  f244 := Tryz.func144.trans (congrArg some (by kernel_rfl))
  f245 := Tryz.func145.trans (congrArg some (by kernel_rfl))
  f246 := Tryz.func181.trans (congrArg some (by kernel_rfl))
  f247 := Tryz.func160.trans (congrArg some (by kernel_rfl))
  f279 := Tryz.func161.trans (congrArg some (by kernel_rfl))
  f280 := Tryz.func162.trans (congrArg some (by kernel_rfl))
  f281 := Tryz.func163.trans (congrArg some (by kernel_rfl))
  f282 := Tryz.func164.trans (congrArg some (by kernel_rfl))
  f283 := Tryz.func182.trans (congrArg some (by kernel_rfl))
  f284 := Tryz.func183.trans (congrArg some (by kernel_rfl))
  f285 := Tryz.func184.trans (congrArg some (by kernel_rfl))
  f286 := Tryz.func185.trans (congrArg some (by kernel_rfl))
  f287 := Tryz.func148.trans (congrArg some (by kernel_rfl))
  f316 := Tryz.func173.trans (congrArg some (by kernel_rfl))
  f317 := Tryz.func186.trans (congrArg some (by kernel_rfl))
  f318 := Tryz.func188.trans (congrArg some (by kernel_rfl))
  f319 := Tryz.func189.trans (congrArg some (by kernel_rfl))
  f320 := Tryz.func190.trans (congrArg some (by kernel_rfl))
  f321 := Tryz.func165.trans (congrArg some (by kernel_rfl))
  f322 := Tryz.func166.trans (congrArg some (by kernel_rfl))
  f337 := Tryz.func191.trans (congrArg some (by kernel_rfl))
  f338 := Tryz.func192.trans (congrArg some (by kernel_rfl))
  t0 := Tryz.underlying0
  a0 := Tryz.isAgg0
  z0 := Tryz.sizeOf0
  v0 := Tryz.zeroValue0
  t2 := Tryz.underlying2
  a2 := Tryz.isAgg2
  z2 := Tryz.sizeOf2
  v2 := Tryz.zeroValue2
  t3 := Tryz.underlying3
  a3 := Tryz.isAgg3
  z3 := Tryz.sizeOf3
  v3 := Tryz.zeroValue3
  t4 := Tryz.underlying4
  a4 := Tryz.isAgg4
  z4 := Tryz.sizeOf4
  v4 := Tryz.zeroValue4
  t5 := Tryz.underlying5
  a5 := Tryz.isAgg5
  z5 := Tryz.sizeOf5
  v5 := Tryz.zeroValue5
  t9 := Tryz.underlying9
  a9 := Tryz.isAgg9
  z9 := Tryz.sizeOf9
  v9 := Tryz.zeroValue9
  t20 := Tryz.underlying20
  a20 := Tryz.isAgg20
  z20 := Tryz.sizeOf20
  v20 := Tryz.zeroValue20
  t21 := Tryz.underlying21
  a21 := Tryz.isAgg21
  z21 := Tryz.sizeOf21
  v21 := Tryz.zeroValue21
  t37 := Tryz.underlying22
  a37 := Tryz.isAgg22
  z37 := Tryz.sizeOf22
  v37 := Tryz.zeroValue22
  t46 := Tryz.underlying174
  a46 := Tryz.isAgg174
  z46 := Tryz.sizeOf174
  v46 := Tryz.zeroValue174
  t51 := Tryz.underlying42
  a51 := Tryz.isAgg42
  z51 := Tryz.sizeOf42
  v51 := Tryz.zeroValue42
  t53 := Tryz.underlying192
  a53 := Tryz.isAgg192
  z53 := Tryz.sizeOf192
  v53 := Tryz.zeroValue192
  t75 := Tryz.underlying178
  a75 := Tryz.isAgg178
  z75 := Tryz.sizeOf178
  v75 := Tryz.zeroValue178
  t76 := Tryz.underlying179
  a76 := Tryz.isAgg179
  z76 := Tryz.sizeOf179
  v76 := Tryz.zeroValue179
  t85 := Tryz.underlying208
  a85 := Tryz.isAgg208
  z85 := Tryz.sizeOf208
  v85 := Tryz.zeroValue208
  t127 := Tryz.underlying221
  a127 := Tryz.isAgg221
  z127 := Tryz.sizeOf221
  v127 := Tryz.zeroValue221
  t143 := Tryz.underlying222
  a143 := Tryz.isAgg222
  z143 := Tryz.sizeOf222
  v143 := Tryz.zeroValue222
  t145 := Tryz.underlying224
  a145 := Tryz.isAgg224
  z145 := Tryz.sizeOf224
  v145 := Tryz.zeroValue224
  t167 := Tryz.underlying207
  a167 := Tryz.isAgg207
  z167 := Tryz.sizeOf207
  v167 := Tryz.zeroValue207
  t168 := Tryz.underlying210
  a168 := Tryz.isAgg210
  z168 := Tryz.sizeOf210
  v168 := Tryz.zeroValue210
  t171 := Tryz.underlying227
  a171 := Tryz.isAgg227
  z171 := Tryz.sizeOf227
  v171 := Tryz.zeroValue227
  t173 := Tryz.underlying230
  a173 := Tryz.isAgg230
  z173 := Tryz.sizeOf230
  v173 := Tryz.zeroValue230
  t175 := Tryz.underlying193
  a175 := Tryz.isAgg193
  z175 := Tryz.sizeOf193
  v175 := Tryz.zeroValue193
  t210 := Tryz.underlying218
  a210 := Tryz.isAgg218
  z210 := Tryz.sizeOf218
  v210 := Tryz.zeroValue218
  t212 := Tryz.underlying233
  a212 := Tryz.isAgg233
  z212 := Tryz.sizeOf233
  v212 := Tryz.zeroValue233
  t213 := Tryz.underlying234
  a213 := Tryz.isAgg234
  z213 := Tryz.sizeOf234
  t232 := Tryz.underlying237
  a232 := Tryz.isAgg237
  z232 := Tryz.sizeOf237
  v232 := Tryz.zeroValue237
  t233 := Tryz.underlying238
  a233 := Tryz.isAgg238
  z233 := Tryz.sizeOf238
  v233 := Tryz.zeroValue238
  g15 := by kernel_rfl
  g16 := by kernel_rfl
  g17 := by kernel_rfl
  g18 := by kernel_rfl
  g19 := by kernel_rfl }
end Go.Proofs.YtdjedimjhogdoaaGreatDoor
end
section
namespace Go.Proofs.YtdjedimjhogdoaaGreatDoor.Byt
open Go.ChangeShapes Go.WideShapes Go.ChangeAt Go.RowKit Go.Proofs.YtdjedimjhogdoaaGreatDoor.Base Go.Lib
set_option linter.unusedVariables false

theorem str_below (w : World) (e : TypeId) (s : ByteArray) : Below w.heap.size w (bytesWorld w e s) :=
  ⟨rfl, rfl, rfl, by rw [bytesWorld_size]; omega, fun k hk => bytesWorld_at_old w e s k hk⟩
theorem str_bat (w : World) (e : TypeId) (s : ByteArray) : BAt (bytesWorld w e s) (some ⟨w.heap.size, 0, none⟩) s.size s.data.toList := fun _ =>
  ⟨_, 0, rfl, fun i hi => by rw [Nat.zero_add]; exact bytesWorld_cell w e s i hi⟩
theorem str_cap (w : World) (e : TypeId) (s : ByteArray) (h : s.size ≤ maxLen) : s.size ≤ grownCap w s.size 0 e ∧ grownCap w s.size 0 e ≤ maxLen :=
  ⟨grownCap_ge w s.size 0 e, grownCap_le_maxLen w s.size 0 e h⟩
theorem str_len (s : ByteArray) : s.data.toList.length = s.size := by simp
theorem str_app (a b : ByteArray) : (a ++ b).data.toList = a.data.toList ++ b.data.toList := by simp [ByteArray.data_append]
end Go.Proofs.YtdjedimjhogdoaaGreatDoor.Byt
end
section
namespace Go.Proofs.YtdjedimjhogdoaaGreatDoor.Attr
open Go.ChangeShapes Go.WideShapes Go.ChangeAt Go.RowKit Go.Shelf Go.Proofs.YtdjedimjhogdoaaGreatDoor.Base Go.Proofs.YtdjedimjhogdoaaGreatDoor.Byt Go.Proofs.YtdjedimjhogdoaaGreatDoor.Txt Go.Proofs.YtdjedimjhogdoaaGreatDoor.Rec Go.Proofs.YtdjedimjhogdoaaGreatDoor.Num Go.Proofs.YtdjedimjhogdoaaGreatDoor.Bk Go.Proofs.YtdjedimjhogdoaaGreatDoor.Hp Go.Lib
set_option linter.unusedVariables false
set_option maxRecDepth 100000

/-- at the first byte c -/
def cutC (c : UInt8) (l : List UInt8) : List UInt8 × List UInt8 × Bool :=
  if 0 ≤ Lib.indexByte l c then (l.take (Lib.indexByte l c).toNat, l.drop ((Lib.indexByte l c).toNat + 1), true) else (l, [], false)
theorem cutC_len (c : UInt8) (l : List UInt8) : (cutC c l).1.length ≤ l.length ∧ (cutC c l).2.1.length ≤ l.length := by
  unfold cutC
  split
  · simp only [List.length_take, List.length_drop]; omega
  · simp
theorem slCutC_any (c : UInt8) (l : List UInt8) (w : World) (hm : l.length ≤ 140737488351232) :
    Calls Tryz.prog 128 #[.string (str l), .string ⟨#[c]⟩] w fun e w' => e = .returned (.tuple #[.string (str (cutC c l).1), .string (str (cutC c l).2.1), .bool (cutC c l).2.2]) ∧ ∃ n, w' = w.drewN n := by
  have hidx := Any.stringslite_Index_one Tryz.laysIndex (str l) c w
  rw [str_data] at hidx
  have hs : (str l).size = l.length := str_size l
  have hone : (⟨#[c]⟩ : ByteArray).size = 1 := rfl
  unfold cutC
  by_cases h : 0 ≤ Lib.indexByte l c
  · obtain ⟨k, hk⟩ : ∃ k : Nat, Lib.indexByte l c = k := ⟨(Lib.indexByte l c).toNat, by omega⟩
    have hlt := (List.getElem?_eq_some_iff.1 (Lib.indexByte_some hk).1).1
    rw [if_pos h, hk, Int.toNat_natCast]
    rw [hk] at hidx
    clear h hk
    simp only
    have e1 : (str l).extract 0 k = str (l.take k) := str_take l k
    have e2 : (str l).extract (k + 1) (str l).size = str (l.drop (k + 1)) := str_drop l (k + 1) _ hs
    rw [← e1, ← e2]
    have c1 : (0 : Int) ≤ (k : Int) := by omega
    have c2 : (k : Int) ≤ ((str l).size : Int) := by omega
    have c3 : (0 : Int) ≤ (k : Int) + 1 := by omega
    have c4 : (k : Int) + 1 ≤ ((str l).size : Int) := by omega
    have c5 : ((str l).size : Int) ≤ 140737488351232 := by omega
    clear e1 e2
    have mixed : Tryz.prog.follows .mixedOrders = true := by kernel_rfl
    go_enter Tryz.func128, Tryz.ntmps128
    go_wp2_with (go_at_call 141; refine hidx.mono ?_; rintro e w' ⟨rfl, rfl⟩)
    go_region_o
    go_wp2
    go_ret3
    exact ⟨rfl, 1, rfl⟩
  · rw [if_neg h]
    have hn : Lib.indexByte l c = -1 := by have := Lib.indexByte_ge l c; omega
    rw [hn] at hidx
    clear h hn
    go_enter Tryz.func128, Tryz.ntmps128
    go_wp2_with (go_at_call 141; refine hidx.mono ?_; rintro e w' ⟨rfl, rfl⟩)
    go_ret3
    exact ⟨rfl, 0, rfl⟩
theorem cutAt_any (c : UInt8) (l : List UInt8) (w : World) (hm : l.length ≤ 140737488351232) :
    Calls Tryz.prog 102 #[.string (str l), .string ⟨#[c]⟩] w fun e w' => e = .returned (.tuple #[.string (str (cutC c l).1), .string (str (cutC c l).2.1), .bool (cutC c l).2.2]) ∧ ∃ n, w' = w.drewN n := by
  have hc := slCutC_any c l w hm
  go_enter Tryz.func102, Tryz.ntmps102
  go_wp2_with (go_at_call 128; refine hc.mono ?_; rintro e w' ⟨rfl, n, rfl⟩)
  go_ret3
  exact ⟨rfl, n, rfl⟩
theorem digits_any (l : List UInt8) (w : World) (hm : l.length ≤ 140737488351232) :
    Calls Tryz.prog 130 #[.string (str l)] w fun e w' => e = .returned (.bool (l.all isDig)) ∧ Below w.heap.size w w' := by
  have ht := Any.strings_Trim_laid Tryz.laysTrim (by kernel_rfl) (str l) ⟨#[48, 49, 50, 51, 52, 53, 54, 55, 56, 57]⟩ w (by rw [str_size]; omega) (by decide) (ascii_of_all (by decide))
  rw [str_data] at ht
  have hb : l.all isDig = decide (trimS l [48, 49, 50, 51, 52, 53, 54, 55, 56, 57] = []) := by
    rw [Bool.eq_iff_iff]
    simp only [decide_eq_true_eq, List.all_eq_true]
    exact (trim_dig l).symm
  obtain ⟨z, hz⟩ : ∃ z, trimS l [48, 49, 50, 51, 52, 53, 54, 55, 56, 57] = z := ⟨_, rfl⟩
  have ht : Calls Tryz.prog 143 #[.string (str l), .string ⟨#[48, 49, 50, 51, 52, 53, 54, 55, 56, 57]⟩] w fun e w' => e = .returned (.string (str z)) ∧ Below w.heap.size w w' := by
    rw [← hz]; exact ht
  rw [hb, hz, ← str_empty]
  clear hb hz
  go_enter Tryz.func130, Tryz.ntmps130
  go_wp2_with fail
  refine ht.mono ?_
  rintro e w1 ⟨rfl, hB⟩
  have HB := Lib.hid hB
  clear hB ht
  go_wp2
  go_ret
  exact ⟨rfl, HB.out⟩
theorem number_any (l : List UInt8) (w : World) (hm : l.length ≤ 140737488351232) :
    Calls Tryz.prog 107 #[.string (str l)] w fun e w' => e = .returned (wholeV (wholeD l)) ∧ Below w.heap.size w w' := by
  have hin := in_any (l.length : Int) 1 18 w
  have hs : (str l).size = l.length := str_size l
  have hs' : ((str l).size : Int) = (l.length : Int) := by rw [hs]
  by_cases h : 1 ≤ l.length ∧ l.length ≤ 18
  · rw [inB_true (by omega) (by omega)] at hin
    have hd := digits_any l w hm
    cases ha : l.all isDig with
    | false =>
      rw [ha] at hd
      rw [show wholeD l = none by unfold wholeD; rw [if_neg (by omega), ha]; rfl]
      clear ha h hm hs
      rw [← hs'] at hin
      clear hs'
      have HD := Lib.hid hd
      clear hd
      go_enter Tryz.func107, Tryz.ntmps107
      go_wp2_with fail
      refine hin.mono ?_
      rintro e w1 ⟨rfl, rfl⟩
      clear hin
      go_wp2_with fail
      refine HD.out.mono ?_
      rintro e w1 ⟨rfl, hB⟩
      have HB := Lib.hid hB
      clear hB
      go_wp2
      go_ret2
      exact ⟨rfl, HB.out⟩
    | true =>
      rw [ha] at hd
      rw [show wholeD l = some (valL l) by unfold wholeD; rw [if_neg (by omega), ha]; rfl]
      have hat := fun w => Any.strconv_Atoi Tryz.laysAtoi (str l) (valL l) (by rw [hs]; omega) (by rw [str_data]; exact atoi_dig l (by rintro rfl; simp at h) (by simpa using ha)) w
      have mixed : Tryz.prog.follows .mixedOrders = true := by kernel_rfl
      clear ha h hm hs
      rw [← hs'] at hin
      clear hs'
      have HD := Lib.hid hd
      have HA := Lib.hid hat
      clear hd hat
      obtain ⟨n, hn⟩ : ∃ n : Int, (valL l : Int) = n := ⟨_, rfl⟩
      rw [show wholeV (some (valL l)) = .tuple #[.int .i64 n, .bool true] by rw [← hn]; rfl]
      rw [hn] at HA
      clear hn
      go_enter Tryz.func107, Tryz.ntmps107
      go_wp2_with fail
      refine hin.mono ?_
      rintro e w1 ⟨rfl, rfl⟩
      clear hin
      go_wp2_with fail
      refine HD.out.mono ?_
      rintro e w1 ⟨rfl, hB⟩
      have HB := Lib.hid hB
      clear hB
      go_wp2_with fail
      refine (HA.out w1).mono ?_
      rintro e w2 ⟨rfl, t, ht⟩
      have hB2 : Below w1.heap.size w1 w2 := by rw [ht]; exact str_below _ _ _
      have HB2 := Lib.hid (HB.out.trans (hB2.mono HB.out.size))
      clear ht hB2
      go_wp2
      go_quiet_o (fail)
      go_wp2
      go_ret2
      exact ⟨rfl, below_drewN HB2.out _⟩
  · rw [inB_false (by omega)] at hin
    rw [show wholeD l = none by unfold wholeD; rw [if_pos (by omega)]]
    clear h hm hs
    rw [← hs'] at hin
    clear hs'
    go_enter Tryz.func107, Tryz.ntmps107
    go_wp2_with fail
    refine hin.mono ?_
    rintro e w1 ⟨rfl, rfl⟩
    go_wp2
    go_ret2
    exact ⟨rfl, Below.refl _ _⟩
def natO (o : Option Nat) : Int := match o with
  | some n => n
  | none => 0
theorem wholeV_eq (o : Option Nat) : wholeV o = .tuple #[.int .i64 (natO o), .bool o.isSome] := by cases o <;> rfl
theorem secD_cut (l : List UInt8) : secD l = if (cutC 46 l).2.1.all isDig then wholeD (cutC 46 l).1 else none := by
  unfold secD cutC
  by_cases h : 0 ≤ Lib.indexByte l 46
  · rw [if_pos h, if_pos h]
  · rw [if_neg h, if_neg h]
    rfl
theorem seconds_any (l : List UInt8) (w : World) (hm : l.length ≤ 140737488351232) :
    Calls Tryz.prog 108 #[.string (str l)] w fun e w' => e = .returned (wholeV (secD l)) ∧ Below w.heap.size w w' := by
  have hc := cutAt_any 46 l w hm
  obtain ⟨h1, h2⟩ := cutC_len 46 l
  rw [secD_cut]
  generalize cutC 46 l = C at hc h1 h2 ⊢
  obtain ⟨a, r, b⟩ := C
  simp only at hc h1 h2 ⊢
  have hd := fun w => digits_any r w (by omega)
  have hn := fun w => number_any a w (by omega)
  clear h1 h2 hm
  have HD := Lib.hid hd
  have HN := Lib.hid hn
  clear hd hn
  cases hr : r.all isDig with
  | false =>
    rw [hr] at HD
    clear hr
    go_enter Tryz.func108, Tryz.ntmps108
    go_wp2_with fail
    refine hc.mono ?_
    rintro e w1 ⟨rfl, n, rfl⟩
    go_wp2_with fail
    refine (HD.out _).mono ?_
    rintro e w2 ⟨rfl, hB⟩
    have HB : Hid (Below w.heap.size w w2) := Lib.hid ((below_drewN (Below.refl _ _) n).trans hB)
    clear hB
    go_wp2
    go_ret2
    exact ⟨rfl, HB.out⟩
  | true =>
    rw [hr] at HD
    clear hr
    rw [if_pos rfl, wholeV_eq]
    simp only [wholeV_eq] at HN
    generalize natO (wholeD a) = N at HN ⊢
    generalize (wholeD a).isSome = B at HN ⊢
    go_enter Tryz.func108, Tryz.ntmps108
    go_wp2_with fail
    refine hc.mono ?_
    rintro e w1 ⟨rfl, n, rfl⟩
    go_wp2_with fail
    refine (HD.out _).mono ?_
    rintro e w2 ⟨rfl, hB⟩
    have HB : Hid (Below w.heap.size w w2) := Lib.hid ((below_drewN (Below.refl _ _) n).trans hB)
    clear hB
    go_wp2_with fail
    refine (HN.out w2).mono ?_
    rintro e w3 ⟨rfl, hB⟩
    have HB3 : Hid (Below w.heap.size w w3) := Lib.hid (HB.out.trans (hB.mono HB.out.size))
    clear hB
    go_wp2
    go_ret2
    exact ⟨rfl, HB3.out⟩
/-- a text changed in place -/
theorem text_yes1 (v : List UInt8) (hv : v ≠ []) (b i : Nat) (t : TypeId) (cs : Array Value) (old : Value) (w : World) (h : Blk w b t cs) (hi : i < cs.size) (ho : cs[i]? = some old) :
    Calls Tryz.prog 104 #[.pointer (some ⟨b, i, none⟩), .string (str v)] w fun e w' => e = .returned (.tuple #[]) ∧ w' = w.setCell ⟨b, i, none⟩ (.string (str v)) := by
  have c0 := h.cell i
  rw [ho] at c0
  have f0 := h.frozen i
  have b1 : (str v).toList.isEmpty = false := by rw [str_empty]; simpa using hv
  clear h hi ho hv
  go_enter Tryz.func104, Tryz.ntmps104
  go_wp2
  go_end0
  exact ⟨rfl, rfl⟩
theorem text_no1 (a : Option Addr) (w : World) :
    Calls Tryz.prog 104 #[.pointer a, .string ⟨#[]⟩] w fun e w' => e = .returned (.tuple #[]) ∧ w = w' := by
  go_enter Tryz.func104, Tryz.ntmps104
  go_wp2
  go_end0
  exact ⟨rfl, rfl⟩
theorem changeText_any (v : List UInt8) (b i : Nat) (t : TypeId) (cs : Array Value) (old : List UInt8) (w : World) (h : Blk w b t cs) (hi : i < cs.size) (ho : cs[i]? = some (.string (str old))) :
    Calls Tryz.prog 104 #[.pointer (some ⟨b, i, none⟩), .string (str v)] w fun e w' => e = .returned (.tuple #[]) ∧ Blk w' b t (cs.set i (.string (str (textD1 v old))) hi) ∧ Kept (oneB b) w w' := by
  by_cases hv : v = []
  · subst hv
    refine (text_no1 _ w).mono ?_
    rintro e w' ⟨rfl, rfl⟩
    refine ⟨rfl, ?_, Kept.refl _ _⟩
    have e : cs.set i (.string (str (textD1 [] old))) hi = cs := by
      apply Array.ext (by simp)
      intro j h1 h2
      rw [Array.getElem_set]
      split
      · rename_i hij
        subst hij
        rw [Array.getElem?_eq_getElem hi] at ho
        exact (Option.some.inj ho).symm
      · rfl
    rw [e]
    exact h
  · refine (text_yes1 v hv b i t cs _ w h hi ho).mono ?_
    rintro e w' ⟨rfl, rfl⟩
    refine ⟨rfl, ?_, (Kept.refl (oneB b) _).setCell (a := ⟨b, i, none⟩) (.inr rfl) _⟩
    rw [show textD1 v old = v from if_neg hv]
    exact h.set i _ hi
/-- a number changed in place, as it is read by a function of numbers, or of times -/
def readV (time : Bool) : Value := .func (.func (if time then 108 else 107)) #[] #[]
theorem num_empty (time : Bool) (a : Option Addr) (w : World) :
    Calls Tryz.prog 106 #[.pointer a, .string ⟨#[]⟩, readV time] w fun e w' => e = .returned (.bool true) ∧ w = w' := by
  go_enter Tryz.func106, Tryz.ntmps106
  go_wp2
  go_ret
  exact ⟨rfl, rfl⟩
def readD (time : Bool) (l : List UInt8) : Option Nat := if time then secD l else wholeD l
theorem num_read (time : Bool) (v : List UInt8) (hv : v ≠ []) (hm : v.length ≤ 140737488351232) (b i : Nat) (t : TypeId) (cs : Array Value) (old : Value) (w : World) (hb : Blk w b t cs) (hi : i < cs.size) (ho : cs[i]? = some old) (hold : ∃ k, old = .int .i64 k) :
    Calls Tryz.prog 106 #[.pointer (some ⟨b, i, none⟩), .string (str v), readV time] w fun e w' => e = .returned (.bool (readD time v).isSome) ∧ Blk w' b t (cs.set i (.int .i64 (natO (readD time v))) hi) ∧ Kept (oneB b) w w' := by
  obtain ⟨k, rfl⟩ := hold
  have b1 : (str v).toList.isEmpty = false := by rw [str_empty]; simpa using hv
  have hs := fun w => seconds_any v w hm
  have hn := fun w => number_any v w hm
  have HB := Lib.hid hb
  have HO := Lib.hid ho
  clear hb ho hv hm
  cases time with
  | false =>
    rw [show readV false = .func (.func 107) #[] #[] from rfl, show readD false v = wholeD v from rfl]
    simp only [wholeV_eq] at hn
    generalize natO (wholeD v) = N at hn ⊢
    generalize (wholeD v).isSome = B at hn ⊢
    have HN := Lib.hid hn
    clear hn hs
    go_enter Tryz.func106, Tryz.ntmps106
    go_wp2_with fail
    refine (HN.out w).mono ?_
    rintro e w1 ⟨rfl, hB⟩
    have hb1 := HB.out.below hB HB.out.lt
    have c0 := hb1.cell i
    rw [HO.out] at c0
    have f0 := hb1.frozen i
    have H1 := Lib.hid (And.intro hb1 hB)
    clear hb1 hB
    go_wp2
    go_ret
    exact ⟨rfl, H1.out.1.set i _ hi, (Kept.of_below H1.out.2 (oneB b)).setCell (a := ⟨b, i, none⟩) (.inr rfl) _⟩
  | true =>
    rw [show readV true = .func (.func 108) #[] #[] from rfl, show readD true v = secD v from rfl]
    simp only [wholeV_eq] at hs
    generalize natO (secD v) = N at hs ⊢
    generalize (secD v).isSome = B at hs ⊢
    have HN := Lib.hid hs
    clear hn hs
    go_enter Tryz.func106, Tryz.ntmps106
    go_wp2_with fail
    refine (HN.out w).mono ?_
    rintro e w1 ⟨rfl, hB⟩
    have hb1 := HB.out.below hB HB.out.lt
    have c0 := hb1.cell i
    rw [HO.out] at c0
    have f0 := hb1.frozen i
    have H1 := Lib.hid (And.intro hb1 hB)
    clear hb1 hB
    go_wp2
    go_ret
    exact ⟨rfl, H1.out.1.set i _ hi, (Kept.of_below H1.out.2 (oneB b)).setCell (a := ⟨b, i, none⟩) (.inr rfl) _⟩
/-- the number that is left, and whether it is one -/
theorem changeNumber_any (time : Bool) (v : List UInt8) (hm : v.length ≤ 140737488351232) (b i : Nat) (t : TypeId) (cs : Array Value) (old : Int) (w : World) (hb : Blk w b t cs) (hi : i < cs.size) (ho : cs[i]? = some (.int .i64 old)) :
    Calls Tryz.prog 106 #[.pointer (some ⟨b, i, none⟩), .string (str v), readV time] w fun e w' => e = .returned (.bool (numD1 time v old).isSome) ∧ Blk w' b t (cs.set i (.int .i64 ((numD1 time v old).getD 0)) hi) ∧ Kept (oneB b) w w' := by
  by_cases hv : v = []
  · subst hv
    refine (num_empty time _ w).mono ?_
    rintro e w' ⟨rfl, rfl⟩
    refine ⟨rfl, ?_, Kept.refl _ _⟩
    have e : cs.set i (.int .i64 ((numD1 time [] old).getD 0)) hi = cs := by
      apply Array.ext (by simp)
      intro j h1 h2
      rw [Array.getElem_set]
      split
      · rename_i hij
        subst hij
        rw [Array.getElem?_eq_getElem hi] at ho
        exact (Option.some.inj ho).symm
      · rfl
    rw [e]
    exact hb
  · refine (num_read time v hv hm b i t cs _ w hb hi ho ⟨_, rfl⟩).mono ?_
    rintro e w' ⟨rfl, h1, h2⟩
    have e1 : numD1 time v old = Option.map Int.ofNat (readD time v) := if_neg hv
    have e2 : (numD1 time v old).getD 0 = natO (readD time v) := by rw [e1]; cases readD time v <;> rfl
    rw [e2, e1, Option.isSome_map]
    exact ⟨rfl, h1, h2⟩
end Go.Proofs.YtdjedimjhogdoaaGreatDoor.Attr
end
section
namespace Go.Proofs.YtdjedimjhogdoaaGreatDoor.Attr
open Go.ChangeShapes Go.WideShapes Go.ChangeAt Go.RowKit Go.Shelf Go.Proofs.YtdjedimjhogdoaaGreatDoor.Base Go.Proofs.YtdjedimjhogdoaaGreatDoor.Byt Go.Proofs.YtdjedimjhogdoaaGreatDoor.Txt Go.Proofs.YtdjedimjhogdoaaGreatDoor.Rec Go.Proofs.YtdjedimjhogdoaaGreatDoor.Bk Go.Lib
set_option linter.unusedVariables false
set_option maxRecDepth 100000
attribute [local go_sem] Oper.semAt_some

def recC (k v : List UInt8) : Array Value := #[.string (str k), .string (str v)]
def lastV (rs : RecL) (k : List UInt8) : Value := match lastD rs k with
  | some v => .tuple #[.agg (recC k v), .bool true]
  | none => .tuple #[.agg (recC [] []), .bool false]
theorem lastD_rev {rs pre : RecL} {x : List UInt8 × List UInt8} {rest : RecL} {k : List UInt8} (h : rs.reverse = pre ++ x :: rest) (hp : ∀ r ∈ pre, r.1 ≠ k) (hx : x.1 = k) : lastD rs k = some x.2 := by
  have e : rs = rest.reverse ++ x :: pre.reverse := by
    have := congrArg List.reverse h
    rw [List.reverse_reverse, List.reverse_append, List.reverse_cons, List.append_assoc] at this
    exact this
  rw [e, lastD_app, lastD, lastD_none (rs := pre.reverse) fun r hr => hp r (List.mem_reverse.1 hr)]
  simp [hx]
theorem ret_rec (tmps : Array Value) (w : World) (b0 b1 : Nat) (a b : ByteArray) (o : Bool) (h0 : tmps[4]? = some (.pointer (some ⟨b0, 0, none⟩))) (h1 : tmps[5]? = some (.pointer (some ⟨b1, 0, none⟩)))
    (c0 : Blk w b0 53 #[.string a, .string b]) (c1 : Blk w b1 4 #[.bool o]) :
    (results Tryz.f129 tmps).run Tryz.prog w = .ok (.tuple #[.agg #[.string a, .string b], .bool o]) w := by
  have d0 := c0.cell 0
  have d1 := c0.cell 1
  have d2 := c1.cell 0
  simp at d0 d1 d2
  simp [results, Tryz.f129, go_sem, h0, h1, d0, d1, d2]
set_option maxHeartbeats 2000000 in
theorem last_any (k : List UInt8) (p : Option Addr) (n c : Nat) (rs : RecL) (w : World) (hn : n ≤ 4611686018427387904) (h : RecsAt w p n rs) :
    Calls Tryz.prog 129 #[.string (str k), .slice p n c] w fun e w' => e = .returned (lastV rs k) ∧ Below w.heap.size w w' := by
  obtain rfl : rs.length = n := h.1
  have H := Lib.hid h
  clear h
  refine (callsIn_wide (n := 3)).1 ?_
  refine callsIn_of_wp_marks Tryz.func129 rfl trivial ?_ rfl
  simp only [Tryz.ntmps129, List.size_toArray, List.length_cons, List.length_nil, Nat.reduceAdd, Nat.reduceSub, Array.replicate_succ, Array.replicate_zero, List.push_toArray, List.append_toArray, List.nil_append, List.cons_append]
  gi_wp2_with fail
  refine ⟨trivial, (callsIn_wide.2 (backward_any _ _ _ _)).mono ?_⟩
  rintro e w' ⟨rfl, rfl⟩
  gi_wp2_with fail
  have bK : Blk _ w.heap.size 9 #[.string (str k)] := (((Blk.new w 9 #[.string (str k)]).alloc (.cells #[.string ⟨#[]⟩, .string ⟨#[]⟩] 53)).alloc (.cells #[.bool false] 4)).alloc (.cells #[.slice p rs.length c] 73)
  have bR := ((Blk.new (w.alloc (.cells #[.string (str k)] 9)) 53 #[.string ⟨#[]⟩, .string ⟨#[]⟩]).alloc (.cells #[.bool false] 4)).alloc (.cells #[.slice p rs.length c] 73)
  have bO := (Blk.new ((w.alloc (.cells #[.string (str k)] 9)).alloc (.cells #[.string ⟨#[]⟩, .string ⟨#[]⟩] 53)) 4 #[.bool false]).alloc (.cells #[.slice p rs.length c] 73)
  have bS := Blk.new (((w.alloc (.cells #[.string (str k)] 9)).alloc (.cells #[.string ⟨#[]⟩, .string ⟨#[]⟩] 53)).alloc (.cells #[.bool false] 4)) 73 #[.slice p rs.length c]
  have hB0 : Below w.heap.size w ((((w.alloc (.cells #[.string (str k)] 9)).alloc (.cells #[.string ⟨#[]⟩, .string ⟨#[]⟩] 53)).alloc (.cells #[.bool false] 4)).alloc (.cells #[.slice p rs.length c] 73)) :=
    ((((Below.refl _ w).alloc (Nat.le_refl _) _).alloc (by simp) _).alloc (by simp; omega) _).alloc (by simp; omega) _
  have hsz : ((((w.alloc (.cells #[.string (str k)] 9)).alloc (.cells #[.string ⟨#[]⟩, .string ⟨#[]⟩] 53)).alloc (.cells #[.bool false] 4)).alloc (.cells #[.slice p rs.length c] 73)).heap.size = w.heap.size + 4 := by simp
  simp only [World.size_alloc] at bR bO bS
  obtain ⟨W0, hW0⟩ : ∃ W0, (((w.alloc (.cells #[.string (str k)] 9)).alloc (.cells #[.string ⟨#[]⟩, .string ⟨#[]⟩] 53)).alloc (.cells #[.bool false] 4)).alloc (.cells #[.slice p rs.length c] 73) = W0 := ⟨_, rfl⟩
  rw [hW0] at bK bR bO bS hB0 hsz ⊢
  clear hW0
  have HSZ := Lib.hid hsz
  have HB0 := Lib.hid hB0
  have hR0 := H.out.below hB0
  refine wpIn_rangeFunc_ownH rfl (by omega) (gf := 152) (lb := #[.pointer (some ⟨w.heap.size + 1 + 1 + 1, 0, none⟩)]) rfl trivial (enters_of Tryz.func152 (by kernel_rfl) rfl)
    (back_stops _ (by omega) (w.heap.size + 1 + 1 + 1) p c rs hn W0 (by omega) (bS.cell 0) hR0) belowK_t (belowK_b (Nat.le_refl _)) (Below.refl _ _) (fun _ => rfl)
    (fun pre W => (Blk W w.heap.size 9 #[.string (str k)] ∧ Blk W (w.heap.size + 1) 53 #[.string ⟨#[]⟩, .string ⟨#[]⟩] ∧ Blk W (w.heap.size + 1 + 1) 4 #[.bool false] ∧ ∀ x ∈ pre, x.2.1 ≠ k) ∧ Below W0.heap.size W0 W)
    (fun c pre W => (c = .ret ∧ ∃ pre0 x, pre = pre0 ++ [x] ∧ (∀ y ∈ pre0, y.2.1 ≠ k) ∧ x.2.1 = k ∧ Blk W (w.heap.size + 1) 53 #[.string (str x.2.1), .string (str x.2.2)] ∧ Blk W (w.heap.size + 1 + 1) 4 #[.bool true]) ∧ Below w.heap.size w W)
    (OwnFrom.and (Own.from (fun s A B row hs hg hr => ⟨hs.1.kept hg hr, hs.2.1.kept hg hr, hs.2.2.1.kept hg hr, hs.2.2.2⟩) _) (ownFrom_below (Nat.le_refl _) (Nat.le_refl _)))
    (fun c => OwnFrom.and (Own.from (fun s A B row hs hg hr => by obtain ⟨h0, pre0, x, h1, h2, h3, h4, h5⟩ := hs; exact ⟨h0, pre0, x, h1, h2, h3, h4.kept hg hr, h5.kept hg hr⟩) _) (ownFrom_below (Nat.le_refl _) (by omega)))
    ⟨⟨bK, bR, bO, by simp⟩, Below.refl _ _⟩
    (fun x a' W => ∃ Bx, W0.heap.size ≤ Bx ∧ Blk W Bx 53 #[.string (str x.2.1), .string (str x.2.2)] ∧ a' = { tmps := #[.string (str k), .slice p rs.length c, .pointer (some ⟨w.heap.size, 0, none⟩), undef, .pointer (some ⟨w.heap.size + 1, 0, none⟩), .pointer (some ⟨w.heap.size + 1 + 1, 0, none⟩), undef, .pointer (some ⟨Bx, 0, none⟩), .slice p rs.length c, .func (.func 152) #[] #[.pointer (some ⟨w.heap.size + 1 + 1 + 1, 0, none⟩)], .int .i64 (x.1 : Int), .agg #[.string (str x.2.1), .string (str x.2.2)], undef, undef, undef, undef, undef, undef], defers := [] })
    (fun x a' _ X Y row hs hg hr => by obtain ⟨Bx, h1, h2, h3⟩ := hs; exact ⟨Bx, h1, h2.kept hg (fun r e => (hr r e).2), h3⟩)
    ?assign ?body ?done ?stop
  case assign =>
    rintro l pre x W K ⟨⟨b1, b2, b3, hx⟩, hB1⟩ hK
    have hs := hB1.size
    have HKP := Lib.hid hK
    have HI := Lib.hid (And.intro (And.intro b1 (And.intro b2 (And.intro b3 hx))) hB1)
    clear hK b1 b2 b3 hx hB1
    simp only [encI]
    gi_wp2
    obtain ⟨⟨b1, b2, b3, hx⟩, hB1⟩ := HI.out
    exact HKP.out _ _ ((KeepsOthers.alloc _ _).from _) ((Below.refl _ W).alloc hs _) ⟨⟨b1.alloc _, b2.alloc _, b3.alloc _, hx⟩, hB1.alloc hs _⟩ ⟨W.heap.size, hs, Blk.new _ _ _, rfl⟩
  case body =>
    rintro l pre x a' W hl hr ⟨⟨b1, b2, b3, hx⟩, hB1⟩ ⟨Bx, hBx, bX, rfl⟩ hlt
    have hs := hB1.size
    have c0 := b1.cell 0
    have d0 := bX.cell 0
    have d1 := bX.cell 1
    simp only [List.getElem?_toArray, List.getElem?_cons_zero, List.getElem?_cons_succ] at c0 d0 d1
    by_cases hk : x.2.1 = k
    · have e1 : ((str x.2.1).toList == (str k).toList) = true := by rw [str_toList, str_toList]; simpa using hk
      have f0 := b2.frozen 0
      have f1 := b2.frozen 1
      have r0 := b2.cell 0
      have r1 := b2.cell 1
      have f2 := b3.frozen 0
      have r2 := b3.cell 0
      simp only [List.getElem?_toArray, List.getElem?_cons_zero, List.getElem?_cons_succ] at r0 r1 r2
      have HI := Lib.hid (And.intro (And.intro b1 (And.intro b2 (And.intro b3 hx))) hB1)
      have HK := Lib.hid hk
      clear hk b1 b2 b3 hx hB1 bX hR0 bK bR bO bS hB0
      gi_wp2
      obtain ⟨⟨b1, b2, b3, hx⟩, hB1⟩ := HI.out
      have hBw : Below w.heap.size w W := HB0.out.trans (hB1.mono (by have := HSZ.out; omega))
      exact ⟨(((KeepsOthers.setCell _ _ _).trans (KeepsOthers.setCell _ _ _)).trans (KeepsOthers.setCell _ _ _)).from _,
        ⟨rfl, pre, x, rfl, hx, HK.out, ((b2.set 0 _ (by decide)).set 1 _ (by simp)).other (by omega) _, ((b3.other (by omega) _).other (by omega) _).set 0 _ (by decide)⟩,
        ((hBw.setCell (p := ⟨w.heap.size + 1, 0, none⟩) (by simp) _).setCell (p := ⟨w.heap.size + 1, 1, none⟩) (by simp) _).setCell (p := ⟨w.heap.size + 1 + 1, 0, none⟩) (by simp; omega) _⟩
    · have e1 : ((str x.2.1).toList == (str k).toList) = false := by rw [str_toList, str_toList]; simpa using hk
      have HI := Lib.hid (And.intro (And.intro b1 (And.intro b2 (And.intro b3 hx))) hB1)
      have HK := Lib.hid hk
      clear hk b1 b2 b3 hx hB1 bX hR0 bK bR bO bS hB0
      gi_wp2
      obtain ⟨⟨b1, b2, b3, hx⟩, hB1⟩ := HI.out
      exact ⟨KeepsFrom.refl _ _, Below.refl _ _, ⟨b1, b2, b3, fun y hy => by
        rcases List.mem_append.1 hy with hy | hy
        · exact hx y hy
        · rw [List.mem_singleton.1 hy]; exact HK.out⟩, hB1⟩
  case done =>
    rintro D ys W hD rfl ⟨⟨b1, b2, b3, hx⟩, hB1⟩ hK
    have f0 := b2.frozen 0
    have f1 := b2.frozen 1
    have r0 := b2.cell 0
    have r1 := b2.cell 1
    have f2 := b3.frozen 0
    have r2 := b3.cell 0
    simp only [List.getElem?_toArray, List.getElem?_cons_zero, List.getElem?_cons_succ] at r0 r1 r2
    have HI := Lib.hid (And.intro (And.intro b1 (And.intro b2 (And.intro b3 hx))) hB1)
    have HK := Lib.hid hK
    clear hK b1 b2 b3 hx hB1 hR0 bK bR bO bS
    gi_wp2
    obtain ⟨⟨b1, b2, b3, hx⟩, hB1⟩ := HI.out
    have hBw : Below w.heap.size w W := HB0.out.trans (hB1.mono (by have := HSZ.out; omega))
    have hK' := (((KeepsOthers.setCell W ⟨w.heap.size + 1, 0, none⟩ (.string ⟨#[]⟩)).trans (KeepsOthers.setCell _ ⟨w.heap.size + 1, 1, none⟩ (.string ⟨#[]⟩))).trans (KeepsOthers.setCell _ ⟨w.heap.size + 1 + 1, 0, none⟩ (.bool false))).same D _ HK.out rfl
    refine ⟨by simp, .inl ⟨_, _, rfl, run_takeDeferred hK', ?_⟩⟩
    have k0 := (((b2.set 0 (.string ⟨#[]⟩) (by decide)).set 1 (.string ⟨#[]⟩) (by decide)).other (b' := w.heap.size + 1 + 1) (i := 0) (by omega) (.bool false)).kept (grownBy_putObj' _ D (.deferred none)) (fun r e => by cases e; exact ⟨_, hK', rfl⟩)
    have k1 := (((b3.other (b' := w.heap.size + 1) (i := 0) (by omega) (.string ⟨#[]⟩)).other (b' := w.heap.size + 1) (i := 1) (by omega) (.string ⟨#[]⟩)).set 0 (.bool false) (by decide)).kept (grownBy_putObj' _ D (.deferred none)) (fun r e => by cases e; exact ⟨_, hK', rfl⟩)
    have hv : lastV rs k = .tuple #[.agg #[.string ⟨#[]⟩, .string ⟨#[]⟩], .bool false] := by
      unfold lastV
      rw [lastD_none fun r hr => ?_]
      · rfl
      · have : r ∈ (backTo rs rs.length).map (·.2) := by rw [backTo_all]; exact List.mem_reverse.2 hr
        obtain ⟨y, hy, rfl⟩ := List.mem_map.1 this
        exact hx y hy
    rw [hv]
    exact ⟨_, ret_rec _ _ (w.heap.size + 1) (w.heap.size + 1 + 1) ⟨#[]⟩ ⟨#[]⟩ false rfl rfl k0 k1, rfl,
      (((hBw.setCell (p := ⟨w.heap.size + 1, 0, none⟩) (by simp) _).setCell (p := ⟨w.heap.size + 1, 1, none⟩) (by simp) _).setCell (p := ⟨w.heap.size + 1 + 1, 0, none⟩) (by simp; omega) _).trans (belowK_b (w := w) (Nat.le_refl _) _ D _ _ (by have := HSZ.out; omega) hK' rfl rfl)⟩
  case stop =>
    rintro D c pre W hD hpre ⟨⟨rfl, pre0, x, rfl, h1, h2, b2, b3⟩, hB⟩ hK
    have HI := Lib.hid (And.intro b2 (And.intro b3 hB))
    have HK := Lib.hid hK
    clear b2 b3 hB hK
    gi_wp2
    obtain ⟨b2, b3, hB⟩ := HI.out
    have hK' := HK.out
    refine ⟨by simp, .inl ⟨_, _, rfl, run_takeDeferred hK', ?_⟩⟩
    have k0 := b2.kept (grownBy_putObj' _ D (.deferred none)) (fun r e => by cases e; exact ⟨_, hK', rfl⟩)
    have k1 := b3.kept (grownBy_putObj' _ D (.deferred none)) (fun r e => by cases e; exact ⟨_, hK', rfl⟩)
    have hv : lastV rs k = .tuple #[.agg #[.string (str x.2.1), .string (str x.2.2)], .bool true] := by
      obtain ⟨rest, hrest⟩ := hpre
      have e := backTo_all rs
      rw [← hrest, List.map_append, List.map_append, List.map_singleton, List.append_assoc, List.singleton_append] at e
      unfold lastV
      rw [lastD_rev e.symm (fun r hr => by obtain ⟨y, hy, rfl⟩ := List.mem_map.1 hr; exact h1 y hy) h2, ← h2]
      rfl
    rw [hv]
    exact ⟨_, ret_rec _ _ (w.heap.size + 1) (w.heap.size + 1 + 1) _ _ true rfl rfl k0 k1, rfl, hB.trans (belowK_b (w := w) (Nat.le_refl _) _ D _ _ (by have := HSZ.out; omega) hK' rfl rfl)⟩
end Go.Proofs.YtdjedimjhogdoaaGreatDoor.Attr
end
section
namespace Go.Proofs.YtdjedimjhogdoaaGreatDoor.Attr
open Go.ChangeShapes Go.WideShapes Go.ChangeAt Go.RowKit Go.Shelf Go.Proofs.YtdjedimjhogdoaaGreatDoor.Base Go.Proofs.YtdjedimjhogdoaaGreatDoor.Byt Go.Proofs.YtdjedimjhogdoaaGreatDoor.Txt Go.Proofs.YtdjedimjhogdoaaGreatDoor.Rec Go.Proofs.YtdjedimjhogdoaaGreatDoor.Bk Go.Proofs.YtdjedimjhogdoaaGreatDoor.Mk Go.Lib
set_option linter.unusedVariables false
set_option maxRecDepth 100000

abbrev Glob := List UInt8 → Option (List UInt8)
def recF (F : Glob) : List UInt8 → Option Value := fun k => (F k).map fun v => .agg (recC k v)
/-- block g is a state, its map is mb; F is what is global -/
def St (w : World) (g : Nat) (mb : Option Nat) (F : Glob) : Prop :=
  Blk w g 96 #[.map mb] ∧ (mb = none → F = noneF) ∧ ∀ B, mb = some B → MapK strK w B (recF F)
/-- a state, or none -/
def StP (w : World) (p : Option Addr) (F : Glob) : Prop := (p = none ∧ F = noneF) ∨ ∃ g mb, p = some ⟨g, 0, none⟩ ∧ St w g mb F
/-- the blocks of a state -/
def stB (g : Nat) (mb : Option Nat) : Nat → Prop := fun k => k = g ∨ mb = some k
section
variable {w w' : World} {g : Nat} {mb : Option Nat} {F : Glob} {p : Option Addr}
theorem St.lt (h : St w g mb F) : g < w.heap.size := h.1.lt
theorem St.ltB (h : St w g mb F) {B : Nat} (hB : mb = some B) : B < w.heap.size := (h.2.2 B hB).lt
theorem St.kept {S : Nat → Prop} (h : St w g mb F) (hk : Kept S w w') (hn : ∀ k, stB g mb k → ¬ S k) : St w' g mb F :=
  ⟨h.1.keptS hk (hn g (.inl rfl)), h.2.1, fun B hB => (h.2.2 B hB).kept hk (hn B (.inr hB))⟩
theorem St.below (h : St w g mb F) (hb : Below w.heap.size w w') : St w' g mb F := h.kept (Kept.of_below hb noneB) (fun _ _ => id)
theorem StP.below (h : StP w p F) (hb : Below w.heap.size w w') : StP w' p F := h.imp id fun ⟨g, mb, hp, hs⟩ => ⟨g, mb, hp, hs.below hb⟩
theorem St.new (w : World) : St (w.alloc (.cells #[.map none] 96)) w.heap.size none noneF := ⟨Blk.new w _ _, fun _ => rfl, fun _ h => by cases h⟩
theorem St.ptr (h : St w g mb F) : StP w (some ⟨g, 0, none⟩) F := .inr ⟨g, mb, rfl, h⟩
theorem StP.nil (w : World) : StP w none noneF := .inl ⟨rfl, rfl⟩
/-- records lie in no block of a state -/
theorem recs_off {p : Option Addr} {n : Nat} {rs : RecL} (h : St w g mb F) (hr : RecsAt w p n rs) (h0 : 0 < n) {a : Addr} (ha : p = some a) : ¬ stB g mb a.block := by
  obtain ⟨b, o, rfl, hb, hc⟩ := hr.2 h0
  cases ha
  have c0 := (hc 0 h0).1
  rintro (e | e)
  · subst e
    rw [h.1.cell] at c0
    rcases Nat.eq_zero_or_pos o with rfl | ho
    · simp at c0
    · rw [Array.getElem?_eq_none (by simp; omega)] at c0; cases c0
  · obtain ⟨es, clock, hm, _⟩ := h.2.2 _ e
    simp [World.cell?, hm] at c0
theorem recsAt_kept {S : Nat → Prop} {p : Option Addr} {n : Nat} {rs : RecL} (hr : RecsAt w p n rs) (hk : Kept S w w') (hn : 0 < n → ∀ a, p = some a → ¬ S a.block) : RecsAt w' p n rs := by
  refine ⟨hr.1, fun h0 => ?_⟩
  obtain ⟨b, o, rfl, hb, hc⟩ := hr.2 h0
  have e := hk.block b hb (hn h0 _ rfl)
  exact ⟨b, o, rfl, Nat.lt_of_lt_of_le hb hk.size, fun i hi => ⟨by rw [World.cell?_of_block e]; exact (hc i hi).1, by rw [World.cell?_of_block e]; exact (hc i hi).2⟩⟩
theorem recZero (w : World) : (zeroValue 53).run Tryz.prog w = .ok (.agg #[.string ⟨#[]⟩, .string ⟨#[]⟩]) w := Tryz.zeroValue53 w
theorem recValue (w : World) (a b : ByteArray) : (Instr.field 53 (.agg #[.string a, .string b]) 1).run Tryz.prog w = .ok (.string b) w := by
  kernel_rfl
theorem st_look (h : St w g mb F) (k : List UInt8) :
    ∃ x : ByteArray, (Instr.lookup 94 (.map mb) (.string (str k)) false).run Tryz.prog w = .ok (.agg #[.string x, .string (str ((F k).getD []))]) w := by
  cases mb with
  | none =>
    refine ⟨⟨#[]⟩, ?_⟩
    rw [h.2.1 rfl]
    exact look_nil (K := strK) Tryz.underlying94 Tryz.underlying9 recZero k w
  | some B =>
    have hl := (h.2.2 B rfl).look Tryz.underlying94 Tryz.underlying9 recZero k
    cases hf : F k with
    | none =>
      refine ⟨⟨#[]⟩, ?_⟩
      rw [show recF F k = none by unfold recF; rw [hf]; rfl] at hl
      exact hl
    | some v =>
      refine ⟨str k, ?_⟩
      rw [show recF F k = some (.agg (recC k v)) by unfold recF; rw [hf]; rfl] at hl
      exact hl
end
set_option maxHeartbeats 1000000 in
theorem value_any (s : Option Addr) (F : Glob) (k : List UInt8) (p : Option Addr) (n c : Nat) (rs : RecL) (w : World) (hs : StP w s F) (hn : n ≤ 4611686018427387904) (h : RecsAt w p n rs) :
    Calls Tryz.prog 105 #[.pointer s, .string (str k), .slice p n c] w fun e w' => e = .returned (.string (str (valueD F rs k))) ∧ Below w.heap.size w w' := by
  have hl := last_any k p n c rs w hn h
  have HS := Lib.hid hs
  clear hs h hn
  unfold valueD
  cases hr : lastD rs k with
  | some v =>
    rw [show lastV rs k = .tuple #[.agg #[.string (str k), .string (str v)], .bool true] by unfold lastV; rw [hr]; rfl] at hl
    clear hr
    go_enter Tryz.func105, Tryz.ntmps105
    go_wp2_with fail
    refine hl.mono ?_
    rintro e w1 ⟨rfl, hB⟩
    have HB := Lib.hid hB
    clear hB hl
    go_wp2
    go_ret
    exact ⟨rfl, HB.out.alloc HB.out.size _⟩
  | none =>
    rw [show lastV rs k = .tuple #[.agg #[.string ⟨#[]⟩, .string ⟨#[]⟩], .bool false] by unfold lastV; rw [hr]; rfl] at hl
    clear hr
    rcases HS.out with ⟨rfl, rfl⟩ | ⟨g, mb, rfl, hst⟩
    · go_enter Tryz.func105, Tryz.ntmps105
      go_wp2_with fail
      refine hl.mono ?_
      rintro e w1 ⟨rfl, hB⟩
      have HB := Lib.hid hB
      clear hB hl
      go_wp2
      go_ret
      exact ⟨rfl, HB.out.alloc HB.out.size _⟩
    · have HST := Lib.hid hst
      clear hst
      go_enter Tryz.func105, Tryz.ntmps105
      go_wp2_with fail
      refine hl.mono ?_
      rintro e w1 ⟨rfl, hB⟩
      have hst2 := HST.out.below (hB.alloc hB.size (.cells #[.string ⟨#[]⟩, .string ⟨#[]⟩] 53))
      obtain ⟨a, hlook⟩ := st_look hst2 k
      have c0 := hst2.1.cell 0
      simp only [List.getElem?_toArray, List.getElem?_cons_zero] at c0
      have HB := Lib.hid hB
      have hfld := fun w => recValue w a (str ((F k).getD []))
      clear hB hl hst2
      go_wp2
      go_ret
      exact ⟨rfl, HB.out.alloc HB.out.size _⟩
theorem global_nil (p : Option Addr) (n c : Nat) (w : World) :
    Calls Tryz.prog 82 #[.pointer none, .slice p n c] w fun e w' => e = .returned (.tuple #[]) ∧ w = w' := by
  go_enter Tryz.func82, Tryz.ntmps82
  go_wp2
  refine bodyPost_ret (results_none rfl _ _ _) rfl ?_
  exact ⟨rfl, rfl⟩
/-- what Global leaves -/
def GlobPost (w : World) (g : Nat) (mb : Option Nat) (F : Glob) (rs : RecL) (e : Ending) (w' : World) : Prop :=
  e = .returned (.tuple #[]) ∧ ∃ B, St w' g (some B) (moreF F rs) ∧ Kept (stB g mb) w w' ∧ (mb = some B ∨ w.heap.size ≤ B)
theorem recF_more (F : Glob) (rs : RecL) (k v : List UInt8) : (fun y => if y = k then some (Value.agg (recC k v)) else recF (moreF F rs) y) = recF (moreF F (rs ++ [(k, v)])) := by
  funext y
  rw [moreF_snoc]
  unfold recF
  by_cases h : y = k
  · subst h; simp
  · simp [h]
theorem take_one (rs : RecL) (j : Nat) (hj : j < rs.length) : rs.take (j + 1) = rs.take j ++ [rs.getD j ([], [])] := by
  rw [List.take_add_one]
  simp [List.getD, hj]
theorem St.ne {w : World} {g B : Nat} {F : Glob} (h : St w g (some B) F) : ¬ oneB B g := fun e => by
  obtain ⟨es, clock, hm, _⟩ := h.2.2 B rfl
  have e : g = B := e
  have h1 := h.1
  unfold Blk at h1
  rw [e, hm] at h1
  cases h1
set_option maxHeartbeats 2000000 in
/-- the state has a map -/
theorem global_map (g B : Nat) (F : Glob) (p : Option Addr) (n c : Nat) (rs : RecL) (w : World) (hs : St w g (some B) F) (hn : n ≤ 4611686018427387904) (h : RecsAt w p n rs) :
    Calls Tryz.prog 82 #[.pointer (some ⟨g, 0, none⟩), .slice p n c] w (GlobPost w g (some B) F rs) := by
  have HS := Lib.hid hs
  have HR := Lib.hid h
  have HL := Lib.hid h.1
  have c0 := hs.1.cell 0
  simp only [List.getElem?_toArray, List.getElem?_cons_zero] at c0
  have HF : Hid (∀ wr, Kept (stB g (some B)) w wr → Kept (stB g (some B)) w wr) := Lib.hid (fun _ h => h)
  have HBB : Hid (some B = some B ∨ w.heap.size ≤ B) := Lib.hid (.inl rfl)
  clear hs h
  have hem := fun w => run_eql_map_nil (P := Tryz.prog) w 94 _ _ (some B) Tryz.underlying94
  simp only [Option.isNone_some] at hem
  go_enter Tryz.func82, Tryz.ntmps82
  go_wp2_with fail
  clear c0 hem
  go_loopw [19] (fun i wr => ∃ (j : Nat), j ≤ n ∧ i = .int .i64 (j : Int) ∧ Hid (St wr g (some B) (moreF F (rs.take j)) ∧ RecsAt wr p n rs ∧ Kept (stB g (some B)) w wr)) (fun i _ => n - (RowKit.intOf i).toNat)
  case atStart => exact ⟨0, Nat.zero_le _, rfl, Lib.hid ⟨by rw [List.take_zero, moreF_nil]; exact HS.out, HR.out, Kept.refl _ _⟩⟩
  case round =>
    obtain ⟨j, hj, rfl, hI⟩ := hrel
    by_cases hlt : j < n
    · obtain ⟨hst, hrs, hk⟩ := hI.out
      have hltz : (j : Int) < (n : Int) := by omega
      obtain ⟨b, o, rfl, hb, hc⟩ := hrs.2 (by omega)
      obtain ⟨x0, x1⟩ := hc j hlt
      obtain ⟨⟨rk, rv⟩, hr⟩ : ∃ u, rs.getD j ([], []) = u := ⟨_, rfl⟩
      rw [hr, Nat.mul_comm] at x0 x1
      simp only at x0 x1
      have hst2 := hst.below ((Below.refl _ wr).alloc (Nat.le_refl _) (.cells #[.string (str rk), .string (str rv)] 53))
      have hrs2 := hrs.below ((Below.refl _ wr).alloc (Nat.le_refl _) (.cells #[.string (str rk), .string (str rv)] 53))
      have hk2 := hk.alloc (.cells #[.string (str rk), .string (str rv)] 53)
      have d0 := hst2.1.cell 0
      simp only [List.getElem?_toArray, List.getElem?_cons_zero] at d0
      obtain ⟨r0, r1⟩ := cells2 wr 53 (.string (str rk)) (.string (str rv))
      have HI := Lib.hid (And.intro hst2 (And.intro hrs2 hk2))
      have HRR := Lib.hid hr
      clear hst hrs hk hb hc hr hst2 hrs2 hk2 hI
      go_wp2_with fail
      obtain ⟨w4, hw4⟩ : ∃ w4, wr.alloc (.cells #[.string (str rk), .string (str rv)] 53) = w4 := ⟨_, rfl⟩
      rw [hw4] at d0 HI r0 r1 ⊢
      clear hw4 x0 x1
      go_still_tail 7, (by kernel_rfl)
      refine wpList_putK (K := strK) rfl (.tmp 26) (.tmp 28) (.tmp 29) rfl Tryz.underlying94 Tryz.underlying9 B ((HI.out.1.2.2 B rfl).kept (Kept.refl noneB w4).drew id) rfl rk rfl (.agg (recC rk rv)) rfl ?_
      intro w5 hm5 hk5 hs5
      have HN : Hid (St w5 g (some B) (moreF F (rs.take (j + 1))) ∧ RecsAt w5 (some ⟨b, o, none⟩) n rs ∧ Kept (stB g (some B)) w w5) := by
        obtain ⟨hst, hrs, hk⟩ := HI.out
        have hk' : Kept (oneB B) w4 w5 := ((Kept.refl (oneB B) w4).drew).trans hk5.out
        refine Lib.hid ⟨⟨hst.1.keptS hk' hst.ne, (fun h => by cases h), fun B' h => ?_⟩, recsAt_kept hrs hk' (fun h0 a ha e => recs_off hst hrs h0 ha (.inr (by rw [show a.block = B from e]))), hk.then hk' (fun i hi => .inr (.inr (by rw [show i = B from hi])))⟩
        cases h
        rw [take_one rs j (by rw [HL.out]; exact hlt), HRR.out, ← recF_more]
        exact hm5.out
      clear hm5 hk5 hs5
      go_wp2
      go_roundw
      case rel => exact ⟨j + 1, by omega, by go_num, HN⟩
      case measure => simp [RowKit.intOf]; omega
    · obtain rfl : j = n := by omega
      have hltz : ¬ ((j : Int) < (j : Int)) := by omega
      go_wp2
      go_end0
      have hI := hI.out
      rw [List.take_of_length_le (by rw [HL.out]; exact Nat.le_refl _)] at hI
      exact ⟨rfl, B, hI.1, HF.out _ hI.2.2, by first | exact HBB.out | exact .inl rfl⟩
set_option maxHeartbeats 2000000 in
/-- it has none as yet -/
theorem global_none (g : Nat) (p : Option Addr) (n c : Nat) (rs : RecL) (w : World) (hs : St w g none noneF) (hn : n ≤ 4611686018427387904) (h : RecsAt w p n rs) :
    Calls Tryz.prog 82 #[.pointer (some ⟨g, 0, none⟩), .slice p n c] w (GlobPost w g none noneF rs) := by
  have c0 := hs.1.cell 0
  simp only [List.getElem?_toArray, List.getElem?_cons_zero] at c0
  have f0 := hs.1.frozen 0
  have f1 := (hs.1.alloc (.map #[] 0)).frozen 0
  have c1 := (hs.1.alloc (.map #[] 0)).cell 0
  simp only [List.getElem?_toArray, List.getElem?_cons_zero] at c1
  have hmm := @run_makeMap Tryz.prog
  have hem := fun w => run_eql_map_nil (P := Tryz.prog) w 94 _ _ none Tryz.underlying94
  simp only [Option.isNone_none] at hem
  have hgl : g < w.heap.size := hs.lt
  obtain ⟨F, hF⟩ : ∃ F, F = noneF := ⟨_, rfl⟩
  have hka : Kept (stB g none) w ((w.alloc (.map #[] 0)).setCell ⟨g, 0, none⟩ (.map (some w.heap.size))) := ((Kept.refl (stB g none) w).alloc _).setCell (a := ⟨g, 0, none⟩) (.inr (.inl rfl)) _
  have hra := recsAt_kept h hka (fun h0 a ha => recs_off hs h h0 ha)
  have hsa : St ((w.alloc (.map #[] 0)).setCell ⟨g, 0, none⟩ (.map (some w.heap.size))) g (some w.heap.size) F := by
    refine ⟨(hs.1.alloc (.map #[] 0)).set 0 _ (by decide), (fun h => by cases h), fun B' hB => ?_⟩
    cases hB
    have hm := (mapK_made strK w).kept (((Kept.refl (oneB g) (w.alloc (.map #[] 0)))).setCell (a := ⟨g, 0, none⟩) (.inr rfl) (.map (some w.heap.size))) (fun e => by have : w.heap.size = g := e; omega)
    rw [hF]
    exact hm
  have HF : Hid (∀ wr, Kept (stB g (some w.heap.size)) ((w.alloc (.map #[] 0)).setCell ⟨g, 0, none⟩ (.map (some w.heap.size))) wr → Kept (stB g none) w wr) := Lib.hid (fun wr h => hka.then h (fun i hi => by
    rcases hi with hi | hi
    · exact .inr (.inl hi)
    · cases hi; exact .inl (Nat.le_refl _)))
  have HBB : Hid ((none : Option Nat) = some w.heap.size ∨ w.heap.size ≤ w.heap.size) := Lib.hid (.inr (Nat.le_refl _))
  have HL := Lib.hid h.1
  have HS := Lib.hid hsa
  have HR := Lib.hid hra
  rw [← hF]
  clear hsa hra hka h hs hgl hF
  go_enter Tryz.func82, Tryz.ntmps82
  go_wp2_with fail
  obtain ⟨W0, hW0⟩ : ∃ W0, (w.alloc (.map #[] 0)).setCell ⟨g, 0, none⟩ (.map (some w.heap.size)) = W0 := ⟨_, rfl⟩
  obtain ⟨B, hB⟩ : ∃ B, w.heap.size = B := ⟨_, rfl⟩
  rw [hW0, hB] at HS HF
  rw [hW0] at HR ⊢
  rw [hB]
  clear HBB
  have HBB : Hid ((none : Option Nat) = some B ∨ w.heap.size ≤ B) := Lib.hid (.inr (by omega))
  clear c0 f0 c1 f1 hem hmm hW0 hB
  go_loopw [19] (fun i wr => ∃ (j : Nat), j ≤ n ∧ i = .int .i64 (j : Int) ∧ Hid (St wr g (some B) (moreF F (rs.take j)) ∧ RecsAt wr p n rs ∧ Kept (stB g (some B)) W0 wr)) (fun i _ => n - (RowKit.intOf i).toNat)
  case atStart => exact ⟨0, Nat.zero_le _, rfl, Lib.hid ⟨by rw [List.take_zero, moreF_nil]; exact HS.out, HR.out, Kept.refl _ _⟩⟩
  case round =>
    obtain ⟨j, hj, rfl, hI⟩ := hrel
    by_cases hlt : j < n
    · obtain ⟨hst, hrs, hk⟩ := hI.out
      have hltz : (j : Int) < (n : Int) := by omega
      obtain ⟨b, o, rfl, hb, hc⟩ := hrs.2 (by omega)
      obtain ⟨x0, x1⟩ := hc j hlt
      obtain ⟨⟨rk, rv⟩, hr⟩ : ∃ u, rs.getD j ([], []) = u := ⟨_, rfl⟩
      rw [hr, Nat.mul_comm] at x0 x1
      simp only at x0 x1
      have hst2 := hst.below ((Below.refl _ wr).alloc (Nat.le_refl _) (.cells #[.string (str rk), .string (str rv)] 53))
      have hrs2 := hrs.below ((Below.refl _ wr).alloc (Nat.le_refl _) (.cells #[.string (str rk), .string (str rv)] 53))
      have hk2 := hk.alloc (.cells #[.string (str rk), .string (str rv)] 53)
      have d0 := hst2.1.cell 0
      simp only [List.getElem?_toArray, List.getElem?_cons_zero] at d0
      obtain ⟨r0, r1⟩ := cells2 wr 53 (.string (str rk)) (.string (str rv))
      have HI := Lib.hid (And.intro hst2 (And.intro hrs2 hk2))
      have HRR := Lib.hid hr
      clear hst hrs hk hb hc hr hst2 hrs2 hk2 hI
      go_wp2_with fail
      obtain ⟨w4, hw4⟩ : ∃ w4, wr.alloc (.cells #[.string (str rk), .string (str rv)] 53) = w4 := ⟨_, rfl⟩
      rw [hw4] at d0 HI r0 r1 ⊢
      clear hw4 x0 x1
      go_still_tail 7, (by kernel_rfl)
      refine wpList_putK (K := strK) rfl (.tmp 26) (.tmp 28) (.tmp 29) rfl Tryz.underlying94 Tryz.underlying9 B ((HI.out.1.2.2 B rfl).kept (Kept.refl noneB w4).drew id) rfl rk rfl (.agg (recC rk rv)) rfl ?_
      intro w5 hm5 hk5 hs5
      have HN : Hid (St w5 g (some B) (moreF F (rs.take (j + 1))) ∧ RecsAt w5 (some ⟨b, o, none⟩) n rs ∧ Kept (stB g (some B)) W0 w5) := by
        obtain ⟨hst, hrs, hk⟩ := HI.out
        have hk' : Kept (oneB B) w4 w5 := ((Kept.refl (oneB B) w4).drew).trans hk5.out
        refine Lib.hid ⟨⟨hst.1.keptS hk' hst.ne, (fun h => by cases h), fun B' h => ?_⟩, recsAt_kept hrs hk' (fun h0 a ha e => recs_off hst hrs h0 ha (.inr (by rw [show a.block = B from e]))), hk.then hk' (fun i hi => .inr (.inr (by rw [show i = B from hi])))⟩
        cases h
        rw [take_one rs j (by rw [HL.out]; exact hlt), HRR.out, ← recF_more]
        exact hm5.out
      clear hm5 hk5 hs5
      go_wp2
      go_roundw
      case rel => exact ⟨j + 1, by omega, by go_num, HN⟩
      case measure => simp [RowKit.intOf]; omega
    · obtain rfl : j = n := by omega
      have hltz : ¬ ((j : Int) < (j : Int)) := by omega
      go_wp2
      go_end0
      have hI := hI.out
      rw [List.take_of_length_le (by rw [HL.out]; exact Nat.le_refl _)] at hI
      exact ⟨rfl, B, hI.1, HF.out _ hI.2.2, by first | exact HBB.out | exact .inl rfl⟩
theorem global_any (g : Nat) (mb : Option Nat) (F : Glob) (p : Option Addr) (n c : Nat) (rs : RecL) (w : World) (hs : St w g mb F) (hn : n ≤ 4611686018427387904) (h : RecsAt w p n rs) :
    Calls Tryz.prog 82 #[.pointer (some ⟨g, 0, none⟩), .slice p n c] w (GlobPost w g mb F rs) := by
  cases mb with
  | some B => exact global_map g B F p n c rs w hs hn h
  | none =>
    obtain rfl := hs.2.1 rfl
    exact global_none g p n c rs w hs hn h
end Go.Proofs.YtdjedimjhogdoaaGreatDoor.Attr
end
section
namespace Go.Proofs.YtdjedimjhogdoaaGreatDoor.Rec
open Go.ChangeShapes Go.WideShapes Go.ChangeAt Go.RowKit Go.Shelf Go.Proofs.YtdjedimjhogdoaaGreatDoor.Base Go.Proofs.YtdjedimjhogdoaaGreatDoor.Byt Go.Proofs.YtdjedimjhogdoaaGreatDoor.Txt Go.Proofs.YtdjedimjhogdoaaGreatDoor.Path Go.Lib
set_option linter.unusedVariables false
set_option maxRecDepth 100000

/-- what the package asks of the world: the tables of unicode/utf8, strconv's error, the powers of ten -/
def Need (w : World) : Prop := Path.Tabs w ∧ (∃ tp p, w.var? Tryz.prog "strconv.ErrSyntax" = some #[.iface tp p]) ∧ Lib.TabIs Tryz.prog w "internal/strconv.uint64pow10" .u64 Lib.pow10Tab
theorem var_below {P : Program} {n : String} {w w' : World} {cs : Array Value} (h : w.var? P n = some cs) (hb : Below w.heap.size w w') : w'.var? P n = some cs := by
  unfold World.var? at h ⊢
  cases hg : P.globalNamed n with
  | none => simp [hg] at h
  | some g =>
    simp only [hg, Option.bind_some] at h ⊢
    have hlt : g < w.heap.size := by
      rcases Nat.lt_or_ge g w.heap.size with h' | h'
      · exact h'
      · simp [Array.getElem?_eq_none h'] at h
    rw [hb.block g hlt]
    exact h
theorem Need.below {w w' : World} (h : Need w) (hb : Below w.heap.size w w') : Need w' :=
  ⟨h.1.below hb, by obtain ⟨tp, p, hv⟩ := h.2.1; exact ⟨tp, p, var_below hv hb⟩, var_below h.2.2 hb⟩
/-- a row of the call's own, behind a call -/
theorem row_below {w w' : World} {B : Nat} {e : TypeId} {k : Nat} {v : Value} {n : Nat} {xs : List Value} (h : w.ownsRow B e k v n xs) (hb : Below w.heap.size w w') : w'.ownsRow B e k v n xs := by
  refine ⟨h.1, ?_⟩
  rcases h.2 with h2 | ⟨g, cap, cur, rfl, h3, h4, h5⟩
  · exact .inl h2
  · exact .inr ⟨g, cap, cur, rfl, h3, by rw [hb.block g (Array.getElem?_eq_some_iff.1 h4).1]; exact h4, h5⟩
theorem Need.tabs {w : World} (h : Need w) : Path.Tabs w := h.1
end Go.Proofs.YtdjedimjhogdoaaGreatDoor.Rec
end
section
namespace Go.Proofs.YtdjedimjhogdoaaGreatDoor.Mem
open Go.ChangeShapes Go.WideShapes Go.ChangeAt Go.RowKit Go.Proofs.YtdjedimjhogdoaaGreatDoor.Base Go.Proofs.YtdjedimjhogdoaaGreatDoor.Byt Go.Proofs.YtdjedimjhogdoaaGreatDoor.Txt Go.Proofs.YtdjedimjhogdoaaGreatDoor.Bk Go.Proofs.YtdjedimjhogdoaaGreatDoor.Mk Go.Proofs.YtdjedimjhogdoaaGreatDoor.Block Go.Proofs.YtdjedimjhogdoaaGreatDoor.Attr Go.Proofs.YtdjedimjhogdoaaGreatDoor.Rec Go.Lib
set_option linter.unusedVariables false
set_option maxRecDepth 100000

/-- the reader's blocks, and what its source is made of -/
structure RK where
  r : Nat
  g : Nat
  gs : Nat
  mw : Nat
  S : Sv
/-- what waits -/
def waitF (s : RS) (q : Option Addr) (n c : Nat) : UInt8 → Option Value := fun k =>
  if k = 120 then (if s.hasX = true then some (.agg #[.string ⟨#[]⟩, .slice q n c]) else none)
  else if k = 76 then s.name.map (fun t => .agg #[.string (str t), .slice none 0 0])
  else if k = 75 then s.link.map (fun t => .agg #[.string (str t), .slice none 0 0])
  else none
def readerC (K : RK) (v : Value) : Array Value := #[.pointer (some ⟨K.g, 0, none⟩), .pointer (some ⟨K.gs, 0, none⟩), .map (some K.mw), v]
/-- the blocks that are written to, but for the source's -/
def Ot (K : RK) (mb : Option Nat) (v : Value) : Nat → Prop := fun k => k = K.r ∨ k = K.gs ∨ k = K.mw ∨ mb = some k ∨ v.ownBlock = some k
/-- a bytes were read; since w0 -/
structure Rd (w0 w : World) (K : RK) (a : Nat) (s : RS) (mb : Option Nat) (v : Value) (xs : List MP) (q : Option Addr) (n c : Nat) : Prop where
  bel : Below w0.heap.size w0 w
  blk : Blk w K.r 70 (readerC K v)
  src : ∃ t, Src w K.g K.S a t
  off : K.S.off K.g
  st : St w K.gs mb (lastD s.glob)
  map : MapK u8K w K.mw (waitF s q n c)
  own : RecsAt w q n s.own
  own0 : s.hasX = false → s.own = []
  row : w.ownsRow w0.heap.size 37 8 v xs.length (flatM xs)
  out : xs.map MP.m = s.out
  bodies : ∀ x ∈ xs, BodyAt w x
  apart : ∀ x ∈ xs, 0 < x.m.body.length → ∀ y, x.p = some y → ¬ Ot K mb v y.block ∧ y.block ≠ K.g
  sp : 0 < K.S.n → ∀ y, K.S.p = some y → ¬ Ot K mb v y.block
  sq : 0 < K.S.m → ∀ y, K.S.q = some y → ¬ Ot K mb v y.block
  ne : K.r ≠ K.g ∧ K.r ≠ K.gs ∧ K.r ≠ K.mw ∧ K.g ≠ K.gs ∧ K.g ≠ K.mw ∧ K.gs ≠ K.mw
  neB : ∀ b, mb = some b → b ≠ K.r ∧ b ≠ K.g ∧ b ≠ K.gs ∧ b ≠ K.mw ∧ w0.heap.size ≤ b
  neV : ∀ b, v.ownBlock = some b → b ≠ K.r ∧ b ≠ K.g ∧ b ≠ K.gs ∧ b ≠ K.mw ∧ mb ≠ some b
  base : w0.heap.size ≤ K.r ∧ w0.heap.size ≤ K.g ∧ w0.heap.size ≤ K.gs ∧ w0.heap.size ≤ K.mw
  many : s.out.length ≤ 4096
  gl : ∀ r ∈ s.glob, r.2.length ≤ 1048576
  ol : (∀ r ∈ s.own, r.2.length ≤ 1048576) ∧ s.own.length ≤ 1048576
  nl : ∀ t, s.name = some t → t.length ≤ 1048576
  ll : ∀ t, s.link = some t → t.length ≤ 1048576
section
variable {w0 w w' : World} {K : RK} {a : Nat} {s : RS} {mb : Option Nat} {v : Value} {xs : List MP} {q : Option Addr} {n c : Nat}
theorem bat_lt {p : Option Addr} {m : Nat} {bs : List UInt8} (h : BAt w p m bs) (h0 : 0 < m) {y : Addr} (hy : p = some y) : y.block < w.heap.size := by
  obtain ⟨b, o, he, hb, _⟩ := h.cell h0
  rw [hy] at he
  cases he
  exact hb
theorem iat_lt {p : Option Addr} {m : Nat} {zs : List Int} (h : IAt w p m zs) (h0 : 0 < m) {y : Addr} (hy : p = some y) : y.block < w.heap.size := by
  obtain ⟨b, o, he, hb, hc⟩ := h h0
  rw [hy] at he
  cases he
  exact hb
theorem recs_off_blk {b : Nat} {t : TypeId} {cs : Array Value} (hb : Blk w b t cs) (hs : ∀ (i : Nat) (x : ByteArray), cs[i]? ≠ some (.string x)) {p : Option Addr} {m : Nat} {rs : RecL} (hr : RecsAt w p m rs) (h0 : 0 < m) {y : Addr} (hy : p = some y) : y.block ≠ b := by
  obtain ⟨b', o, rfl, hlt, hc⟩ := hr.2 h0
  cases hy
  rintro rfl
  have c0 := (hc 0 h0).1
  rw [hb.cell] at c0
  exact hs _ _ c0
theorem recs_off_map {b : Nat} {α : Type} {Ky : Keying α} {f : α → Option Value} (hm : MapK Ky w b f) {p : Option Addr} {m : Nat} {rs : RecL} (hr : RecsAt w p m rs) (h0 : 0 < m) {y : Addr} (hy : p = some y) : y.block ≠ b := by
  obtain ⟨b', o, rfl, hlt, hc⟩ := hr.2 h0
  cases hy
  rintro rfl
  obtain ⟨es, clock, hm, _⟩ := hm
  have c0 := (hc 0 h0).1
  simp [World.cell?, hm] at c0
theorem Rd.own_off_src (h : Rd w0 w K a s mb v xs q n c) : 0 < n → ∀ y, q = some y → ¬ oneB K.g y.block := fun h0 y hy e => by
  obtain ⟨t, hs⟩ := h.src
  refine recs_off_blk (show Blk w K.g 100 _ from hs.blk) ?_ h.own h0 hy e
  intro i x hx
  rcases i with _ | _ | _ | _ | i <;> simp at hx
theorem Rd.own_off_st (h : Rd w0 w K a s mb v xs q n c) : 0 < n → ∀ y, q = some y → ¬ stB K.gs mb y.block := fun h0 y hy e => recs_off h.st h.own h0 hy e
theorem Rd.own_off_map (h : Rd w0 w K a s mb v xs q n c) : 0 < n → ∀ y, q = some y → ¬ oneB K.mw y.block := fun h0 y hy e => recs_off_map h.map h.own h0 hy e
theorem Rd.need (h : Rd w0 w K a s mb v xs q n c) (hN : Need w0) : Need w := hN.below h.bel
/-- nothing of it was written to -/
theorem Rd.idle (h : Rd w0 w K a s mb v xs q n c) (hk : Kept noneB w w') : Rd w0 w' K a s mb v xs q n c where
  bel := h.bel.trans (hk.below h.bel.size (fun k hk => hk.elim))
  blk := h.blk.keptS hk id
  src := by obtain ⟨t, hs⟩ := h.src; exact ⟨t, hs.kept0 hk⟩
  off := h.off
  st := h.st.kept hk (fun _ _ => id)
  map := h.map.kept hk id
  own := recsAt_kept h.own hk (fun _ _ _ => id)
  own0 := h.own0
  row := ownsRow_kept h.row hk (fun _ _ => id)
  out := h.out
  bodies := fun x hx => (h.bodies x hx).kept hk (fun _ _ _ => id)
  apart := h.apart
  sp := h.sp
  sq := h.sq
  ne := h.ne
  neB := h.neB
  neV := h.neV
  base := h.base
  many := h.many
  gl := h.gl
  ol := h.ol
  nl := h.nl
  ll := h.ll
theorem Rd.below (h : Rd w0 w K a s mb v xs q n c) (hb : Below w.heap.size w w') : Rd w0 w' K a s mb v xs q n c := h.idle (Kept.of_below hb noneB)
/-- bytes were read -/
theorem Rd.moved (h : Rd w0 w K a s mb v xs q n c) {a' : Nat} (hk : Kept (oneB K.g) w w') (hs : ∃ t, Src w' K.g K.S a' t) : Rd w0 w' K a' s mb v xs q n c where
  bel := h.bel.trans (hk.below h.bel.size (fun k hk => by rw [show k = K.g from hk]; exact h.base.2.1))
  blk := h.blk.keptS hk h.ne.1
  src := hs
  off := h.off
  st := h.st.kept hk (fun k hk e => by
    rcases hk with rfl | hk
    · exact h.ne.2.2.2.1 (show K.gs = K.g from e).symm
    · exact (h.neB k hk).2.1 e)
  map := h.map.kept hk (fun e => h.ne.2.2.2.2.1 (show K.mw = K.g from e).symm)
  own := recsAt_kept h.own hk h.own_off_src
  own0 := h.own0
  row := ownsRow_kept h.row hk (fun k hk e => (h.neV k hk).2.1 e)
  out := h.out
  bodies := fun x hx => (h.bodies x hx).kept hk (fun h0 y hy e => (h.apart x hx h0 y hy).2 e)
  apart := h.apart
  sp := h.sp
  sq := h.sq
  ne := h.ne
  neB := h.neB
  neV := h.neV
  base := h.base
  many := h.many
  gl := h.gl
  ol := h.ol
  nl := h.nl
  ll := h.ll
/-- what waits was written to -/
theorem Rd.waits (h : Rd w0 w K a s mb v xs q n c) {s' : RS} {q' : Option Addr} {n' c' : Nat} (hk : Kept (oneB K.mw) w w') (hm : MapK u8K w' K.mw (waitF s' q' n' c')) (ho : RecsAt w q' n' s'.own)
    (h1 : s'.out = s.out) (h2 : s'.glob = s.glob) (h3 : s'.hasX = false → s'.own = []) (h4 : (∀ r ∈ s'.own, r.2.length ≤ 1048576) ∧ s'.own.length ≤ 1048576)
    (h5 : ∀ t, s'.name = some t → t.length ≤ 1048576) (h6 : ∀ t, s'.link = some t → t.length ≤ 1048576) : Rd w0 w' K a s' mb v xs q' n' c' where
  bel := h.bel.trans (hk.below h.bel.size (fun k hk => by rw [show k = K.mw from hk]; exact h.base.2.2.2))
  blk := h.blk.keptS hk h.ne.2.2.1
  src := by
    obtain ⟨t, hs⟩ := h.src
    exact ⟨t, hs.kept hk h.ne.2.2.2.2.1 (fun h0 y hy e => h.sp h0 y hy (.inr (.inr (.inl e)))) (fun h0 y hy e => h.sq h0 y hy (.inr (.inr (.inl e))))⟩
  off := h.off
  st := by
    rw [h2]
    refine h.st.kept hk (fun k hk e => ?_)
    rcases hk with rfl | hk
    · exact h.ne.2.2.2.2.2 e
    · exact (h.neB k hk).2.2.2.1 e
  map := hm
  own := recsAt_kept ho hk (fun h0 y hy e => recs_off_map h.map ho h0 hy e)
  own0 := h3
  row := ownsRow_kept h.row hk (fun k hk e => (h.neV k hk).2.2.2.1 e)
  out := by rw [h1]; exact h.out
  bodies := fun x hx => (h.bodies x hx).kept hk (fun h0 y hy e => (h.apart x hx h0 y hy).1 (.inr (.inr (.inl e))))
  apart := h.apart
  sp := h.sp
  sq := h.sq
  ne := h.ne
  neB := h.neB
  neV := h.neV
  base := h.base
  many := by rw [h1]; exact h.many
  gl := by rw [h2]; exact h.gl
  ol := h4
  nl := h5
  ll := h6
/-- what is global was written to -/
theorem Rd.globs (h : Rd w0 w K a s mb v xs q n c) {rs : RecL} {B : Nat} (hst : St w' K.gs (some B) (moreF (lastD s.glob) rs)) (hk : Kept (stB K.gs mb) w w') (hB : mb = some B ∨ w.heap.size ≤ B) (hl : ∀ r ∈ rs, r.2.length ≤ 1048576) :
    Rd w0 w' K a { s with glob := s.glob ++ rs } (some B) v xs q n c := by
  have hsz := h.bel.size
  have oth : ∀ k, k < w.heap.size → ¬ Ot K mb v k → ¬ Ot K (some B) v k := fun k hlt hn e => by
    rcases e with e | e | e | e | e
    · exact hn (.inl e)
    · exact hn (.inr (.inl e))
    · exact hn (.inr (.inr (.inl e)))
    · rcases hB with hB | hB
      · exact hn (.inr (.inr (.inr (.inl (hB.trans e)))))
      · cases e; omega
    · exact hn (.inr (.inr (.inr (.inr e))))
  have fromOt : ∀ k, stB K.gs mb k → Ot K mb v k := fun k hk => by
    rcases hk with rfl | hk
    · exact .inr (.inl rfl)
    · exact .inr (.inr (.inr (.inl hk)))
  obtain ⟨t, hs⟩ := h.src
  have hbt : ∀ k, stB K.gs mb k → w0.heap.size ≤ k := fun k hk => by
    rcases hk with rfl | hk
    · exact h.base.2.2.1
    · exact (h.neB k hk).2.2.2.2
  have hr : ¬ stB K.gs mb K.r := fun e => by
    rcases e with e | e
    · exact h.ne.2.1 e
    · exact (h.neB _ e).1 rfl
  have hg : ¬ stB K.gs mb K.g := fun e => by
    rcases e with e | e
    · exact h.ne.2.2.2.1 e
    · exact (h.neB _ e).2.1 rfl
  have hmw : ¬ stB K.gs mb K.mw := fun e => by
    rcases e with e | e
    · exact h.ne.2.2.2.2.2 e.symm
    · exact (h.neB _ e).2.2.2.1 rfl
  have hv : ∀ k, v.ownBlock = some k → ¬ stB K.gs mb k := fun k hk e => by
    rcases e with e | e
    · exact (h.neV k hk).2.2.1 e
    · exact (h.neV k hk).2.2.2.2 e
  exact {
    bel := h.bel.trans (hk.below h.bel.size hbt)
    blk := h.blk.keptS hk hr
    src := ⟨t, hs.kept hk hg (fun h0 y hy e => h.sp h0 y hy (fromOt _ e)) (fun h0 y hy e => h.sq h0 y hy (fromOt _ e))⟩
    off := h.off
    st := by rw [← lastD_more]; exact hst
    map := h.map.kept hk hmw
    own := recsAt_kept h.own hk h.own_off_st
    own0 := h.own0
    row := ownsRow_kept h.row hk hv
    out := h.out
    bodies := fun x hx => (h.bodies x hx).kept hk (fun h0 y hy e => (h.apart x hx h0 y hy).1 (fromOt _ e))
    apart := fun x hx h0 y hy => ⟨oth _ (bat_lt (h.bodies x hx).bat h0 hy) (h.apart x hx h0 y hy).1, (h.apart x hx h0 y hy).2⟩
    sp := fun h0 y hy => oth _ (bat_lt hs.bat h0 hy) (h.sp h0 y hy)
    sq := fun h0 y hy => oth _ (iat_lt hs.iat h0 hy) (h.sq h0 y hy)
    ne := h.ne
    neB := fun b hb => by
      cases hb
      rcases hB with hB | hB
      · exact h.neB B hB
      · have h1 := h.blk.lt
        have h2 := hs.lt
        have h3 := h.st.lt
        have h4 := h.map.lt
        exact ⟨by omega, by omega, by omega, by omega, by omega⟩
    neV := fun b hb => by
      obtain ⟨h1, h2, h3, h4, h5⟩ := h.neV b hb
      have hlt := (h.row.lt b hb).2
      refine ⟨h1, h2, h3, h4, fun e => ?_⟩
      rcases hB with hB | hB
      · exact h5 (hB.trans e)
      · cases e; omega
    base := h.base
    many := h.many
    gl := fun r hr => by
      rcases List.mem_append.1 hr with hr | hr
      · exact h.gl r hr
      · exact hl r hr
    ol := h.ol
    nl := h.nl
    ll := h.ll }
/-- a member was put behind the others, the reader told so: what waits stands -/
theorem Rd.map_added (h : Rd w0 w K a s mb v xs q n c) {v' : Value} (hg : w.grownBy w' v.ownBlock) : MapK u8K (w'.setCell ⟨K.r, 3, none⟩ v') K.mw (waitF s q n c) :=
  (h.map.kept ((Kept.refl _ w).grown hg (fun k hk => .inr hk) : Kept (fun k => v.ownBlock = some k) w w') (fun e => (h.neV _ e).2.2.2.1 rfl)).kept ((Kept.refl (oneB K.r) w').setCell (a := ⟨K.r, 3, none⟩) (.inr rfl) v') h.ne.2.2.1.symm
/-- .. and what waits is gone -/
theorem Rd.added (h : Rd w0 w K a s mb v xs q n c) {v' : Value} {y : MP} (hrow : w'.ownsRow w0.heap.size 37 8 v' (xs ++ [y]).length (flatM (xs ++ [y]))) (hg : w.grownBy w' v.ownBlock) (hnew : NewOr w v v')
    (hy : BodyAt w y) (hya : 0 < y.m.body.length → ∀ z, y.p = some z → ¬ Ot K mb v z.block ∧ z.block ≠ K.g) (hm : s.out.length < 4096) {w2 : World}
    (hmap : MapK u8K w2 K.mw (fun _ => none)) (hk3 : Kept (oneB K.mw) (w'.setCell ⟨K.r, 3, none⟩ v') w2) :
    Rd w0 w2 K a { s with out := s.out ++ [y.m], own := [], name := none, link := none, hasX := false } mb v' (xs ++ [y]) none 0 0 := by
  have hk1 : Kept (fun k => v.ownBlock = some k) w w' := (Kept.refl _ w).grown hg (fun k hk => .inr hk)
  have hk2 : Kept (oneB K.r) w' (w'.setCell ⟨K.r, 3, none⟩ v') := (Kept.refl (oneB K.r) w').setCell (a := ⟨K.r, 3, none⟩) (.inr rfl) v'
  have hk23 : Kept (fun k => k = K.r ∨ k = K.mw) w' w2 := (hk2.mono (fun k hk => .inl hk)).trans (hk3.mono (fun k hk => .inr hk))
  have hk : Kept (fun k => v.ownBlock = some k ∨ k = K.r ∨ k = K.mw) w w2 := (hk1.mono (fun k hk => .inl hk)).trans (hk23.mono (fun k hk => .inr hk))
  have hvne : ∀ k, v'.ownBlock = some k → (v.ownBlock = some k ∨ w.heap.size ≤ k) := hnew
  have fromT : ∀ k, (v.ownBlock = some k ∨ k = K.r ∨ k = K.mw) → Ot K mb v k := fun k hk => by
    rcases hk with hk | rfl | rfl
    · exact .inr (.inr (.inr (.inr hk)))
    · exact .inl rfl
    · exact .inr (.inr (.inl rfl))
  have oth : ∀ k, k < w.heap.size → ¬ Ot K mb v k → ¬ Ot K mb v' k := fun k hlt hn e => by
    rcases e with e | e | e | e | e
    · exact hn (.inl e)
    · exact hn (.inr (.inl e))
    · exact hn (.inr (.inr (.inl e)))
    · exact hn (.inr (.inr (.inr (.inl e))))
    · rcases hvne k e with e' | e'
      · exact hn (.inr (.inr (.inr (.inr e'))))
      · omega
  obtain ⟨t, hs⟩ := h.src
  have h1 := h.blk.lt
  have h2 := hs.lt
  have h3 := h.st.lt
  have h4 := h.map.lt
  have nv' : ∀ b, v'.ownBlock = some b → b ≠ K.r ∧ b ≠ K.g ∧ b ≠ K.gs ∧ b ≠ K.mw ∧ mb ≠ some b := fun b hb => by
    rcases hvne b hb with e | e
    · exact h.neV b e
    · exact ⟨by omega, by omega, by omega, by omega, fun hm => by have := h.st.ltB hm; omega⟩
  have nT : ∀ k, k ≠ K.r → k ≠ K.mw → (∀ b, v.ownBlock = some b → k ≠ b) → ¬ (v.ownBlock = some k ∨ k = K.r ∨ k = K.mw) := fun k hr hw hn e => by
    rcases e with e | e | e
    · exact hn k e rfl
    · exact hr e
    · exact hw e
  exact {
    bel := h.bel.trans (hk.below h.bel.size (fun k hk => by
      rcases hk with hk | rfl | rfl
      · exact (h.row.lt k hk).1
      · exact h.base.1
      · exact h.base.2.2.2))
    blk := ((h.blk.keptS hk1 (fun e => (h.neV _ e).1 rfl)).set 3 v' (by decide : 3 < 4)).keptS hk3 h.ne.2.2.1
    src := ⟨t, hs.kept hk (nT _ h.ne.1.symm h.ne.2.2.2.2.1 (fun b hb e => (h.neV b hb).2.1 e.symm)) (fun h0 y hy e => h.sp h0 y hy (fromT _ e)) (fun h0 y hy e => h.sq h0 y hy (fromT _ e))⟩
    off := h.off
    st := h.st.kept hk (fun k hk => by
      rcases hk with rfl | hk
      · exact nT _ h.ne.2.1.symm h.ne.2.2.2.2.2 (fun b hb e => (h.neV b hb).2.2.1 e.symm)
      · exact nT _ (h.neB k hk).1 (h.neB k hk).2.2.2.1 (fun b hb e => (h.neV b hb).2.2.2.2 (by rw [← e]; exact hk)))
    map := by
      have : waitF { s with out := s.out ++ [y.m], own := [], name := none, link := none, hasX := false } none 0 0 = fun _ => none := by
        funext k
        unfold waitF
        simp
      rw [this]
      exact hmap
    own := ⟨rfl, fun h => by omega⟩
    own0 := fun _ => rfl
    row := ownsRow_kept hrow hk23 (fun k hk e => by
      rcases e with e | e
      · exact (nv' k hk).1 e
      · exact (nv' k hk).2.2.2.1 e)
    out := by rw [List.map_append, h.out]; rfl
    bodies := fun x hx => by
      rcases List.mem_append.1 hx with hx | hx
      · exact (h.bodies x hx).kept hk (fun h0 y hy e => (h.apart x hx h0 y hy).1 (fromT _ e))
      · rw [List.mem_singleton] at hx
        subst hx
        exact hy.kept hk (fun h0 z hz e => (hya h0 z hz).1 (fromT _ e))
    apart := fun x hx h0 z hz => by
      rcases List.mem_append.1 hx with hx | hx
      · exact ⟨oth _ (bat_lt (h.bodies x hx).bat h0 hz) (h.apart x hx h0 z hz).1, (h.apart x hx h0 z hz).2⟩
      · rw [List.mem_singleton] at hx
        subst hx
        exact ⟨oth _ (bat_lt hy.bat h0 hz) (hya h0 z hz).1, (hya h0 z hz).2⟩
    sp := fun h0 y hy => oth _ (bat_lt hs.bat h0 hy) (h.sp h0 y hy)
    sq := fun h0 y hy => oth _ (iat_lt hs.iat h0 hy) (h.sq h0 y hy)
    ne := h.ne
    neB := h.neB
    neV := nv'
    base := h.base
    many := by show (s.out ++ [y.m]).length ≤ 4096; rw [List.length_append, List.length_singleton]; omega
    gl := h.gl
    ol := ⟨fun r hr => by simp at hr, by simp⟩
    nl := fun t ht => by cases ht
    ll := fun t ht => by cases ht }
end
end Go.Proofs.YtdjedimjhogdoaaGreatDoor.Mem
end
