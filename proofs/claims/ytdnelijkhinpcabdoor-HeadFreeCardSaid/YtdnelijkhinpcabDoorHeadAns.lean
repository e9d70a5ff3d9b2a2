/- What the laws of layer head ask each time, and when two heads are the same. -/
import Derived.Test.YtdnelijkhinpcabDoorHeadParse
import Derived.Test.YtdnelijkhinpcabDoorHeadPut
import Derived.Test.YtdnelijkhinpcabDoorHeadSum
import Derived.Laws.StructEq
import Derived.Lib.SlBytesConst
namespace Go.Proofs.YtdnelijkhinpcabDoor.Head
open Go.ChangeShapes Go.WideShapes Go.ChangeAt Go.RowKit Go.Proofs.YtdnelijkhinpcabDoor.Base Go.Proofs.YtdnelijkhinpcabDoor.Byt Go.Proofs.YtdnelijkhinpcabDoor.Hp Go.Proofs.YtdnelijkhinpcabDoor.Mp Go.Proofs.YtdnelijkhinpcabDoor.Fp Go.Proofs.YtdnelijkhinpcabDoor.Field Go.Lib
set_option linter.unusedVariables false
set_option maxRecDepth 100000

theorem zero_any (p : Option Addr) (n c : Nat) (bs : List UInt8) (w : World) (hm : n ≤ 140737488351232) (h : BAt w p n bs) :
    Calls Tryd.prog 12 #[.slice p n c] w fun e w' => e = .returned (.bool (((plainTo bs n : Nat) : Int) == 0)) ∧ w = w' := by
  have H := Lib.hid h
  clear h
  go_enter Tryd.func12, Tryd.ntmps12
  go_wp2_with fail
  refine (total_any p n c bs w hm H.out).mono ?_
  rintro e w1 ⟨rfl, rfl⟩
  go_wp2
  go_ret
  exact ⟨rfl, rfl⟩
deriving instance DecidableEq for HeadV
theorem eqH_deep (a b : HeadV) (d : Nat) (w : World) : (Op.equalIn (d + 1 + 1 + 1) 25 (.agg (headC a)) (.agg (headC b))).run Tryd.prog w = .ok (decide (a = b)) w := by
  have e : decide (a = b) = (decide (a.name = b.name) && decide (a.link = b.link) && decide (a.kind = b.kind) && decide (a.mode = b.mode) && decide (a.uid = b.uid) && decide (a.gid = b.gid) && decide (a.time = b.time) && decide (a.size = b.size) && decide (a.gnu = b.gnu)) := by
    rw [Bool.eq_iff_iff]
    simp only [decide_eq_true_eq, Bool.and_eq_true]
    constructor
    · rintro rfl; simp
    · rintro ⟨⟨⟨⟨⟨⟨⟨⟨h1, h2⟩, h3⟩, h4⟩, h5⟩, h6⟩, h7⟩, h8⟩, h9⟩
      cases a; cases b; simp_all
  have s1 : ∀ x y : List UInt8, ((str x).toList == (str y).toList) = decide (x = y) := fun x y => by
    rw [str_toList, str_toList]
    by_cases h : x = y <;> simp [h]
  have s2 : (((a.kind.toNat : Int)) == (b.kind.toNat : Int)) = decide (a.kind = b.kind) := by
    by_cases h : a.kind = b.kind
    · simp [h]
    · have : ¬ a.kind.toNat = b.kind.toNat := fun hh => h (UInt8.toNat.inj hh)
      simp only [h, decide_false, beq_eq_false_iff_ne, ne_eq]
      omega
  have hS : Tryd.prog.underlying 25 = some (.struct (Tryd.prog.fieldsOf 25)) := by kernel_rfl
  have hM : Tryd.prog.underlying 23 = some (.struct (Tryd.prog.fieldsOf 23)) := by kernel_rfl
  have pS : Tryd.prog.stoodInHeld 25 = false := by kernel_rfl
  have pM : Tryd.prog.stoodInHeld 23 = false := by kernel_rfl
  have qM := fun (xs ys : Array Value) => run_equalIn_agg (P := Tryd.prog) w (d + 1) 23 xs ys hM pM
  rw [run_equalIn_agg w (d + 1 + 1) _ _ _ hS pS]
  clear hS hM pS pM
  simp only [Program.fieldsOf, Tryd.underlying25, Tryd.underlying23] at qM ⊢
  rw [e, ← s2, ← s1, ← s1]
  clear e s1 s2
  unfold headC
  go_simp
  by_cases h1 : (str a.name).toList = (str b.name).toList
  · by_cases h2 : (str a.link).toList = (str b.link).toList
    · by_cases h3 : (a.kind.toNat : Int) = (b.kind.toNat : Int)
      · by_cases h4 : a.mode = b.mode <;> by_cases h5 : a.uid = b.uid <;> by_cases h6 : a.gid = b.gid <;> by_cases h7 : a.time = b.time <;> by_cases h8 : a.size = b.size <;> by_cases h9 : a.gnu = b.gnu <;> simp [h1, h2, h3, h4, h5, h6, h7, h8, h9]
      · simp only [h3, if_false, beq_eq_false_iff_ne.2 h3, Bool.and_false, Bool.false_and, h1, h2, if_true]
    · simp only [h2, if_false, beq_eq_false_iff_ne.2 h2, Bool.and_false, Bool.false_and, h1, if_true]
  · simp only [h1, if_false, beq_eq_false_iff_ne.2 h1, Bool.false_and]
/-- when two heads are the same -/
theorem eqH (a b : HeadV) (w : World) : (binOp .eql 25 (.agg (headC a)) (.agg (headC b))).run Tryd.prog w = .ok (.bool (decide (a = b))) w := by
  rw [run_eql_struct, show (10000 : Nat) = 9997 + 1 + 1 + 1 from rfl, eqH_deep a b 9997 w]
  rfl
/-- the head that the laws ask with -/
def aH : HeadV := ⟨[97], [], 48, 0, 0, 0, 0, 9, false⟩
theorem aH_put : ∃ bs, putR aH = some bs ∧ bs.length = 512 ∧ bs.getD 0 0 = 97 ∧ headR bs = (aH, 0) := by
  have hc : cutR aH.name = some ([], [97]) := cutR_short (by decide)
  have hb : badH aH = false := by decide
  have hn : numsOk aH = true := by decide +kernel
  have hp := putR_ok hc hb hn
  refine ⟨_, hp, blockA_length _, ?_, headR_put hp⟩
  rw [blockA_get _ (by omega)]
  have h0 : fld 0 = 0 := rfl
  rw [h0, own2, upd_other _ _ (by omega)]
  rfl
set_option maxHeartbeats 4000000 in
theorem ans04_any (w : World) :
    Calls Tryd.prog 6 #[] w fun e w' => e = .returned (.bool true) ∧ Kept noneB w w' := by
  obtain ⟨bs, hp, hl, h0, hh⟩ := aH_put
  have HPU := Lib.hid hp
  have HL := Lib.hid hl
  have H0 := Lib.hid h0
  have HH := Lib.hid hh
  have HZ : Hid ((((plainTo bs 512 : Nat) : Int) == 0) = false) := Lib.hid (by
    have : ¬ plainTo bs 512 = 0 := fun e => by
      have h1 := plainTo_zero.1 e 0 (by omega)
      rw [H0.out] at h1
      cases h1
    rw [beq_eq_false_iff_ne]
    omega)
  have EQ := fun w => eqH aH aH w
  have LA : headC aH = #[.string ⟨#[97]⟩, .string ⟨#[]⟩, .int .u8 48, .int .i64 0, .int .i64 0, .int .i64 0, .int .i64 0, .int .i64 9, .bool false] := rfl
  rw [LA] at EQ
  have mk : ∀ w : World, (Instr.makeSlice 27 (.int .i64 9) (.int .i64 9)).run Tryd.prog w = .ok (.slice (some ⟨w.heap.size, 0, none⟩) 9 9) (w.alloc (.cells (madeCells #[.int .u8 0] 9) 5)) := fun w => by
    obtain ⟨i0, hi0, hz0, hz1, hz2⟩ := info_parts infoByte
    have h := run_makeSlice (P := Tryd.prog) w 27 5 i0 (.int .u8 0) Tryd.underlying27 hi0 hz0 .i64 .i64 9 9 (by decide) (by decide) (by rw [hz1]; decide) (by rw [hz2]; decide) (by decide)
    rw [hz1] at h
    exact h
  clear hp hl h0 hh
  go_enter Tryd.func6, Tryd.ntmps6
  go_wp2_with fail
  refine (show Calls _ _ _ _ (PutHPost w (putR aH)) from putH_any aH (fun i => by unfold numH; repeat' split <;> decide) (by decide) (by decide) w).mono ?_
  intro e w1 h1
  obtain ⟨hk1, (⟨bs', g, hb', rfl, hR, hg⟩ | ⟨hno, _⟩)⟩ := h1
  case inr => rw [HPU.out] at hno; cases hno
  obtain rfl : bs = bs' := Option.some.inj (HPU.out.symm.trans hb')
  have hB1 := hR.bat
  rw [HL.out] at hB1
  have HB1 := Lib.hid hB1
  have HK1 := Lib.hid hk1
  have HG := Lib.hid hg
  have c0 := hR.cell 0 (by rw [HL.out]; omega)
  rw [H0.out] at c0
  have HC0 := Lib.hid c0
  clear hb' hR hg hk1 hB1 c0
  go_wp2_with fail
  refine (parseH_any _ 512 512 bs w1 HL.out (by omega) (by decide) HB1.out).mono ?_
  rintro e w2 ⟨rfl, hk2⟩
  rw [HH.out, show headA (aH, 0) = .tuple #[.agg #[.string ⟨#[97]⟩, .string ⟨#[]⟩, .int .u8 48, .int .i64 0, .int .i64 0, .int .i64 0, .int .i64 0, .int .i64 9, .bool false], .int .i64 0] from rfl]
  have HK2 := Lib.hid (HK1.out.trans hk2)
  have HB2 := Lib.hid (HB1.out.kept hk2 (fun _ _ _ => id))
  have hg2 : g < w2.heap.size := World.block_lt_of_cell? w2 _ (by
    obtain ⟨b, o, he, hc⟩ := HB2.out (by omega)
    cases he
    exact hc 0 (by omega))
  have c0 : w2.cell? ⟨g, 0, none⟩ = some (.int .u8 97) := by
    obtain ⟨b, o, he, hc⟩ := HB2.out (by omega)
    cases he
    have := hc 0 (by omega)
    rw [H0.out] at this
    exact this
  obtain ⟨wa, hwa⟩ : ∃ wa, wa = w2.alloc (.cells #[.string ⟨#[97]⟩, .string ⟨#[]⟩, .int .u8 48, .int .i64 0, .int .i64 0, .int .i64 0, .int .i64 0, .int .i64 9, .bool false] 25) := ⟨_, rfl⟩
  have hka : Kept noneB w2 wa := by rw [hwa]; exact (Kept.refl _ _).alloc _
  have hsa : wa.heap.size = w2.heap.size + 1 := by rw [hwa]; simp
  have HKA := Lib.hid hka
  have HR9 := Lib.hid (rowB_made wa 9)
  have HKB := Lib.hid ((Kept.refl noneB wa).alloc (.cells (madeCells #[.int .u8 0] 9) 5))
  have HWA := Lib.hid hwa
  have HSA := Lib.hid hsa
  have hZ9 : (((plainTo (List.replicate 9 (0 : UInt8)) 9 : Nat) : Int) == 0) = true := by
    rw [plainTo_zero.2 fun x hx => by simp only [List.getD, List.getElem?_replicate]; split <;> rfl]
    rfl
  have HZ9 := Lib.hid hZ9
  clear hk2 hka hsa hwa hZ9
  go_wp2_with fail
  rw [← HWA.out, ← HSA.out]
  have hb9 := HR9.out.bat
  rw [List.length_replicate] at hb9
  refine (zero_any _ 9 9 (List.replicate 9 0) _ (by omega) hb9).mono ?_
  rintro e w3 ⟨rfl, rfl⟩
  rw [HZ9.out]
  have HB3 := Lib.hid ((HB2.out.kept HKA.out (fun _ _ _ => id)).kept HKB.out (fun _ _ _ => id))
  clear hb9
  go_wp2_with fail
  refine (zero_any _ 512 512 bs _ (by omega) HB3.out).mono ?_
  rintro e w4 ⟨rfl, rfl⟩
  rw [HZ.out]
  go_wp2
  go_ret
  exact ⟨rfl, (HK2.out.trans HKA.out).trans HKB.out⟩
end Go.Proofs.YtdnelijkhinpcabDoor.Head
