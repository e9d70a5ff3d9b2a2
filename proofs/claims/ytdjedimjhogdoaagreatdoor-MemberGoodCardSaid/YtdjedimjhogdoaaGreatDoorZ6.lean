import Derived.Test.YtdjedimjhogdoaaGreatDoorZ5
import Derived.Deep.AppendLies
import Derived.Lib.SlBytesConst
import Derived.Carry
import Derived.Test.YtdjedimjhogdoaaGreatDoorZ1
import Derived.Laws.ResultCell
import Derived.Deep.RegionHeldLaw
import Derived.Shelf.Abstract
import Derived.Test.YtdjedimjhogdoaaGreatDoorZ3
import Derived.WalkSpells
import Derived.Lib.IndexBytes
import Derived.Laws.StructEq
section
namespace Go.Proofs.YtdjedimjhogdoaaGreatDoor.Field
open Go.ChangeShapes Go.WideShapes Go.ChangeAt Go.RowKit Go.Proofs.YtdjedimjhogdoaaGreatDoor.Base Go.Proofs.YtdjedimjhogdoaaGreatDoor.Num Go.Proofs.YtdjedimjhogdoaaGreatDoor.Fp Go.Proofs.YtdjedimjhogdoaaGreatDoor.Byt
set_option linter.unusedVariables false

theorem info256 : (Tryz.prog.info? (Tryz.lays7_ren.t 27)).map (fun i => (i.zero, i.size)) = some (some (.agg (Array.replicate 256 (.bool false))), 256) := by kernel_rfl
theorem trimLeft_any (p : Option Addr) (n c : Nat) (bs : List UInt8) (w : World) (hn : bs.length = n) (hc : n ≤ c) (hm : c ≤ maxLen) (h : BAt w p n bs) :
    Calls Tryz.prog 94 #[.slice p n c, .string ⟨#[32]⟩] w fun e w' => e = .returned (Lib.leftV p n c (n - (Lib.trimLeftS bs [32]).length)) ∧ Below w.heap.size w w' :=
  Any.bytes_TrimLeft_ascii Tryz.lays8 (zero_of_info info256).1 (zero_of_info info256).2 p n c bs ⟨#[32]⟩ w hn hc (by unfold maxLen at hm; omega) h (by decide) (fun j b hb => by
    match j, hb with
    | 0, hb => cases hb; decide
    | j + 1, hb => simp at hb)
theorem trimRight_any (p : Option Addr) (n c : Nat) (bs : List UInt8) (w : World) (hn : bs.length = n) (hc : n ≤ c) (hm : c ≤ maxLen) (h : BAt w p n bs) :
    Calls Tryz.prog 97 #[.slice p n c, .string ⟨#[32, 0]⟩] w fun e w' => e = .returned (.slice p (Lib.trimRightS bs [32, 0]).length c) ∧ Below w.heap.size w w' :=
  Any.bytes_TrimRight_ascii Tryz.lays7 (zero_of_info info256).1 (zero_of_info info256).2 p n c bs ⟨#[32, 0]⟩ w hn hc (by unfold maxLen at hm; omega) h (by decide) (fun j b hb => by
    match j, hb with
    | 0, hb => cases hb; decide
    | 1, hb => cases hb; decide
    | j + 2, hb => simp at hb)

theorem left_suffix (l cs : List UInt8) : (Lib.trimLeftS l cs).length ≤ l.length ∧ l.drop (l.length - (Lib.trimLeftS l cs).length) = Lib.trimLeftS l cs := by
  have h : Lib.trimLeftS l cs <:+ l := List.dropWhile_suffix _
  exact ⟨h.length_le, (List.suffix_iff_eq_drop.1 h).symm⟩
/-- what TrimLeft leaves, as bytes -/
theorem left_bat {w : World} {p : Option Addr} {n c : Nat} {bs : List UInt8} (h : BAt w p n bs) (hn : bs.length = n) (hc : n ≤ c) :
    ∃ p' c', Lib.leftV p n c (n - (Lib.trimLeftS bs [32]).length) = .slice p' (Lib.trimLeftS bs [32]).length c' ∧ (Lib.trimLeftS bs [32]).length ≤ c' ∧ c' ≤ c ∧ BAt w p' (Lib.trimLeftS bs [32]).length (Lib.trimLeftS bs [32]) := by
  obtain ⟨h1, h2⟩ := left_suffix bs [32]
  by_cases h0 : (Lib.trimLeftS bs [32]).length = 0
  · refine ⟨none, 0, ?_, by omega, by omega, fun hh => by omega⟩
    unfold Lib.leftV
    rw [h0]
    by_cases hn0 : n = 0
    · subst hn0; rfl
    · rw [if_pos (by omega)]
  · refine ⟨if c = n - (Lib.trimLeftS bs [32]).length then p else p.map (fun x => x.add (n - (Lib.trimLeftS bs [32]).length)), c - (n - (Lib.trimLeftS bs [32]).length), ?_, by omega, by omega, ?_⟩
    · unfold Lib.leftV Lib.fromV
      rw [if_neg (by omega), show n - (n - (Lib.trimLeftS bs [32]).length) = (Lib.trimLeftS bs [32]).length by omega]
    · have := h.drop (k := n - (Lib.trimLeftS bs [32]).length) (by omega) hc hn
      rw [show n - (n - (Lib.trimLeftS bs [32]).length) = (Lib.trimLeftS bs [32]).length by omega] at this
      rw [show bs.drop (n - (Lib.trimLeftS bs [32]).length) = Lib.trimLeftS bs [32] by rw [← hn]; exact h2] at this
      exact this

set_option maxHeartbeats 800000 in
theorem parse_any (p : Option Addr) (n c : Nat) (bs : List UInt8) (w : World) (hn : bs.length = n) (hc : n ≤ c) (hm : c ≤ maxLen) (h : BAt w p n bs) :
    Calls Tryz.prog 73 #[.slice p n c] w fun e w' => e = .returned (.tuple #[.int .i64 (valI (parseF bs)), .bool (okI (parseF bs))]) ∧ Below w.heap.size w w' := by
  have hm' := hm
  unfold maxLen at hm'
  by_cases h0 : n = 0
  · subst h0
    obtain rfl : bs = [] := List.eq_nil_of_length_eq_zero hn
    clear hn h
    go_enter Tryz.func73, Tryz.ntmps73
    go_wp2
    go_ret2
    exact ⟨rfl, Below.refl _ _⟩
  · obtain ⟨b, o, rfl, hbw, hcell⟩ := h.cell (k := 0) (by omega)
    have hx := hcell 0 (by omega)
    obtain ⟨x, l, rfl⟩ : ∃ x l, bs = x :: l := by cases bs with
      | nil => simp at hn; omega
      | cons x l => exact ⟨x, l, rfl⟩
    have hx : w.cell? ⟨b, o, none⟩ = some (.int .u8 x.toNat) := hx
    have HN := Lib.hid hn
    have H := Lib.hid h
    clear hn h hcell
    have hn0 : ((n : Int) == 0) = false := by simp; omega
    obtain ⟨y, hy⟩ : ∃ y : Int, y = (x.toNat : Int) := ⟨_, rfl⟩
    rw [← hy] at hx
    have HY := Lib.hid hy
    clear hy
    by_cases h128 : y = 128
    · have hb128 : (y == 128) = true := by simpa using h128
      have hl : l.length = n - 1 := by have := HN.out; simp at this; omega
      have E : Hid (parseF (x :: l) = digF 256 0 l 0) := Lib.hid (by rw [parseF, if_pos (by rw [← HY.out]; exact h128)])
      have T : Hid (BAt w (if c = 1 then some ⟨b, o, none⟩ else some ⟨b, o + 1, none⟩) (n - 1) l) := Lib.hid (fun hh => by
        obtain ⟨b', o', e, hc'⟩ := H.out (by omega)
        cases e
        rw [if_neg (by omega)]
        refine ⟨b, o + 1, rfl, fun i hi => ?_⟩
        rw [Nat.add_assoc, hc' (1 + i) (by omega), Nat.add_comm 1 i]
        rfl)
      have HL := Lib.hid hl
      have H128 := Lib.hid h128
      clear hl h128
      by_cases hc1 : c = 1
      · have T' := T.out
        rw [if_pos hc1] at T'
        have HT := Lib.hid T'
        clear T'
        go_enter Tryz.func73, Tryz.ntmps73
        go_wp2_with fail
        refine (number_any 256 0 _ (n - 1) _ l w (by omega) (by omega) (by omega) (by omega) HL.out (by unfold maxLen; omega) HT.out).mono ?_
        rintro e w' ⟨rfl, hb⟩
        go_wp2
        go_ret2
        rw [E.out]
        exact ⟨rfl, hb⟩
      · have T' := T.out
        rw [if_neg hc1] at T'
        have HT := Lib.hid T'
        clear T'
        go_enter Tryz.func73, Tryz.ntmps73
        go_wp2_with fail
        refine (number_any 256 0 _ (n - 1) _ l w (by omega) (by omega) (by omega) (by omega) HL.out (by unfold maxLen; omega) HT.out).mono ?_
        rintro e w' ⟨rfl, hb⟩
        go_wp2
        go_ret2
        rw [E.out]
        exact ⟨rfl, hb⟩
    · have hb128 : (y == 128) = false := by simpa using h128
      have E : Hid (parseF (x :: l) = digF 8 48 (Lib.trimRightS (Lib.trimLeftS (x :: l) [32]) [32, 0]) 0) := Lib.hid (by rw [parseF, if_neg (by rw [← HY.out]; exact h128)])
      obtain ⟨p', c', hv, hcl, hcc, hbat⟩ := left_bat H.out HN.out hc
      have HV := Lib.hid hv
      have HB := Lib.hid hbat
      clear hv hbat
      have hll : (Lib.trimLeftS (x :: l) [32]).length ≤ n := by have := (left_suffix (x :: l) [32]).1; rw [HN.out] at this; exact this
      obtain ⟨k, hk⟩ : ∃ k, k = (Lib.trimLeftS (x :: l) [32]).length := ⟨_, rfl⟩
      obtain ⟨m, hm2⟩ : ∃ m, m = (Lib.trimRightS (Lib.trimLeftS (x :: l) [32]) [32, 0]).length := ⟨_, rfl⟩
      have hmk : m ≤ k := by
        rw [hm2, hk]; exact Lib.trimRightS_len_le _ _
      have HK := Lib.hid hk
      have HM := Lib.hid hm2
      rw [← hk] at hll hcl
      clear hk hm2
      go_enter Tryz.func73, Tryz.ntmps73
      go_wp2_with fail
      refine (trimLeft_any _ n c (x :: l) w HN.out hc hm H.out).mono ?_
      rintro e w1 ⟨rfl, hb1⟩
      rw [HV.out, ← HK.out]
      go_wp2_with fail
      refine (trimRight_any p' k c' _ w1 HK.out.symm hcl (by omega) ((show BAt w p' k _ by rw [HK.out]; exact HB.out).below hb1)).mono ?_
      rintro e w2 ⟨rfl, hb2⟩
      rw [← HM.out]
      go_wp2_with fail
      refine (number_any 8 48 p' m c' (Lib.trimRightS (Lib.trimLeftS (x :: l) [32]) [32, 0]) w2 (by omega) (by omega) (by omega) (by omega) HM.out.symm (by unfold maxLen; omega)
        (by
          have h1 := ((show BAt w p' k _ by rw [HK.out]; exact HB.out).take hmk).below (hb1.trans (hb2.mono hb1.size))
          have h2 := Lib.trimRightS_eq_take (Lib.trimLeftS (x :: l) [32]) [32, 0]
          rw [← HM.out] at h2
          rw [h2]
          exact h1)).mono ?_
      rintro e w3 ⟨rfl, hb3⟩
      go_wp2
      go_ret2
      rw [E.out]
      exact ⟨rfl, (hb1.trans (hb2.mono hb1.size)).trans (hb3.mono (Nat.le_trans hb1.size hb2.size))⟩
end Go.Proofs.YtdjedimjhogdoaaGreatDoor.Field
end
section
namespace Go.Proofs.YtdjedimjhogdoaaGreatDoor.Field
open Go.ChangeShapes Go.WideShapes Go.ChangeAt Go.RowKit Go.Proofs.YtdjedimjhogdoaaGreatDoor.Base Go.Proofs.YtdjedimjhogdoaaGreatDoor.Num Go.Proofs.YtdjedimjhogdoaaGreatDoor.Fp Go.Proofs.YtdjedimjhogdoaaGreatDoor.Byt
set_option linter.unusedVariables false
set_option maxRecDepth 100000

theorem str_at (s : ByteArray) (k : Nat) (h : k < s.size) : s.data.toList.getD k 0 = s[k] := by
  rw [List.getD, List.getElem?_eq_getElem (show k < s.data.toList.length by simpa using h)]
  rfl
set_option maxHeartbeats 800000 in
theorem octal_any (s : ByteArray) (w : World) (hm : s.size ≤ maxLen) :
    Calls Tryz.prog 85 #[.string s] w fun e w' => e = .returned (.tuple #[.int .i64 (refO 8 48 576460752303423488 s.data.toList 0).1, .bool (refO 8 48 576460752303423488 s.data.toList 0).2]) ∧ w = w' := by
  unfold maxLen at hm
  go_enter Tryz.func85, Tryz.ntmps85
  go_wp2
  go_loop [4, 5] (fun s0 i => ∃ (k : Nat) (m : Int), k ≤ s.size ∧ 0 ≤ m ∧ m ≤ 4611686018427387911 ∧ i = .int .i64 k ∧ s0 = .int .i64 m ∧ Hid (refO 8 48 576460752303423488 (s.data.toList.drop k) m = refO 8 48 576460752303423488 s.data.toList 0)) (fun _ i => s.size - (RowKit.intOf i).toNat)
  case atStart => exact ⟨0, 0, Nat.zero_le _, by omega, by decide, rfl, rfl, Lib.hid rfl⟩
  case round =>
    obtain ⟨k, m, hk, hm0, hm1, rfl, rfl, hr⟩ := hrel
    by_cases hlt : k < s.size
    · have hlen : k < s.data.toList.length := by simpa using hlt
      have hg := str_at s k hlt
      have HG := Lib.hid hg
      have HL := Lib.hid hlen
      clear hg hlen
      have hxb := u8_bd s[k]
      obtain ⟨hx0, hx1⟩ := hxb
      go_wp2
      case roundEnd =>
        go_round
        case rel => exact ⟨k + 1, m * 8 + ((s[k].toNat : Int) - 48), by omega, by omega, by omega, by go_num, rfl, Lib.hid (by
          rw [← hr.out, refO_step 8 48 576460752303423488 s.data.toList k m HL.out (by rw [HG.out]; omega), HG.out]; rfl)⟩
        case measure => simp [RowKit.intOf]; omega
      all_goals
        go_ret2
        have E : refO 8 48 576460752303423488 s.data.toList 0 = (0, false) := by
          rw [← hr.out]; exact refO_stop 8 48 576460752303423488 s.data.toList k m HL.out (by rw [HG.out]; omega)
        rw [E]
        exact ⟨rfl, rfl⟩
    · have hkl : Hid (k = s.size) := Lib.hid (by omega)
      go_wp2
      go_ret2
      have E : refO 8 48 576460752303423488 s.data.toList 0 = (m, decide (m ≤ 4611686018427387904)) := by
        rw [← hr.out, hkl.out, List.drop_eq_nil_of_le (by simp)]; rfl
      rw [E]
      exact ⟨rfl, rfl⟩

/-- what the document's own Field answers -/
def refParse : List UInt8 → Int × Bool
  | [] => (0, false)
  | c :: l => if (c.toNat : Int) = 128 then refO 256 0 18014398509481984 l 0 else refO 8 48 576460752303423488 (Lib.trimRightS (Lib.trimLeftS (c :: l) [32]) [32, 0]) 0
theorem refParse_is (bs : List UInt8) : (refParse bs).2 = okI (parseF bs) ∧ (okI (parseF bs) = true → (refParse bs).1 = valI (parseF bs)) := by
  cases bs with
  | nil => exact ⟨rfl, fun h => by simp [parseF, okI] at h⟩
  | cons c l =>
    rw [refParse, parseF]
    split
    · exact refO_dig256 l 0 (by omega) (by omega)
    · exact refO_dig8 _ 0 (by omega) (by omega)

set_option maxHeartbeats 1000000 in
theorem rfield_any (p : Option Addr) (n c : Nat) (bs : List UInt8) (w : World) (hn : bs.length = n) (hc : n ≤ c) (hm : c ≤ maxLen) (h : BAt w p n bs) :
    Calls Tryz.prog 55 #[.slice p n c] w fun e w' => e = .returned (.tuple #[.int .i64 (refParse bs).1, .bool (refParse bs).2]) ∧ w = w' := by
  have hm' := hm
  unfold maxLen at hm'
  by_cases h0 : n = 0
  · subst h0
    obtain rfl : bs = [] := List.eq_nil_of_length_eq_zero hn
    clear hn h
    go_enter Tryz.func55, Tryz.ntmps55
    go_wp2
    go_ret2
    exact ⟨rfl, rfl⟩
  · obtain ⟨b, o, rfl, hbw, hcell⟩ := h.cell (k := 0) (by omega)
    have hx := hcell 0 (by omega)
    obtain ⟨x, l, rfl⟩ : ∃ x l, bs = x :: l := by cases bs with
      | nil => simp at hn; omega
      | cons x l => exact ⟨x, l, rfl⟩
    have hx : w.cell? ⟨b, o, none⟩ = some (.int .u8 x.toNat) := hx
    have HN := Lib.hid hn
    have H := Lib.hid h
    have HC := Lib.hid hcell
    clear hn h hcell
    have hn0 : ((n : Int) == 0) = false := by simp; omega
    obtain ⟨y, hy⟩ : ∃ y : Int, y = (x.toNat : Int) := ⟨_, rfl⟩
    rw [← hy] at hx
    have HY := Lib.hid hy
    clear hy
    by_cases h128 : y = 128
    · have hb128 : (y == 128) = true := by simpa using h128
      have E : Hid (refParse (x :: l) = refO 256 0 18014398509481984 l 0) := Lib.hid (by rw [refParse, if_pos (by rw [← HY.out]; exact h128)])
      clear h128
      go_enter Tryz.func55, Tryz.ntmps55
      go_wp2
      go_loop [4, 5] (fun s0 i => ∃ (k : Nat) (m : Int), 1 ≤ k ∧ k ≤ n ∧ 0 ≤ m ∧ m ≤ 4611686018427388159 ∧ i = .int .i64 k ∧ s0 = .int .i64 m ∧ Hid (refO 256 0 18014398509481984 ((x :: l).drop k) m = refO 256 0 18014398509481984 l 0)) (fun _ i => n - (RowKit.intOf i).toNat)
      case atStart => exact ⟨1, 0, by omega, by omega, by omega, by decide, rfl, rfl, Lib.hid rfl⟩
      case round =>
        obtain ⟨k, m, hk1, hk, hm0, hm1, rfl, rfl, hr⟩ := hrel
        by_cases hlt : k < n
        · have hcz := HC.out k hlt
          have hzb := u8_bd ((x :: l).getD k 0)
          obtain ⟨z, hz⟩ : ∃ z : Int, z = (((x :: l).getD k 0).toNat : Int) := ⟨_, rfl⟩
          rw [← hz] at hcz hzb
          have HZ := Lib.hid hz
          clear hz
          obtain ⟨hz0, hz1⟩ := hzb
          go_wp2
          case roundEnd =>
            go_round
            case rel => exact ⟨k + 1, m * 256 + z, by omega, by omega, by omega, by omega, by go_num, rfl, Lib.hid (by
              rw [← hr.out, refO_step 256 0 18014398509481984 (x :: l) k m (by rw [HN.out]; exact hlt) (by rw [← HZ.out]; omega), ← HZ.out, Int.sub_zero])⟩
            case measure => simp [RowKit.intOf]; omega
          go_ret2
          have E2 : refO 256 0 18014398509481984 l 0 = (0, false) := by
            rw [← hr.out]; exact refO_stop 256 0 18014398509481984 (x :: l) k m (by rw [HN.out]; exact hlt) (by rw [← HZ.out]; omega)
          rw [E.out, E2]
          exact ⟨rfl, rfl⟩
        · have hkl : Hid (k = n) := Lib.hid (by omega)
          go_wp2
          go_ret2
          have E2 : refO 256 0 18014398509481984 l 0 = (m, decide (m ≤ 4611686018427387904)) := by
            rw [← hr.out, hkl.out, ← HN.out, List.drop_length]; rfl
          rw [E.out, E2]
          exact ⟨rfl, rfl⟩
    · have hb128 : (y == 128) = false := by simpa using h128
      have E : Hid (refParse (x :: l) = refO 8 48 576460752303423488 (Lib.trimRightS (Lib.trimLeftS (x :: l) [32]) [32, 0]) 0) := Lib.hid (by rw [refParse, if_neg (by rw [← HY.out]; exact h128)])
      clear h128
      go_enter Tryz.func55, Tryz.ntmps55
      go_wp2
      go_loop [6] (fun i => ∃ (k : Nat), k ≤ n ∧ i = .int .i64 k ∧ Hid (∀ q, q < k → (x :: l).getD q 0 = 32)) (fun i => n - (RowKit.intOf i).toNat)
      case atStart => exact ⟨0, by omega, rfl, Lib.hid (fun q hq => by omega)⟩
      case round =>
        obtain ⟨k, hk, rfl, hr⟩ := hrel
        obtain ⟨z, hz⟩ : ∃ z : Int, z = (((x :: l).getD k 0).toNat : Int) := ⟨_, rfl⟩
        have hcz : k < n → w.cell? ⟨b, o + k, none⟩ = some (.int .u8 z) := fun hlt => by rw [HC.out k hlt, hz]
        have HZ := Lib.hid hz
        clear hz
        go_wp2
        case roundEnd =>
          have hz32 : (z == 32) = true := by assumption
          rw [beq_iff_eq] at hz32
          have hlt : k < n := by assumption
          go_round
          case rel => exact ⟨k + 1, by omega, by go_num, Lib.hid (fun q hq => by
            rcases Nat.lt_succ_iff_lt_or_eq.1 hq with h | rfl
            · exact hr.out q h
            · apply UInt8.toNat_inj.1
              have := HZ.out
              show _ = 32
              omega)⟩
          case measure => simp [RowKit.intOf]; omega
        all_goals
          have HS : Hid (k < n → (x :: l).getD k 0 ≠ 32) := Lib.hid (fun hlt' h32 => by
            have hzz := HZ.out
            rw [h32] at hzz
            have hz32 : z = 32 := hzz
            first | omega | (have hf := ‹(z == 32) = false›; rw [hz32] at hf; exact absurd hf (by decide)))
          clear hcz
          go_loop [7] (fun i => ∃ (j : Nat), k ≤ j ∧ j ≤ n ∧ i = .int .i64 j ∧ Hid (∀ q, j ≤ q → q < n → (x :: l).getD q 0 = 32 ∨ (x :: l).getD q 0 = 0)) (fun i => (RowKit.intOf i).toNat)
          case atStart => exact ⟨n, by omega, by omega, rfl, Lib.hid (fun q hq hq2 => by omega)⟩
          case round =>
            obtain ⟨j, hkj, hjn, rfl, hr3⟩ := hrel
            obtain ⟨t, ht⟩ : ∃ t : Int, t = (((x :: l).getD (j - 1) 0).toNat : Int) := ⟨_, rfl⟩
            have hct : k < j → w.cell? ⟨b, o + (j - 1), none⟩ = some (.int .u8 t) := fun hlt => by rw [HC.out (j - 1) (by omega), ht]
            have HT := Lib.hid ht
            clear ht
            obtain ⟨str, hstr⟩ : ∃ str : ByteArray, str = ⟨(((x :: l).drop k).take (j - k)).toArray⟩ := ⟨_, rfl⟩
            have hsl : (((x :: l).drop k).take (j - k)).length = j - k := by rw [List.length_take, List.length_drop, HN.out]; omega
            have cv1 : (convert 22 9 (.slice (some ⟨b, o + k, none⟩) (j - k) (c - k))).run Tryz.prog w = .ok (.string str) w := by
              rw [hstr]
              refine conv_at (fun hh => ⟨b, o + k, rfl, fun i hi => ?_⟩) hsl _ _ _ Tryz.underlying22 Tryz.underlying5 Tryz.underlying9 _
              rw [Nat.add_assoc, HC.out (k + i) (by omega)]
              simp [List.getD, hi]
            have cv2 : c = k → (convert 22 9 (.slice (some ⟨b, o, none⟩) (j - k) 0)).run Tryz.prog w = .ok (.string str) w := fun hck => by
              rw [hstr]
              exact conv_at (fun hh => by omega) hsl _ _ _ Tryz.underlying22 Tryz.underlying5 Tryz.underlying9 _
            have hsz : str.size ≤ maxLen := by
              have e : str.size = j - k := by rw [hstr]; exact hsl
              rw [e]; unfold maxLen; omega
            have HST := Lib.hid hstr
            clear hstr hsl
            go_wp2_with (go_at_call 85; refine (octal_any _ _ hsz).mono ?_; rintro e w' ⟨rfl, rfl⟩)
            all_goals first
              | (go_round
                 case rel =>
                   have ht2 : t = 32 ∨ t = 0 := by
                     first
                       | exact Or.inl ‹t = 32›
                       | (rcases ‹(t == 32) = true ∨ (t == 0) = true› with h | h
                          · exact Or.inl (by simpa using h)
                          · exact Or.inr (by simpa using h))
                   have hkj' : k < j := by assumption
                   refine ⟨j - 1, by omega, by omega, by go_num, Lib.hid (fun q hq hq2 => ?_)⟩
                   by_cases hqj : q = j - 1
                   · subst hqj
                     have := HT.out
                     rcases ht2 with h | h
                     · exact Or.inl (UInt8.toNat_inj.1 (by show _ = 32; omega))
                     · exact Or.inr (UInt8.toNat_inj.1 (by show _ = 0; omega))
                   · exact hr3.out q (by omega) hq2
                 case measure => simp [RowKit.intOf]; omega)
              | (go_ret2
                 have hst : k < j → (x :: l).getD (j - 1) 0 ≠ 32 ∧ (x :: l).getD (j - 1) 0 ≠ 0 := fun hlt' => by
                   have hf : ¬ t = 32 ∧ ¬ t = 0 := by
                     first
                       | (exfalso; omega)
                       | (have hh := ‹(t == 32) = false ∧ (t == 0) = false›; simpa using hh)
                   have := HT.out
                   constructor <;> intro h <;> rw [h] at this
                   · exact hf.1 this
                   · exact hf.2 this
                 have E3 : Lib.trimRightS (Lib.trimLeftS (x :: l) [32]) [32, 0] = str.data.toList := by
                   rw [HST.out]
                   exact trim_between (x :: l) k j hkj (by rw [HN.out]; exact hjn) hr.out (fun hlt' => ⟨HS.out (by omega), hst hlt'⟩) (fun q hq hq2 => hr3.out q hq (by rw [← HN.out]; exact hq2)) (fun hlt' => HS.out (by rw [← HN.out]; exact hlt'))
                 rw [E.out, E3]
                 exact ⟨rfl, rfl⟩)
end Go.Proofs.YtdjedimjhogdoaaGreatDoor.Field
end
section
namespace Go.Proofs.YtdjedimjhogdoaaGreatDoor.Field
open Go.ChangeShapes Go.WideShapes Go.ChangeAt Go.RowKit Go.Proofs.YtdjedimjhogdoaaGreatDoor.Base Go.Proofs.YtdjedimjhogdoaaGreatDoor.Num Go.Proofs.YtdjedimjhogdoaaGreatDoor.Fp Go.Proofs.YtdjedimjhogdoaaGreatDoor.Byt
set_option linter.unusedVariables false

theorem infoByte : (Tryz.prog.info? 5).map (fun i => (i.zero, i.size, i.bytes)) = some (some (.int .u8 0), 1, 1) := by kernel_rfl
/-- zeros ahead of digits that are laid already -/
def lie (j : Nat) (tl : List Int) : List Value := (List.replicate j (0 : Int) ++ tl).map (Value.int .u8)
theorem lie_set (j : Nat) (tl : List Int) (x : Int) : (lie (j + 1) tl).set j (.int .u8 x) = lie j (x :: tl) := by
  unfold lie
  rw [← List.map_set, List.set_append_left _ _ (by simp)]
  congr 1
  rw [List.replicate_succ', List.set_append_right _ _ (by simp)]
  simp
theorem lie_get (j k : Nat) (tl : List Int) (h : k < j) : (lie j tl)[k]? = some (.int .u8 0) := by
  unfold lie
  rw [List.getElem?_map, List.getElem?_append_left (by simpa using h), List.getElem?_replicate, if_pos h]
  rfl
theorem lie_made (n : Nat) : (madeCells #[Value.int .u8 0] n).toList = lie n [] := by
  rw [toList_madeCells_one, lie, List.append_nil, List.map_replicate]
def LieRow (w0 wr : World) (count j : Nat) (tl : List Int) : Prop :=
  wr.ownsRow w0.heap.size 5 1 (.slice (some ⟨w0.heap.size, 0, none⟩) count count) count (lie j tl) ∧ Below w0.heap.size w0 wr
theorem LieRow.cell {w0 wr : World} {count j : Nat} {tl : List Int} (h : LieRow w0 wr count j tl) (k : Nat) (hk : k < j) (hj : j ≤ count) : wr.cell? ⟨w0.heap.size, k, none⟩ = some (.int .u8 0) := by
  rw [h.1.cellAt k (by omega), lie_get j k tl hk]
theorem LieRow.frozen {w0 wr : World} {count j : Nat} {tl : List Int} (h : LieRow w0 wr count j tl) (k : Nat) : wr.frozen? ⟨w0.heap.size, k, none⟩ = false := h.1.frozenAt k
theorem LieRow.store {w0 wr : World} {count j : Nat} {tl : List Int} (h : LieRow w0 wr count (j + 1) tl) (x : Int) : LieRow w0 (wr.setCell ⟨w0.heap.size, j, none⟩ (.int .u8 x)) count j (x :: tl) := by
  have := (h.1.stored j (.int .u8 x)).1
  rw [lie_set] at this
  exact ⟨this, h.2.setCell (by simp) _⟩
theorem LieRow.ints {w0 wr : World} {count : Nat} {tl : List Int} (h : LieRow w0 wr count 0 tl) : wr.ownsRow w0.heap.size 5 1 (.slice (some ⟨w0.heap.size, 0, none⟩) count count) count (tl.map (Value.int .u8)) := h.1

/-- what digits leaves -/
def DigPost (w : World) (base zero n : Int) (count : Nat) (e : Ending) (w' : World) : Prop :=
  (restD base count n = 0 ∧ e = .returned (.tuple #[.slice (some ⟨w.heap.size, 0, none⟩) count count, .bool true]) ∧ LieRow w w' count 0 (putD base zero count n)) ∨
  (restD base count n ≠ 0 ∧ e = .returned (.tuple #[.slice none 0 0, .bool false]) ∧ Below w.heap.size w w')
/-- what Put leaves: a row of its own that holds the bytes, or nothing -/
def PutPost (w : World) (r : Option (List Int)) (e : Ending) (w' : World) : Prop :=
  Below w.heap.size w w' ∧
  ((∃ l v, r = some l ∧ e = .returned (.tuple #[v, .bool true]) ∧ w'.ownsRow w.heap.size 5 1 v l.length (l.map (Value.int .u8))) ∨
   (r = none ∧ e = .returned (.tuple #[.slice none 0 0, .bool false])))
theorem below_trans {w w1 w2 : World} (h1 : Below w.heap.size w w1) (h2 : Below w1.heap.size w1 w2) : Below w.heap.size w w2 := h1.trans (h2.mono h1.size)
end Go.Proofs.YtdjedimjhogdoaaGreatDoor.Field
end
section
namespace Go.Proofs.YtdjedimjhogdoaaGreatDoor.Field
open Go.ChangeShapes Go.WideShapes Go.ChangeAt Go.RowKit Go.Proofs.YtdjedimjhogdoaaGreatDoor.Base Go.Proofs.YtdjedimjhogdoaaGreatDoor.Num Go.Proofs.YtdjedimjhogdoaaGreatDoor.Fp Go.Proofs.YtdjedimjhogdoaaGreatDoor.Byt
set_option linter.unusedVariables false
set_option maxRecDepth 100000

/-- a row of the call's own: j bytes of any kind, then tl -/
def PreRow (w0 wr : World) (count j : Nat) (tl : List Int) : Prop :=
  ∃ pre : List Int, pre.length = j ∧ wr.ownsRow w0.heap.size 5 1 (.slice (some ⟨w0.heap.size, 0, none⟩) count count) count ((pre ++ tl).map (Value.int .u8)) ∧ Below w0.heap.size w0 wr
theorem PreRow.cell {w0 wr : World} {count j : Nat} {tl : List Int} (h : PreRow w0 wr count j tl) (k : Nat) (hk : k < j) (hj : j ≤ count) : ∃ v, wr.cell? ⟨w0.heap.size, k, none⟩ = some v := by
  obtain ⟨pre, hp, h, _⟩ := h
  rw [h.cellAt k (by omega), List.getElem?_map, List.getElem?_append_left (by omega), List.getElem?_eq_getElem (by omega)]
  exact ⟨_, rfl⟩
theorem PreRow.frozen {w0 wr : World} {count j : Nat} {tl : List Int} (h : PreRow w0 wr count j tl) (k : Nat) : wr.frozen? ⟨w0.heap.size, k, none⟩ = false := by
  obtain ⟨pre, hp, h, _⟩ := h
  exact h.frozenAt k
theorem PreRow.store {w0 wr : World} {count j : Nat} {tl : List Int} (h : PreRow w0 wr count (j + 1) tl) (x : Int) : PreRow w0 (wr.setCell ⟨w0.heap.size, j, none⟩ (.int .u8 x)) count j (x :: tl) := by
  obtain ⟨pre, hp, h, hb⟩ := h
  refine ⟨pre.take j, by rw [List.length_take]; omega, ?_, hb.setCell (by simp) _⟩
  have := (h.stored j (.int .u8 x)).1
  rw [← List.map_set] at this
  rw [show pre.take j ++ x :: tl = (pre ++ tl).set j x by
    rw [List.set_append_left _ _ (by omega)]
    have e : pre = pre.take j ++ [pre.getD j 0] := by
      have hj : j < pre.length := by omega
      have := List.take_succ_eq_append_getElem hj
      rw [show j + 1 = pre.length by omega, List.take_length] at this
      simpa [List.getD, hj] using this
    conv => rhs; rw [e]
    rw [List.set_append_right _ _ (by rw [List.length_take]; omega)]
    rw [List.length_take, show j - min j pre.length = 0 by omega]
    simp]
  exact this
theorem PreRow.ints {w0 wr : World} {count : Nat} {tl : List Int} (h : PreRow w0 wr count 0 tl) : wr.ownsRow w0.heap.size 5 1 (.slice (some ⟨w0.heap.size, 0, none⟩) count count) count (tl.map (Value.int .u8)) ∧ Below w0.heap.size w0 wr := by
  obtain ⟨pre, hp, h, hb⟩ := h
  obtain rfl : pre = [] := List.eq_nil_of_length_eq_zero hp
  exact ⟨h, hb⟩
theorem LieRow.pre {w0 wr : World} {count : Nat} {tl : List Int} (h : LieRow w0 wr count 0 tl) : PreRow w0 wr count count [] := by
  have hl : tl.length = count := by have := h.1.1; simpa [lie] using this
  exact ⟨tl, hl, by rw [List.append_nil]; exact h.1, h.2⟩

set_option maxHeartbeats 1000000 in
theorem rput_any (n wide : Int) (w : World) (w0 : (Lit.int .i64 n).wf = true) (w1 : (Lit.int .i64 wide).wf = true) :
    Calls Tryz.prog 46 #[.int .i64 n, .int .i64 wide] w (PutPost w (putF n wide)) := by
  obtain ⟨hn1, hn2⟩ := wf64 w0
  obtain ⟨hw1, hw2⟩ := wf64 w1
  clear w0 w1
  by_cases hn : 0 ≤ n ∧ n ≤ 4611686018427387904
  · obtain ⟨h0, h1⟩ := hn
    by_cases hw : 2 ≤ wide ∧ wide ≤ 100
    · obtain ⟨c, rfl⟩ : ∃ c : Nat, wide = (c : Int) + 1 := ⟨(wide - 1).toNat, by omega⟩
      have hc : 1 ≤ c ∧ c ≤ 99 := by omega
      obtain ⟨hc1, hc2⟩ := hc
      clear hw hw1 hw2 hn1 hn2
      have EP : Hid (putF n ((c : Int) + 1) = if restD 8 c n = 0 then some (putD 8 48 c n ++ [0]) else if restD 256 c n = 0 then some (128 :: putD 256 0 c n) else none) := Lib.hid (by
        rw [putF, if_pos ⟨h0, h1, by omega, by omega⟩, show ((c : Int) + 1 - 1).toNat = c by omega])
      obtain ⟨i0, hi, hz0, hz1, hz2⟩ := info_parts infoByte
      have HI := Lib.hid hi
      have HZ0 := Lib.hid hz0
      have HZ1 := Lib.hid hz1
      have HZ2 := Lib.hid hz2
      clear hi hz0 hz1 hz2
      go_enter Tryz.func46, Tryz.ntmps46
      go_wp2_with (first | (go_at_call 66; refine (may_yes _ _ (by omega) (by omega)).mono ?_; rintro e w' ⟨rfl, rfl⟩) | (at_make; refine wpList_make_full _ rfl _ _ 22 rfl w.heap.size 5 i0 (.int .u8 0) 1 Tryz.underlying22 HI.out HZ0.out HZ1.out .i64 .i64 ((c : Int) + 1) ((c : Int) + 1) (c + 1) rfl rfl (by omega) (by omega) (by rw [HZ2.out]; omega) (by unfold maxLen; omega) (Nat.le_refl _) ?_))
      intro w1 hown hgrow
      have HR : LieRow w w1 (c + 1) (c + 1) [] := ⟨by rw [← lie_made]; exact hown, (Below.refl _ _).grown hgrow (Nat.le_refl _) (by intro k hk; cases hk)⟩
      clear hown hgrow
      have HRH := Lib.hid (show LieRow w w1 (c + 1) c [0] from ⟨by
        have := HR.1
        rw [show lie (c + 1) [] = lie c [0] by unfold lie; rw [List.append_nil, List.replicate_succ']] at this
        exact this, HR.2⟩)
      clear HR
      go_wp2
      go_loopw [7, 8] (fun s i wr => ∃ (j : Nat) (m : Int) (tl : List Int), j ≤ c ∧ 0 ≤ m ∧ m ≤ 4611686018427387904 ∧ i = .int .i64 ((j : Int) - 1) ∧ s = .int .i64 m ∧ Hid (putD 8 48 j m ++ tl = putD 8 48 c n ∧ restD 8 j m = restD 8 c n) ∧ Hid (LieRow w wr (c + 1) j (tl ++ [0]))) (fun _ i _ => (RowKit.intOf i + 1).toNat)
      case atStart => exact ⟨c, n, [], Nat.le_refl _, h0, h1, by go_num, rfl, Lib.hid ⟨List.append_nil _, rfl⟩, HRH⟩
      case round =>
        obtain ⟨j, m, tl, hj, hm0, hm1, rfl, rfl, hr, hl⟩ := hrel
        by_cases hlt : 0 < j
        · obtain ⟨j', rfl⟩ : ∃ j', j = j' + 1 := ⟨j - 1, by omega⟩
          have hcell := hl.out.cell j' (by omega) (by omega)
          have hfz := hl.out.frozen j'
          go_wp2_with fail
          go_roundw
          case rel => exact ⟨j', m / 8, (48 + m % 8) :: tl, by omega, by omega, by omega, rfl, rfl, Lib.hid ⟨by rw [← hr.out.1, putD, List.append_assoc]; rfl, hr.out.2⟩, Lib.hid (hl.out.store _)⟩
          case measure => simp [RowKit.intOf]
        · obtain rfl : j = 0 := by omega
          have hrest := hr.out.2
          have hput := hr.out.1
          have hrow := hl.out
          rw [show putD 8 48 0 m = [] from rfl, List.nil_append] at hput
          rw [show restD 8 0 m = m from rfl] at hrest
          have HRE := Lib.hid hrest
          have HPU := Lib.hid hput
          have HRW := Lib.hid hrow
          clear hrest hput hrow hr hl
          by_cases hm : m = 0
          · have hmb : (m == 0) = true := by simpa using hm
            have EQ : Hid (putF n ((c : Int) + 1) = some (putD 8 48 c n ++ [0])) := Lib.hid (by rw [EP.out, if_pos (by rw [← HRE.out]; exact hm)])
            clear hm
            go_wp2_with fail
            go_ret2
            refine ⟨HRW.out.2, Or.inl ⟨_, _, EQ.out, rfl, ?_⟩⟩
            have := HRW.out.ints
            rw [HPU.out] at this
            rw [List.length_append, putD_length]
            exact this
          · have hmb : (m == 0) = false := by simpa using hm
            have hm' : Hid (¬ restD 8 c n = 0) := Lib.hid (by rw [← HRE.out]; exact hm)
            have HP := Lib.hid HRW.out.pre
            clear hm
            go_wp2_with fail
            go_loopw [7, 9] (fun s i wr => ∃ (j : Nat) (m : Int) (tl : List Int), j ≤ c ∧ 0 ≤ m ∧ m ≤ 4611686018427387904 ∧ i = .int .i64 (j : Int) ∧ s = .int .i64 m ∧ Hid (putD 256 0 j m ++ tl = putD 256 0 c n ∧ restD 256 j m = restD 256 c n) ∧ Hid (PreRow w wr (c + 1) (j + 1) tl)) (fun _ i _ => (RowKit.intOf i).toNat)
            case atStart => exact ⟨c, n, [], Nat.le_refl _, h0, h1, by go_num, rfl, Lib.hid ⟨List.append_nil _, rfl⟩, HP⟩
            case round =>
              obtain ⟨j, m2, tl2, hj, hm0, hm1, rfl, rfl, hr, hl⟩ := hrel
              by_cases hlt2 : 0 < j
              · obtain ⟨v, hcell⟩ := hl.out.cell j (by omega) (by omega)
                have hfz := hl.out.frozen j
                go_wp2_with fail
                go_roundw
                case rel => exact ⟨j - 1, m2 / 256, m2 % 256 :: tl2, by omega, by omega, by omega, by go_num, rfl, Lib.hid (by
                  obtain ⟨j', rfl⟩ : ∃ j', j = j' + 1 := ⟨j - 1, by omega⟩
                  have := hr.out
                  rw [putD, List.append_assoc, Int.zero_add] at this
                  exact this), Lib.hid (by
                  obtain ⟨j', rfl⟩ : ∃ j', j = j' + 1 := ⟨j - 1, by omega⟩
                  exact hl.out.store _)⟩
                case measure => simp [RowKit.intOf]; omega
              · obtain rfl : j = 0 := by omega
                have hrest := hr.out.2
                have hput := hr.out.1
                have hrow := hl.out
                rw [show putD 256 0 0 m2 = [] from rfl, List.nil_append] at hput
                rw [show restD 256 0 m2 = m2 from rfl] at hrest
                obtain ⟨v, hcell⟩ := hrow.cell 0 (by omega) (by omega)
                have hfz := hrow.frozen 0
                have HRE2 := Lib.hid hrest
                have HPU2 := Lib.hid hput
                have HRW2 := Lib.hid (hrow.store 128).ints
                clear hrest hput hrow hr hl
                by_cases hm2 : 0 < m2
                · have EQ : Hid (putF n ((c : Int) + 1) = none) := Lib.hid (by rw [EP.out, if_neg hm'.out, if_neg (by rw [← HRE2.out]; omega)])
                  go_wp2_with fail
                  go_ret2
                  exact ⟨HRW2.out.2, Or.inr ⟨EQ.out, rfl⟩⟩
                · have EQ : Hid (putF n ((c : Int) + 1) = some (128 :: putD 256 0 c n)) := Lib.hid (by rw [EP.out, if_neg hm'.out, if_pos (by rw [← HRE2.out]; omega)])
                  go_wp2_with fail
                  go_ret2
                  refine ⟨HRW2.out.2, Or.inl ⟨_, _, EQ.out, rfl, ?_⟩⟩
                  have := HRW2.out.1
                  rw [HPU2.out] at this
                  rw [List.length_cons, putD_length]
                  exact this
    · have EQ : Hid (putF n wide = none) := Lib.hid (by rw [putF, if_neg (by omega)])
      by_cases hw3 : wide < 2
      · go_enter Tryz.func46, Tryz.ntmps46
        go_wp2_with (go_at_call 66; refine (may_yes _ _ (by omega) (by omega)).mono ?_; rintro e w' ⟨rfl, rfl⟩)
        go_ret2
        exact ⟨Below.refl _ _, Or.inr ⟨EQ.out, rfl⟩⟩
      · have hw4 : 100 < wide := by omega
        go_enter Tryz.func46, Tryz.ntmps46
        go_wp2_with (go_at_call 66; refine (may_yes _ _ (by omega) (by omega)).mono ?_; rintro e w' ⟨rfl, rfl⟩)
        go_ret2
        exact ⟨Below.refl _ _, Or.inr ⟨EQ.out, rfl⟩⟩
  · have EQ : Hid (putF n wide = none) := Lib.hid (by rw [putF, if_neg (by omega)])
    go_enter Tryz.func46, Tryz.ntmps46
    go_wp2_with (go_at_call 66; refine (may_no _ _ hn).mono ?_; rintro e w' ⟨rfl, rfl⟩)
    go_ret2
    exact ⟨Below.refl _ _, Or.inr ⟨EQ.out, rfl⟩⟩
end Go.Proofs.YtdjedimjhogdoaaGreatDoor.Field
end
section
namespace Go.Proofs.YtdjedimjhogdoaaGreatDoor.Field
open Go.ChangeShapes Go.WideShapes Go.ChangeAt Go.RowKit Go.Proofs.YtdjedimjhogdoaaGreatDoor.Base Go.Proofs.YtdjedimjhogdoaaGreatDoor.Num Go.Proofs.YtdjedimjhogdoaaGreatDoor.Fp Go.Proofs.YtdjedimjhogdoaaGreatDoor.Byt
set_option linter.unusedVariables false
open Go.Lib (bytesOf)

theorem vI_some (x : Int) : valI (some x) = x := rfl
theorem oI_some (x : Int) : okI (some x) = true := rfl
theorem vI_none : valI none = 0 := rfl
theorem oI_none : okI none = false := rfl
/-- what Put leaves, as a slice of bytes -/
theorem put_bat {w w' : World} {r : Option (List Int)} {n wide : Int} (hr : r = putF n wide) {l : List Int} {v : Value} (h : r = some l) (hown : w'.ownsRow w.heap.size 5 1 v l.length (l.map (Value.int .u8))) :
    ∃ p c, v = .slice p l.length c ∧ l.length ≤ c ∧ c ≤ maxLen ∧ BAt w' p l.length (bytesOf l) ∧ (bytesOf l).length = l.length :=
  bat_of_own hown (putF_bd (hr ▸ h))
/-- a list of bytes that has just been laid -/
theorem new_bat (w : World) (l : List Int) (t : TypeId) (hl : ∀ x ∈ l, 0 ≤ x ∧ x < 256) : BAt (w.alloc (.cells (l.map (Value.int .u8)).toArray t)) (some ⟨w.heap.size, 0, none⟩) l.length (bytesOf l) :=
  bat_of_ints rfl hl fun h0 => ⟨_, 0, rfl, fun i hi => by
    rw [World.cell?_alloc_at _ _ _ _ rfl, Nat.zero_add]
    simp [List.getD, hi]⟩
/-- a constant list of bytes: the row is laid, and marked behind its end -/
theorem const_bat (w : World) (l : List Int) (t : TypeId) (fr : Nat × Nat) (hl : ∀ x ∈ l, 0 ≤ x ∧ x < 256) : BAt (w.alloc (.cells (l.map (Value.int .u8)).toArray t fr)) (some ⟨w.heap.size, 0, none⟩) l.length (bytesOf l) :=
  bat_of_ints rfl hl fun h0 => ⟨_, 0, rfl, fun i hi => by
    rw [World.cell?_alloc_mark, Nat.zero_add]
    simp [List.getD, hi]⟩
end Go.Proofs.YtdjedimjhogdoaaGreatDoor.Field
end
section
namespace Go.Proofs.YtdjedimjhogdoaaGreatDoor.Head
open Go.ChangeShapes Go.WideShapes Go.ChangeAt Go.RowKit Go.Proofs.YtdjedimjhogdoaaGreatDoor.Base Go.Proofs.YtdjedimjhogdoaaGreatDoor.Byt Go.Proofs.YtdjedimjhogdoaaGreatDoor.Txt Go.Proofs.YtdjedimjhogdoaaGreatDoor.Hp Go.Proofs.YtdjedimjhogdoaaGreatDoor.Mp Go.Proofs.YtdjedimjhogdoaaGreatDoor.Fp Go.Proofs.YtdjedimjhogdoaaGreatDoor.Field Go.Lib
set_option linter.unusedVariables false
set_option maxRecDepth 100000

/-- five numbers by their fields -/
def numF (vals : Nat → Int) : Nat → Option Value := fun i => if 1 ≤ i ∧ i ≤ 5 then some (.int .i64 (vals i)) else none
theorem numF_val (vals : Nat → Int) : ∀ j v, numF vals j = some v → v = .int .i64 (vals j) := fun j v h => by
  unfold numF at h
  split at h
  · exact (Option.some.inj h).symm
  · cases h
theorem numF_lt {vals : Nat → Int} {j : Nat} {v : Value} (h : numF vals j = some v) : 1 ≤ j ∧ j ≤ 5 := by
  unfold numF at h
  split at h
  · assumption
  · cases h
theorem numF_at (vals : Nat → Int) {j : Nat} (h1 : 1 ≤ j) (h2 : j ≤ 5) : numF vals j = some (.int .i64 (vals j)) := by
  unfold numF
  rw [if_pos ⟨h1, h2⟩]
set_option maxHeartbeats 2000000 in
theorem numbersOf_any (n l : ByteArray) (k m u g t z : Int) (gnu : Bool) (vals : Nat → Int) (h1 : vals 1 = m) (h2 : vals 2 = u) (h3 : vals 3 = g) (h4 : vals 4 = z) (h5 : vals 5 = t) (w : World) :
    Calls Tryz.prog 98 #[.agg #[.string n, .string l, .int .u8 k, .int .i64 m, .int .i64 u, .int .i64 g, .int .i64 t, .int .i64 z, .bool gnu]] w fun e w' => ∃ N, e = .returned (.map (some N)) ∧ MapF w' N (numF vals) ∧ w.heap.size ≤ N ∧ Kept noneB w w' := by
  obtain ⟨O, hO⟩ : ∃ O, O = Obj.cells #[.string n, .string l, .int .u8 k, .int .i64 m, .int .i64 u, .int .i64 g, .int .i64 t, .int .i64 z, .bool gnu] 57 := ⟨_, rfl⟩
  have hm0 := mapF_made (w.alloc O)
  rw [World.size_alloc, hO] at hm0
  have HM0 := Lib.hid hm0
  have hb0 : ((w.alloc O).alloc (.map #[] 0)).heap[w.heap.size]? = some O := ((Kept.refl noneB (w.alloc O)).alloc (.map #[] 0)).some_ (heap_alloc_new w O) id
  have hk0 : Kept noneB w ((w.alloc O).alloc (.map #[] 0)) := ((Kept.refl noneB w).alloc O).alloc _
  rw [hO] at hb0 hk0
  have HB0 := Lib.hid hb0
  have HK0 := Lib.hid hk0
  clear hm0 hb0 hk0 hO
  have off : ¬ oneB (w.heap.size + 1) w.heap.size := fun e => by
    have : w.heap.size = w.heap.size + 1 := e
    omega
  have OFF := Lib.hid off
  have lo : ∀ i, oneB (w.heap.size + 1) i → w.heap.size ≤ i ∨ noneB i := fun i hi => Or.inl (by
    have : i = w.heap.size + 1 := hi
    omega)
  have LO := Lib.hid lo
  clear off lo
  have mm := @run_makeMap Tryz.prog
  go_enter Tryz.func98, Tryz.ntmps98
  go_wp2_with (refine wpList_insertF rfl _ _ _ (Or.inr rfl) Tryz.underlying126 Tryz.underlying125 (w.heap.size + 1) HM0.out rfl 1 rfl rfl (.int .i64 m) rfl ?_)
  intro w1 HM1 hk1 hs1
  have HB1 := Lib.hid (hk1.out.some_ HB0.out OFF.out)
  have HK1 := Lib.hid (HK0.out.then hk1.out LO.out)
  have c4 := cellsAt HB1.out 4
  clear hk1 hs1
  go_wp2_with (refine wpList_insertF rfl _ _ _ (Or.inr rfl) Tryz.underlying126 Tryz.underlying125 (w.heap.size + 1) HM1.out rfl 2 rfl rfl (.int .i64 u) rfl ?_)
  intro w2 HM2 hk2 hs2
  have HB2 := Lib.hid (hk2.out.some_ HB1.out OFF.out)
  have HK2 := Lib.hid (HK1.out.then hk2.out LO.out)
  have c5 := cellsAt HB2.out 5
  clear hk2 hs2 c4
  go_wp2_with (refine wpList_insertF rfl _ _ _ (Or.inr rfl) Tryz.underlying126 Tryz.underlying125 (w.heap.size + 1) HM2.out rfl 3 rfl rfl (.int .i64 g) rfl ?_)
  intro w3 HM3 hk3 hs3
  have HB3 := Lib.hid (hk3.out.some_ HB2.out OFF.out)
  have HK3 := Lib.hid (HK2.out.then hk3.out LO.out)
  have c6 := cellsAt HB3.out 6
  clear hk3 hs3 c5
  go_wp2_with (refine wpList_insertF rfl _ _ _ (Or.inr rfl) Tryz.underlying126 Tryz.underlying125 (w.heap.size + 1) HM3.out rfl 5 rfl rfl (.int .i64 t) rfl ?_)
  intro w4 HM4 hk4 hs4
  have HB4 := Lib.hid (hk4.out.some_ HB3.out OFF.out)
  have HK4 := Lib.hid (HK3.out.then hk4.out LO.out)
  have c7 := cellsAt HB4.out 7
  clear hk4 hs4 c6
  go_wp2_with (refine wpList_insertF rfl _ _ _ (Or.inr rfl) Tryz.underlying126 Tryz.underlying125 (w.heap.size + 1) HM4.out rfl 4 rfl rfl (.int .i64 z) rfl ?_)
  intro w5 HM5 hk5 hs5
  have HK5 := Lib.hid (HK4.out.then hk5.out LO.out)
  clear hk5 hs5 c7
  go_wp2
  go_ret
  refine ⟨_, rfl, ?_, by omega, HK5.out⟩
  have e : (numF vals) = fun y => if y = 4 then some (Value.int .i64 z) else if y = 5 then some (Value.int .i64 t) else if y = 3 then some (Value.int .i64 g) else if y = 2 then some (Value.int .i64 u) else if y = 1 then some (Value.int .i64 m) else none := by
    funext y
    unfold numF
    match y with
    | 0 => rfl
    | 1 => rw [h1]; rfl
    | 2 => rw [h2]; rfl
    | 3 => rw [h3]; rfl
    | 4 => rw [h4]; rfl
    | 5 => rw [h5]; rfl
    | y + 6 => rw [if_neg (by omega), if_neg (by omega), if_neg (by omega), if_neg (by omega), if_neg (by omega), if_neg (by omega)]
  rw [e]
  exact HM5.out

/-- do the five fields have numbers? -/
def numsO (own : Nat → List UInt8) : Bool := (List.range 5).all fun i => okI (parseF (own (i + 1)))
theorem numsO_iff {own : Nat → List UInt8} : numsO own = true ↔ ∀ i, 1 ≤ i → i ≤ 5 → okI (parseF (own i)) = true := by
  unfold numsO
  rw [List.all_eq_true]
  constructor
  · intro h i h1 h2
    have := h (i - 1) (List.mem_range.2 (by omega))
    rwa [show i - 1 + 1 = i by omega] at this
  · intro h i hi
    have := List.mem_range.1 hi
    exact h (i + 1) (by omega) (by omega)
def NumsPost (w : World) (own : Nat → List UInt8) (e : Ending) (w' : World) : Prop :=
  Kept noneB w w' ∧ ((numsO own = true ∧ ∃ Q, e = .returned (.tuple #[.map (some Q), .bool true]) ∧ MapF w' Q (numF fun i => valI (parseF (own i)))) ∨ (numsO own = false ∧ e = .returned (.tuple #[.map none, .bool false])))
set_option maxHeartbeats 2000000 in
theorem numbers_any (lo B : Nat) (r : Nat → Nat) (own : Nat → List UInt8) (w : World) (hP0 : PartsAt w lo B r own) :
    Calls Tryz.prog 75 #[.map (some B)] w (NumsPost w own) := by
  have fl := field_own
  have HP0 := Lib.hid hP0
  have hm0 := mapF_made w
  have HM0 := Lib.hid hm0
  have HK0 := Lib.hid ((Kept.refl noneB w).alloc (.map #[] 0))
  clear hP0 hm0
  have mm := @run_makeMap Tryz.prog
  go_enter Tryz.func75, Tryz.ntmps75
  go_wp2_with fail
  refine (numbersOf_any ⟨#[]⟩ ⟨#[]⟩ 0 0 0 0 0 0 false (fun _ => 0) rfl rfl rfl rfl rfl _).mono ?_
  rintro e w1 ⟨N, rfl, hN, hNl, hk1⟩
  have HN := Lib.hid hN
  have HNL : Hid (N ≠ w.heap.size) := Lib.hid (by rw [World.size_alloc] at hNl; omega)
  have HQ1 := Lib.hid (HM0.out.kept hk1 id)
  have HP1 := Lib.hid ((HP0.out.kept0 HK0.out).kept0 hk1)
  have HK1 := Lib.hid (HK0.out.trans hk1)
  clear hN hNl hk1
  obtain ⟨R, hR⟩ : ∃ R, R = w1.heap.size := ⟨_, rfl⟩
  go_wp2_with (first | (at_range; refine wpList_rangeF rfl _ rfl Tryz.underlying126 N HN.out (fun _ => true) (fun _ _ _ => rfl) rfl R hR ?_; intro w2 HI hk2 hs2) | go_in)
  have HK2 := Lib.hid (HK1.out.trans hk2.out)
  have HP2 := Lib.hid (HP1.out.kept0 hk2.out)
  have HQ2 := Lib.hid (HQ1.out.kept hk2.out id)
  have HRL : Hid (w.heap.size < R) := Lib.hid (by
    have := HQ1.out.lt
    omega)
  clear hk2 hs2 hR
  try go_frame
  go_loopw [12] (fun _ wr => ∃ todo, Hid (IterF wr N R (numF fun _ => 0) todo) ∧ Hid (PartsAt wr lo B r own) ∧ Hid (MapF wr w.heap.size (fun i => if todo i = true then none else numF (fun i => valI (parseF (own i))) i)) ∧ Hid (Kept noneB w wr) ∧ Hid (∀ i, 1 ≤ i → i ≤ 5 → todo i = false → okI (parseF (own i)) = true)) (fun _ wr => wr.rangeLeft N R)
  case atStart => exact ⟨fun _ => true, HI, HP2, by
    have e : (fun i => if true = true then none else numF (fun i => valI (parseF (own i))) i) = fun _ => (none : Option Value) := by funext i; rfl
    rw [e]; exact HQ2, HK2, Lib.hid (fun i _ _ h => by cases h)⟩
  case round =>
    obtain ⟨todo, hI, hP, hQ, hK, hD⟩ := hrel
    go_wp2_with (at_next; refine wpList_nextF rfl _ rfl N R todo (fun _ => .int .i64 0) (numF_val _) rfl hI.out ?_ ?_)
    · intro hd
      have hall : ∀ i, 1 ≤ i → i ≤ 5 → todo i = false := fun i h1 h2 => hd i (.int .i64 0) (numF_at _ h1 h2)
      have HE : Hid (numsO own = true ∧ (fun i => if todo i = true then none else numF (fun i => valI (parseF (own i))) i) = numF fun i => valI (parseF (own i))) := Lib.hid ⟨numsO_iff.2 fun i h1 h2 => hD.out i h1 h2 (hall i h1 h2), by
        funext i
        split
        · rename_i ht
          unfold numF
          rw [if_neg]
          rintro ⟨h1, h2⟩
          rw [hall i h1 h2] at ht
          cases ht
        · rfl⟩
      clear hd hall
      go_wp2
      go_ret2
      refine ⟨hK.out, Or.inl ⟨HE.out.1, _, rfl, ?_⟩⟩
      have h1 := hQ.out
      rw [HE.out.2] at h1
      exact h1
    · intro j w3 v hj htj HI3 HLT HK3 hs3 hen
      have hj := numF_lt hj
      obtain ⟨hj1, hj5⟩ := hj
      have hj11 : j < 11 := by omega
      have hP3 := hP.out.kept HK3.out (fun e => by
        have h1 := hP.out.map
        have h2 := hI.out
        obtain ⟨es, clock, hb, _⟩ := h1
        obtain ⟨_, _, _, _, _, _, _, _, _, hr, _⟩ := h2
        have e : B = R := e
        rw [← e, hb] at hr
        cases hr) (fun i hi e => (iter_off hI.out (hP.out.row i hi)).2 e)
      have hQ3 := hQ.out.kept HK3.out (fun e => by
        have e : w.heap.size = R := e
        have := HRL.out
        omega)
      have hK3 := hK.out.then HK3.out (fun i hi => Or.inl (by
        have h1 : i = R := hi
        have := HRL.out
        omega))
      have lk : (Instr.lookup 121 (.map (some B)) (.int .i64 (j : Int)) false).run Tryz.prog w3 = .ok (.agg #[.int .i64 (atF j), .slice (some ⟨r j, 0, none⟩) (wideF j) (wideF j)]) w3 :=
        hP3.map.look (P := Tryz.prog) Tryz.underlying121 Tryz.underlying125 (x := j) (v := partV r j) (by unfold partF; rw [if_pos hj11])
      have hw := wide_pos hj11
      have HJ := Lib.hid hj11
      have HP3 := Lib.hid hP3
      have HQ3 := Lib.hid hQ3
      have HKK := Lib.hid hK3
      have HW := Lib.hid hw
      have HTJ := Lib.hid htj
      have HJ1 : Hid (1 ≤ j ∧ j ≤ 5) := Lib.hid ⟨hj1, hj5⟩
      clear hP3 hQ3 hK3 hw htj
      go_wp2_with fail
      refine (parse_any _ (wideF j) (wideF j) (own j) w3 (HP3.out.fit j) (Nat.le_refl _) (by have := HW.out; unfold maxLen; omega) (HP3.out.bat HJ.out)).mono ?_
      rintro e w4 ⟨rfl, hb4⟩
      have hk4 : Kept noneB w3 w4 := Kept.of_below hb4 _
      have HP4 := Lib.hid (HP3.out.kept0 hk4)
      have HQ4 := Lib.hid (HQ3.out.kept hk4 id)
      have HK4 := Lib.hid (HKK.out.trans hk4)
      have hI4 := HI3.out.kept hk4 id id
      have HI4 := Lib.hid hI4.1
      have HL4 : Hid (w4.rangeLeft N R < wr.rangeLeft N R) := Lib.hid (by rw [hI4.2]; exact HLT.out)
      clear hb4 hk4 hI4 lk
      by_cases hok : okI (parseF (own j)) = true
      · have HOK := Lib.hid hok
        rw [hok]
        clear hok
        go_wp2_with (first | (at_mapUpdate; refine wpList_insertF rfl _ _ _ (Or.inl rfl) Tryz.underlying126 Tryz.underlying125 w.heap.size HQ4.out rfl j rfl (by rw [HTJ.out]; rfl) (.int .i64 (valI (parseF (own j)))) rfl ?_; intro w5 HQ5 hk5 hs5) | go_in)
        try go_frame
        try go_wp2
        go_roundw
        case rel =>
          have hI5 := HI4.out.kept hk5.out HNL.out (fun e => by
            have e : R = w.heap.size := e
            have := HRL.out
            omega)
          refine ⟨fun z => todo z && z != j, Lib.hid hI5.1, Lib.hid (HP4.out.kept hk5.out (fun e => ?_) (fun i hi e => ?_)), Lib.hid ?_, Lib.hid (HK4.out.then hk5.out (fun i hi => Or.inl (by
            have h1 : i = w.heap.size := hi
            omega))), Lib.hid (fun i h1 h2 ht => ?_)⟩
          · have e : B = w.heap.size := e
            have := HP0.out.map.lt
            omega
          · have e : r i = w.heap.size := e
            have := (HP0.out.row i hi).lt
            omega
          · have h1 := HQ5.out
            have e : (fun y => if y = j then some (Value.int .i64 (valI (parseF (own j)))) else if todo y = true then none else numF (fun i => valI (parseF (own i))) y) = fun i => if (todo i && i != j) = true then none else numF (fun i => valI (parseF (own i))) i := by
              funext y
              by_cases hy : y = j
              · subst hy
                rw [if_pos rfl, if_neg (by simp), numF_at _ HJ1.out.1 HJ1.out.2]
              · have h2 : (y != j) = true := by simpa using hy
                rw [if_neg hy, h2, Bool.and_true]
            rw [e] at h1
            exact h1
          · by_cases hij : i = j
            · rw [hij]; exact HOK.out
            · have h3 : (i != j) = true := by simpa using hij
              have ht : (todo i && i != j) = false := ht
              rw [h3, Bool.and_true] at ht
              exact hD.out i h1 h2 ht
        case measure =>
          have hI5 := HI4.out.kept hk5.out HNL.out (fun e => by
            have e : R = w.heap.size := e
            have := HRL.out
            omega)
          have h1 := HL4.out
          have h2 := hI5.2
          omega
      · have hok' : okI (parseF (own j)) = false := by simpa using hok
        have HE : Hid (numsO own = false) := Lib.hid (by
          cases hc : numsO own with
          | false => rfl
          | true => exact absurd (numsO_iff.1 hc j HJ1.out.1 HJ1.out.2) hok)
        rw [hok']
        clear hok hok'
        go_wp2
        go_ret2
        exact ⟨HK4.out, Or.inr ⟨HE.out, rfl⟩⟩

/-- the blocks of the fields' rows -/
def rowsB (r : Nat → Nat) : Nat → Prop := fun k => ∃ i, i < 11 ∧ k = r i
/-- the five fields have a head's numbers -/
def numO (h : HeadV) (own : Nat → List UInt8) : Nat → List UInt8 := fun i => if 1 ≤ i ∧ i ≤ 5 then numB h i else own i
def PutNumsPost (w : World) (lo B : Nat) (r : Nat → Nat) (h : HeadV) (own : Nat → List UInt8) (e : Ending) (w' : World) : Prop :=
  Kept (rowsB r) w w' ∧ ((numsOk h = true ∧ e = .returned (.bool true) ∧ PartsAt w' lo B r (numO h own)) ∨ (numsOk h = false ∧ e = .returned (.bool false)))
end Go.Proofs.YtdjedimjhogdoaaGreatDoor.Head
end
section
namespace Go.Proofs.YtdjedimjhogdoaaGreatDoor.Head
open Go.ChangeShapes Go.WideShapes Go.ChangeAt Go.RowKit Go.Proofs.YtdjedimjhogdoaaGreatDoor.Base Go.Proofs.YtdjedimjhogdoaaGreatDoor.Byt Go.Proofs.YtdjedimjhogdoaaGreatDoor.Txt Go.Proofs.YtdjedimjhogdoaaGreatDoor.Hp Go.Proofs.YtdjedimjhogdoaaGreatDoor.Mp Go.Lib
set_option linter.unusedVariables false
set_option maxRecDepth 100000

theorem plain0 (bs : List UInt8) : (0 : Int) = (plainTo bs 0 : Nat) := by rw [plainTo]; rfl
theorem sum0 (bs : List UInt8) : (0 : Int) = (sumTo bs 0 : Nat) := by rw [sumTo]; rfl
theorem total_any (p : Option Addr) (n c : Nat) (bs : List UInt8) (w : World) (hm : n ≤ 140737488351232) (h : BAt w p n bs) :
    Calls Tryz.prog 70 #[.slice p n c] w fun e w' => e = .returned (.int .i64 (plainTo bs n : Nat)) ∧ w = w' := by
  have H := Lib.hid h
  clear h
  go_enter Tryz.func70, Tryz.ntmps70
  go_wp2
  go_loop [3, 8] (fun s i => ∃ (k : Nat) (m : Int), k ≤ n ∧ 0 ≤ m ∧ m ≤ 255 * k ∧ i = .int .i64 k ∧ s = .int .i64 m ∧ Hid (m = (plainTo bs k : Nat))) (fun _ i => n - (RowKit.intOf i).toNat)
  case atStart => exact ⟨0, 0, Nat.zero_le _, by omega, by omega, rfl, rfl, Lib.hid (plain0 bs)⟩
  case round =>
    obtain ⟨k, m, hk, h0, h1, rfl, rfl, hr⟩ := hrel
    by_cases hlt : k < n
    · obtain ⟨b, o, rfl, hbw, hcell⟩ := H.out.cell hlt
      have hc := hcell k hlt
      clear hcell
      obtain ⟨x, hx⟩ : ∃ x : Int, x = ((bs.getD k 0).toNat : Int) := ⟨_, rfl⟩
      rw [← hx] at hc
      have hxb := u8_bd (bs.getD k 0)
      rw [← hx] at hxb
      have HX := Lib.hid hx
      clear hx
      obtain ⟨hx0, hx1⟩ := hxb
      go_wp2
      go_round
      case rel => exact ⟨k + 1, m + x, by omega, by omega, by omega, by go_num, rfl, Lib.hid (by rw [hr.out, HX.out, plainTo]; omega)⟩
      case measure => simp [RowKit.intOf]; omega
    · have hkl : Hid (k = n) := Lib.hid (by omega)
      go_wp2
      go_ret
      rw [hr.out, hkl.out]
      exact ⟨rfl, rfl⟩
theorem sum_any (lo B : Nat) (r : Nat → Nat) (own : Nat → List UInt8) (p : Option Addr) (n c : Nat) (bs : List UInt8) (w : World) (hm : n ≤ 140737488351232) (h : BAt w p n bs) (hP : PartsAt w lo B r own) :
    Calls Tryz.prog 74 #[.map (some B), .slice p n c] w fun e w' => e = .returned (.int .i64 ((plainTo bs n : Nat) - (plainTo (own 6) 8 : Nat) + 256)) ∧ w = w' := by
  have H := Lib.hid h
  have fl := field_own
  have HP := Lib.hid hP
  have lk : (Instr.lookup 121 (.map (some B)) (.int .i64 6) false).run Tryz.prog w = .ok (.agg #[.int .i64 148, .slice (some ⟨r 6, 0, none⟩) 8 8]) w :=
    hP.map.look (P := Tryz.prog) Tryz.underlying121 Tryz.underlying125 (x := 6) (v := partV r 6) rfl
  have h1 := plainTo_le bs n
  have h2 := plainTo_le (own 6) 8
  generalize hX : plainTo bs n = X at *
  generalize hY : plainTo (own 6) 8 = Y at *
  clear h hP
  go_enter Tryz.func74, Tryz.ntmps74
  go_wp2_with fail
  refine (total_any p n c bs w hm H.out).mono ?_
  rintro e w1 ⟨rfl, rfl⟩
  rw [hX]
  go_wp2_with fail
  refine (total_any _ 8 8 (own 6) w (by decide) (HP.out.bat (i := 6) (by omega))).mono ?_
  rintro e w1 ⟨rfl, rfl⟩
  rw [hY]
  go_wp2
  go_ret
  exact ⟨rfl, rfl⟩
theorem rsum_any (p : Option Addr) (n c : Nat) (bs : List UInt8) (w : World) (hm : n ≤ 140737488351232) (h : BAt w p n bs) :
    Calls Tryz.prog 47 #[.slice p n c] w fun e w' => e = .returned (.int .i64 (sumTo bs n : Nat)) ∧ w = w' := by
  have H := Lib.hid h
  clear h
  go_enter Tryz.func47, Tryz.ntmps47
  go_wp2
  go_loop [3, 4] (fun s i => ∃ (k : Nat) (m : Int), k ≤ n ∧ 0 ≤ m ∧ m ≤ 255 * k ∧ i = .int .i64 k ∧ s = .int .i64 m ∧ Hid (m = (sumTo bs k : Nat))) (fun _ i => n - (RowKit.intOf i).toNat)
  case atStart => exact ⟨0, 0, Nat.zero_le _, by omega, by omega, rfl, rfl, Lib.hid (sum0 bs)⟩
  case round =>
    obtain ⟨k, m, hk, h0, h1, rfl, rfl, hr⟩ := hrel
    by_cases hlt : k < n
    · obtain ⟨b, o, rfl, hbw, hcell⟩ := H.out.cell hlt
      have hc := hcell k hlt
      clear hcell
      obtain ⟨x, hx⟩ : ∃ x : Int, x = ((bs.getD k 0).toNat : Int) := ⟨_, rfl⟩
      rw [← hx] at hc
      have hxb := u8_bd (bs.getD k 0)
      rw [← hx] at hxb
      have HX := Lib.hid hx
      clear hx
      obtain ⟨hx0, hx1⟩ := hxb
      by_cases hin : 148 ≤ k ∧ k < 156
      · have hin2 := hin
        obtain ⟨g1, g2⟩ := hin2
        go_wp2
        go_round
        case rel => exact ⟨k + 1, m + 32, by omega, by omega, by omega, by go_num, rfl, Lib.hid (by rw [hr.out, sumTo, if_pos hin]; omega)⟩
        case measure => simp [RowKit.intOf]; omega
      · rcases Nat.lt_or_ge k 148 with g1 | g1
        · go_wp2
          go_round
          case rel => exact ⟨k + 1, m + x, by omega, by omega, by omega, by go_num, rfl, Lib.hid (by rw [hr.out, HX.out, sumTo, if_neg hin]; omega)⟩
          case measure => simp [RowKit.intOf]; omega
        · have g2 : 156 ≤ k := by omega
          go_wp2
          go_round
          case rel => exact ⟨k + 1, m + x, by omega, by omega, by omega, by go_num, rfl, Lib.hid (by rw [hr.out, HX.out, sumTo, if_neg hin]; omega)⟩
          case measure => simp [RowKit.intOf]; omega
    · have hkl : Hid (k = n) := Lib.hid (by omega)
      go_wp2
      go_ret
      rw [hr.out, hkl.out]
      exact ⟨rfl, rfl⟩
end Go.Proofs.YtdjedimjhogdoaaGreatDoor.Head
end
section
namespace Go.Proofs.YtdjedimjhogdoaaGreatDoor.Head
open Go.ChangeShapes Go.WideShapes Go.ChangeAt Go.RowKit Go.Proofs.YtdjedimjhogdoaaGreatDoor.Base Go.Proofs.YtdjedimjhogdoaaGreatDoor.Byt Go.Proofs.YtdjedimjhogdoaaGreatDoor.Txt Go.Proofs.YtdjedimjhogdoaaGreatDoor.Hp Go.Proofs.YtdjedimjhogdoaaGreatDoor.Mp Go.Proofs.YtdjedimjhogdoaaGreatDoor.Fp Go.Proofs.YtdjedimjhogdoaaGreatDoor.Field Go.Lib
set_option linter.unusedVariables false
set_option maxRecDepth 100000

theorem ret_head {fn : Func} (hf : fn.results = #[.cell 2 57, .tmp 3]) (tmps : Array Value) (w : World) (g : Nat) (v : Value) (ht : tmps.getD 2 undef = .pointer (some ⟨g, 0, none⟩)) (hv : tmps.getD 3 undef = v)
    (a b : ByteArray) (k m u i t z : Int) (n : Bool) (h : w.heap[g]? = some (.cells #[.string a, .string b, .int .u8 k, .int .i64 m, .int .i64 u, .int .i64 i, .int .i64 t, .int .i64 z, .bool n] 57 (0, 0))) :
    (results fn tmps).run Tryz.prog w = .ok (.tuple #[.agg #[.string a, .string b, .int .u8 k, .int .i64 m, .int .i64 u, .int .i64 i, .int .i64 t, .int .i64 z, .bool n], v]) w := by
  rw [results_cell_tmp hf, ht, hv]
  have hl := load_head w g a b k m u i t z n h
  simp [asAddr, hl, Result.andThen]
theorem lookB {w : World} {lo B : Nat} {r : Nat → Nat} {own : Nat → List UInt8} (h : PartsAt w lo B r own) (i : Nat) (hi : i < 11) :
    (Instr.lookup 121 (.map (some B)) (.int .i64 (i : Int)) false).run Tryz.prog w = .ok (.agg #[.int .i64 (atF i), .slice (some ⟨r i, 0, none⟩) (wideF i) (wideF i)]) w :=
  h.map.look (P := Tryz.prog) Tryz.underlying121 Tryz.underlying125 (x := i) (v := partV r i) (by unfold partF; rw [if_pos hi])
theorem numsO_read (bs : List UInt8) : numsO (readO bs) = numsOkB bs := by
  have e : ∀ i, 1 ≤ i → i ≤ 5 → readO bs i = fieldB bs i := fun i h1 h2 => if_pos (by omega)
  cases h : numsOkB bs with
  | true =>
    refine numsO_iff.2 fun i h1 h2 => ?_
    rw [e i h1 h2]
    exact numsOkB_iff.1 h i h1 h2
  | false =>
    cases h2 : numsO (readO bs) with
    | false => rfl
    | true =>
      have h5 : numsOkB bs = true := numsOkB_iff.2 fun i h3 h4 => by
        rw [← e i h3 h4]
        exact numsO_iff.1 h2 i h3 h4
      rw [h] at h5
      cases h5
theorem readO_at (bs : List UInt8) (i : Nat) (hi : i < 11) : readO bs i = fieldB bs i := if_pos hi
def zeroCs : Array Value := #[.string ⟨#[]⟩, .string ⟨#[]⟩, .int .u8 0, .int .i64 0, .int .i64 0, .int .i64 0, .int .i64 0, .int .i64 0, .bool false]
/-- behind the nine stores -/
theorem stored9 {w : World} {g : Nat} {e : TypeId} (h : w.heap[g]? = some (.cells zeroCs e (0, 0))) (v0 v1 v2 v3 v4 v5 v6 v7 v8 : Value) :
    (((((((((w.setCell ⟨g, 0, none⟩ v0).setCell ⟨g, 1, none⟩ v1).setCell ⟨g, 2, none⟩ v2).setCell ⟨g, 3, none⟩ v3).setCell ⟨g, 4, none⟩ v4).setCell ⟨g, 5, none⟩ v5).setCell ⟨g, 6, none⟩ v6).setCell ⟨g, 7, none⟩ v7).setCell ⟨g, 8, none⟩ v8).heap[g]? =
      some (.cells #[v0, v1, v2, v3, v4, v5, v6, v7, v8] e (0, 0)) := by
  have st : ∀ {w : World} {cs : Array Value} (i : Nat) (v : Value), w.heap[g]? = some (.cells cs e (0, 0)) → (w.setCell ⟨g, i, none⟩ v).heap[g]? = some (.cells (cs.setIfInBounds i v) e (0, 0)) := by
    intro w cs i v h
    rw [setCell_eq_setRow w g i _ _ _ _ h]
    exact setRow_heap w g _ _ _ _ h
  have h0 : (w.setCell ⟨g, 0, none⟩ v0).heap[g]? = some (.cells #[v0, .string ⟨#[]⟩, .int .u8 0, .int .i64 0, .int .i64 0, .int .i64 0, .int .i64 0, .int .i64 0, .bool false] e (0, 0)) := st 0 v0 h
  have h1 : ((w.setCell ⟨g, 0, none⟩ v0).setCell ⟨g, 1, none⟩ v1).heap[g]? = some (.cells #[v0, v1, .int .u8 0, .int .i64 0, .int .i64 0, .int .i64 0, .int .i64 0, .int .i64 0, .bool false] e (0, 0)) := st 1 v1 h0
  have h2 : (((w.setCell ⟨g, 0, none⟩ v0).setCell ⟨g, 1, none⟩ v1).setCell ⟨g, 2, none⟩ v2).heap[g]? = some (.cells #[v0, v1, v2, .int .i64 0, .int .i64 0, .int .i64 0, .int .i64 0, .int .i64 0, .bool false] e (0, 0)) := st 2 v2 h1
  have h3 : ((((w.setCell ⟨g, 0, none⟩ v0).setCell ⟨g, 1, none⟩ v1).setCell ⟨g, 2, none⟩ v2).setCell ⟨g, 3, none⟩ v3).heap[g]? = some (.cells #[v0, v1, v2, v3, .int .i64 0, .int .i64 0, .int .i64 0, .int .i64 0, .bool false] e (0, 0)) := st 3 v3 h2
  have h4 : (((((w.setCell ⟨g, 0, none⟩ v0).setCell ⟨g, 1, none⟩ v1).setCell ⟨g, 2, none⟩ v2).setCell ⟨g, 3, none⟩ v3).setCell ⟨g, 4, none⟩ v4).heap[g]? = some (.cells #[v0, v1, v2, v3, v4, .int .i64 0, .int .i64 0, .int .i64 0, .bool false] e (0, 0)) := st 4 v4 h3
  have h5 : ((((((w.setCell ⟨g, 0, none⟩ v0).setCell ⟨g, 1, none⟩ v1).setCell ⟨g, 2, none⟩ v2).setCell ⟨g, 3, none⟩ v3).setCell ⟨g, 4, none⟩ v4).setCell ⟨g, 5, none⟩ v5).heap[g]? = some (.cells #[v0, v1, v2, v3, v4, v5, .int .i64 0, .int .i64 0, .bool false] e (0, 0)) := st 5 v5 h4
  have h6 : (((((((w.setCell ⟨g, 0, none⟩ v0).setCell ⟨g, 1, none⟩ v1).setCell ⟨g, 2, none⟩ v2).setCell ⟨g, 3, none⟩ v3).setCell ⟨g, 4, none⟩ v4).setCell ⟨g, 5, none⟩ v5).setCell ⟨g, 6, none⟩ v6).heap[g]? = some (.cells #[v0, v1, v2, v3, v4, v5, v6, .int .i64 0, .bool false] e (0, 0)) := st 6 v6 h5
  have h7 : ((((((((w.setCell ⟨g, 0, none⟩ v0).setCell ⟨g, 1, none⟩ v1).setCell ⟨g, 2, none⟩ v2).setCell ⟨g, 3, none⟩ v3).setCell ⟨g, 4, none⟩ v4).setCell ⟨g, 5, none⟩ v5).setCell ⟨g, 6, none⟩ v6).setCell ⟨g, 7, none⟩ v7).heap[g]? = some (.cells #[v0, v1, v2, v3, v4, v5, v6, v7, .bool false] e (0, 0)) := st 7 v7 h6
  have h8 : (((((((((w.setCell ⟨g, 0, none⟩ v0).setCell ⟨g, 1, none⟩ v1).setCell ⟨g, 2, none⟩ v2).setCell ⟨g, 3, none⟩ v3).setCell ⟨g, 4, none⟩ v4).setCell ⟨g, 5, none⟩ v5).setCell ⟨g, 6, none⟩ v6).setCell ⟨g, 7, none⟩ v7).setCell ⟨g, 8, none⟩ v8).heap[g]? = some (.cells #[v0, v1, v2, v3, v4, v5, v6, v7, v8] e (0, 0)) := st 8 v8 h7
  exact h8
theorem kept9 {w0 w : World} {g : Nat} (h : Kept (oneB g) w0 w) (v0 v1 v2 v3 v4 v5 v6 v7 v8 : Value) :
    Kept (oneB g) w0 (((((((((w.setCell ⟨g, 0, none⟩ v0).setCell ⟨g, 1, none⟩ v1).setCell ⟨g, 2, none⟩ v2).setCell ⟨g, 3, none⟩ v3).setCell ⟨g, 4, none⟩ v4).setCell ⟨g, 5, none⟩ v5).setCell ⟨g, 6, none⟩ v6).setCell ⟨g, 7, none⟩ v7).setCell ⟨g, 8, none⟩ v8) := by
  have st : ∀ {w : World} (i : Nat) (v : Value), Kept (oneB g) w0 w → Kept (oneB g) w0 (w.setCell ⟨g, i, none⟩ v) := fun i v h => h.setCell (a := ⟨g, i, none⟩) (Or.inr (show oneB g g from rfl)) v
  exact st 8 v8 (st 7 v7 (st 6 v6 (st 5 v5 (st 4 v4 (st 3 v3 (st 2 v2 (st 1 v1 (st 0 v0 h))))))))
theorem ustar_str : str ustarB = ⟨#[117, 115, 116, 97, 114, 0, 48, 48]⟩ := rfl
theorem gnu_str : str gnuB = ⟨#[117, 115, 116, 97, 114, 32, 32, 0]⟩ := rfl
theorem beq_lists {a b : List UInt8} (h : a ≠ b) : ((str a).toList == (str b).toList) = false := by
  rw [str_toList, str_toList]
  simpa using h
end Go.Proofs.YtdjedimjhogdoaaGreatDoor.Head
end
section
namespace Go.Proofs.YtdjedimjhogdoaaGreatDoor.Mp
open Go.ChangeShapes Go.WideShapes Go.ChangeAt Go.RowKit Go.Proofs.YtdjedimjhogdoaaGreatDoor.Base Go.Proofs.YtdjedimjhogdoaaGreatDoor.Byt
set_option linter.unusedVariables false

structure RI (ops : Array Oper) (V : Nat → Value) (a0 : Act) (W : Array Bool → World → Prop) (listed : Array Bool) (a : Act) (w : World) : Prop where
  ls : listed.size = ops.size
  ts : a.tmps.size = a0.tmps.size
  df : a.defers = a0.defers
  done : ∀ j o d, ops[j]? = some o → o.dst = some d → listed.getD j false = true → a.eval (.tmp d) = V j
  same : ∀ t, (∀ j o, ops[j]? = some o → o.dst = some t → listed.getD j false = false) → a.eval (.tmp t) = a0.eval (.tmp t)
  wd : W listed w
/-- each slot is one operation's; edges go back; no operation is guarded -/
def apartB (ops : Array Oper) (n : Nat) : Bool :=
  (ops.toList.zipIdx.all fun x => x.1.guard.isNone && (x.1.after.all fun e => decide (e.on < x.2)) && (match x.1.dst with
    | none => true
    | some d => decide (d < n) && ops.toList.zipIdx.all fun y => y.2 == x.2 || y.1.dst != some d))
theorem apartB_spec {ops : Array Oper} {n : Nat} (h : apartB ops n = true) : ∀ i o, ops[i]? = some o →
    o.guard = none ∧ (∀ e ∈ o.after, Region.binds .any e = true → e.on < i) ∧ (∀ d, o.dst = some d → d < n ∧ ∀ j oj, ops[j]? = some oj → oj.dst = some d → j = i) := by
  intro i o ho
  unfold apartB at h
  rw [List.all_eq_true] at h
  have hm : ∀ (j : Nat) (oj : Oper), ops[j]? = some oj → (oj, j) ∈ ops.toList.zipIdx := fun j oj hj => by
    rw [List.mem_iff_getElem?]
    exact ⟨j, by simp [hj]⟩
  have h1 := h (o, i) (hm i o ho)
  simp only [Bool.and_eq_true] at h1
  obtain ⟨⟨h2, h3⟩, h4⟩ := h1
  refine ⟨by simpa using h2, fun e he _ => by simpa using Array.all_eq_true_iff_forall_mem.1 h3 e he, fun d hd => ?_⟩
  rw [hd] at h4
  simp only [Bool.and_eq_true, decide_eq_true_eq] at h4
  refine ⟨h4.1, fun j oj hj hdj => ?_⟩
  have h5 := List.all_eq_true.1 h4.2 (oj, j) (hm j oj hj)
  simp only [Bool.or_eq_true, beq_iff_eq, bne_iff_ne] at h5
  rcases h5 with h5 | h5
  · exact h5
  · exact absurd hdj h5
theorem wpAny_vals {P : Program} {ops : Array Oper} {Q : Exit → Act → World → Prop} (V : Nat → Value) (a0 : Act) (W : Array Bool → World → Prop) (n : Nat) (hap : apartB ops n = true) (hn : n ≤ a0.tmps.size)
    (hstep : ∀ listed a w j o, RI ops V a0 W listed a w → ops[j]? = some o → listed.getD j true = false → (∀ e ∈ o.after, Region.binds .any e = true → listed.getD e.on false = true) →
      Oper.wp P o a w (fun a' w' => a' = a.put o.dst (V j) ∧ W (listed.setIfInBounds j true) w') Q)
    (hdone : ∀ listed a w, RI ops V a0 W listed a w → (∀ j, j < ops.size → listed.getD j false = true) → Q .normal a w)
    {w : World} (h0 : W (Array.replicate ops.size false) w) : wpAny P .any ops Q ops.size (Array.replicate ops.size false) a0 w := by
  have sp := apartB_spec hap
  have no : ∀ j, (Array.replicate ops.size false).getD j false = false := fun j => by
    rw [Array.getD_eq_getD_getElem?, Array.getElem?_replicate]
    split <;> rfl
  refine wpAny_inv (RI ops V a0 W) (fun listed a w' i h hr => ?_) (fun listed a' w' h hr => ?_) _ _ _ _ ?_ ?_
  · obtain ⟨hun, o, ho, hdep⟩ := mem_ready.1 hr
    have hlt := lt_of_unlisted hun
    obtain ⟨hg, _, hd⟩ := sp i o ho
    refine wpOp_step ho fun K hK => ?_
    rw [if_pos (by simp [Region.wanted, hg])]
    refine Oper.wp_mono (fun a' w'' hh => hK a' w'' ?_) (hstep listed a w' i o h ho hun hdep)
    obtain ⟨rfl, hw⟩ := hh
    refine ⟨by simpa using h.ls, by rw [put_size]; exact h.ts, by rw [put_defers]; exact h.df, fun j oj d hj hdj hl => ?_, fun t ht => ?_, hw⟩
    · cases hod : o.dst with
      | none =>
        have hji : j ≠ i := fun e => by
          subst e
          rw [ho] at hj
          cases hj
          rw [hod] at hdj
          cases hdj
        rw [listed_get hlt, if_neg hji] at hl
        exact h.done j oj d hj hdj hl
      | some d' =>
        obtain ⟨hdn, huni⟩ := hd d' hod
        have hsz : d' < a.tmps.size := by rw [h.ts]; exact Nat.lt_of_lt_of_le hdn hn
        rw [put_eval _ hsz]
        by_cases hdd : d = d'
        · have := huni j oj hj (by rw [← hdd]; exact hdj)
          rw [if_pos hdd, this]
        · rw [if_neg hdd]
          have hji : j ≠ i := fun e => by
            subst e
            rw [ho] at hj
            cases hj
            rw [hod] at hdj
            exact hdd (Option.some.inj hdj).symm
          rw [listed_get hlt, if_neg hji] at hl
          exact h.done j oj d hj hdj hl
    · have hti : o.dst ≠ some t := fun e => by
        have := ht i o ho e
        rw [listed_get hlt, if_pos rfl] at this
        cases this
      have hold : a.eval (.tmp t) = a0.eval (.tmp t) := h.same t fun j oj hj hdj => by
        have h1 := ht j oj hj hdj
        rw [listed_get hlt] at h1
        split at h1
        · cases h1
        · exact h1
      cases hod : o.dst with
      | none => exact hold
      | some d' =>
        obtain ⟨hdn, _⟩ := hd d' hod
        rw [put_eval _ (by rw [h.ts]; exact Nat.lt_of_lt_of_le hdn hn), if_neg (fun e => hti (by rw [hod, e]))]
        exact hold
  · exact hdone _ _ _ h fun j hj => all_listed h.ls (fun i o ho => (sp i o ho).2.1) hr (j + 1) j (by omega) hj
  · unfold stillN
    exact Nat.le_trans (List.length_filter_le _ _) (by rw [List.length_range]; exact Nat.le_refl _)
  · exact ⟨Array.size_replicate, rfl, rfl, fun j o d _ _ hl => (by rw [no] at hl; cases hl), fun t _ => rfl, h0⟩
/-- does operation j wait for operation i? -/
def hasDep (ops : Array Oper) (j i : Nat) : Bool := ((ops[j]?).map fun o => o.after.any fun e => e.on == i && Region.binds .any e).getD false
def freeB (ops : Array Oper) (t : Nat) : Bool := ops.toList.all fun o => o.dst != some t
section
variable {ops : Array Oper} {V : Nat → Value} {a0 a : Act} {W : Array Bool → World → Prop} {listed : Array Bool} {w : World}
theorem RI.get (h : RI ops V a0 W listed a w) {j i d : Nat} {o : Oper} (ho : ops[j]? = some o) (hdep : ∀ e ∈ o.after, Region.binds .any e = true → listed.getD e.on false = true) (hd : hasDep ops j i = true) (hdst : (ops[i]?).bind (·.dst) = some d) : a.eval (.tmp d) = V i := by
  unfold hasDep at hd
  rw [ho] at hd
  obtain ⟨e, he, hb⟩ := Array.any_eq_true'.1 (show o.after.any _ = true from hd)
  simp only [Bool.and_eq_true, beq_iff_eq] at hb
  have hl := hdep e he hb.2
  rw [hb.1] at hl
  cases hoi : ops[i]? with
  | none => rw [hoi] at hdst; cases hdst
  | some oi =>
    rw [hoi] at hdst
    exact h.done i oi d hoi hdst hl
theorem RI.old (h : RI ops V a0 W listed a w) {t : Nat} (hf : freeB ops t = true) : a.eval (.tmp t) = a0.eval (.tmp t) :=
  h.same t fun j o ho hd => by
    unfold freeB at hf
    rw [List.all_eq_true] at hf
    have := hf o (by rw [Array.mem_toList_iff]; exact Array.mem_of_getElem? ho)
    rw [hd] at this
    simp at this
end
/-- the regions of a function's text -/
def regionsOf : Code → List (Nat × Array Oper)
  | .region id ops _ => [(id, ops)]
  | .seq a b => regionsOf a ++ regionsOf b
  | .cond _ a b => regionsOf a ++ regionsOf b
  | .block _ c => regionsOf c
  | .loop c => regionsOf c
  | _ => []
def regionAt (f : Func) (id : Nat) : Array Oper :=
  match f.body with
  | some c => (((regionsOf c).find? fun x => x.1 == id).map (·.2)).getD #[]
  | none => #[]
/-! one operation, by its kind -/
section
variable {P : Program} {o : Oper} {a : Act} {w : World} {K : Act → World → Prop} {Q : Exit → Act → World → Prop}
theorem wp_move (x : Operand) (v : Value) (ho : o.op = .move x ∨ o.op = .assign x) (hx : a.eval x = v) (h : K (a.put o.dst v) w) : Oper.wp P o a w K Q := by
  unfold Oper.wp
  rcases ho with ho | ho
  · simp [execOp, ho, hx, Oper.upon_value]; exact h
  · simp [execOp, ho, hx, Oper.upon_value]; exact h
theorem wp_run (v : Value) (hr : (execOp a.eval o).run P w = .ok (.value v) w) (h : K (a.put o.dst v) w) : Oper.wp P o a w K Q := by
  unfold Oper.wp
  rw [hr, Oper.upon_value]
  exact h
theorem wp_look (t : TypeId) (m x : Operand) (ho : o.op = .lookup t m x false) (mv xv v : Value) (hm : a.eval m = mv) (hx : a.eval x = xv) (hr : (Instr.lookup t mv xv false).run P w = .ok v w) (h : K (a.put o.dst v) w) : Oper.wp P o a w K Q := by
  unfold Oper.wp
  simp [execOp, ho, hm, hx, hr, Result.andThen, Oper.upon_value]
  exact h
theorem evalF (a : Act) (f : FuncId) : a.eval (.func f) = .func (.func f) #[] #[] := rfl
theorem wp_call (f : FuncId) (xs : Array Operand) (ts : Array TypeId) (ho : o.op = .call { callee := .value (.func f), args := xs, argTypes := ts }) (vs : Array Value) (hx : xs.map a.eval = vs)
    (hf : ∀ args w, (callFunc f args).run P w = .ok (.enter f args) w) (v : Value) (R : World → Prop) (hc : Calls P f vs w fun e w' => e = .returned v ∧ R w') (h : ∀ w', R w' → K (a.put o.dst v) w') : Oper.wp P o a w K Q := by
  unfold Oper.wp
  simp [execOp, ho, resolve, invoke, hx, evalF, Deferred.ofValue, hf, Oper.upon]
  refine hc.mono fun e w' he => ?_
  obtain ⟨rfl, hR⟩ := he
  exact h w' hR
end
end Go.Proofs.YtdjedimjhogdoaaGreatDoor.Mp
end
section
namespace Go.Proofs.YtdjedimjhogdoaaGreatDoor.Head
open Go.ChangeShapes Go.WideShapes Go.ChangeAt Go.RowKit Go.Proofs.YtdjedimjhogdoaaGreatDoor.Base Go.Proofs.YtdjedimjhogdoaaGreatDoor.Byt Go.Proofs.YtdjedimjhogdoaaGreatDoor.Txt Go.Proofs.YtdjedimjhogdoaaGreatDoor.Hp Go.Proofs.YtdjedimjhogdoaaGreatDoor.Mp Go.Lib
set_option linter.unusedVariables false
set_option maxRecDepth 100000

noncomputable def parseOps : Array Oper := regionAt Tryz.f52 13
/-- what each operation yields -/
def pV (B Q : Nat) (mg nm ln : ByteArray) (gnu : Bool) (kd v1 v2 v3 v4 v5 : Int) : Nat → Value
  | 0 => .map (some B) | 1 => .string mg | 2 => .bool gnu | 3 => .string nm | 4 => .map (some B) | 5 => .string ln | 6 => .map (some B) | 7 => .int .u8 kd
  | 8 => .map (some Q) | 9 => .int .i64 v1 | 10 => .map (some Q) | 11 => .int .i64 v2 | 12 => .map (some Q) | 13 => .int .i64 v3 | 14 => .map (some Q) | 15 => .int .i64 v5
  | 16 => .agg #[.int .i64 v1, .int .i64 v2, .int .i64 v3, .int .i64 v5] | 17 => .map (some Q) | 18 => .int .i64 v4 | 19 => .string mg | 20 => .bool gnu
  | 21 => .agg #[.string nm, .string ln, .int .u8 kd, .int .i64 v1, .int .i64 v2, .int .i64 v3, .int .i64 v5, .int .i64 v4, .bool gnu] | 23 => .int .i64 0 | _ => undef
theorem parse_size : parseOps.size = 24 := rfl
theorem parse_apart : apartB parseOps 73 = true := by kernel_rfl
theorem pop0 : ∃ o, parseOps[0]? = some o ∧ o.op = .move (.tmp 4) ∧ o.dst = some 51 := ⟨_, rfl, rfl, rfl⟩
theorem pop1 : ∃ o, parseOps[1]? = some o ∧ o.op = .move (.tmp 7) ∧ o.dst = some 52 := ⟨_, rfl, rfl, rfl⟩
theorem pop2 : ∃ o, parseOps[2]? = some o ∧ o.op = .binOp .eql 9 (.tmp 52) (.const (.string ⟨#[117, 115, 116, 97, 114, 32, 32, 0]⟩)) 9 ∧ o.dst = some 53 := ⟨_, rfl, rfl, rfl⟩
theorem pop3 : ∃ o, parseOps[3]? = some o ∧ o.op = .call { callee := .value (.func 76), args := #[.tmp 51, .tmp 53], argTypes := #[121, 4] } ∧ o.dst = some 54 := ⟨_, rfl, rfl, rfl⟩
theorem pop4 : ∃ o, parseOps[4]? = some o ∧ o.op = .move (.tmp 4) ∧ o.dst = some 55 := ⟨_, rfl, rfl, rfl⟩
theorem pop5 : ∃ o, parseOps[5]? = some o ∧ o.op = .call { callee := .value (.func 77), args := #[.tmp 55, .const (.int .i64 8)], argTypes := #[121, 125] } ∧ o.dst = some 56 := ⟨_, rfl, rfl, rfl⟩
theorem pop6 : ∃ o, parseOps[6]? = some o ∧ o.op = .move (.tmp 4) ∧ o.dst = some 57 := ⟨_, rfl, rfl, rfl⟩
theorem pop7 : ∃ o, parseOps[7]? = some o ∧ o.op = .call { callee := .value (.func 78), args := #[.tmp 57], argTypes := #[121] } ∧ o.dst = some 58 := ⟨_, rfl, rfl, rfl⟩
theorem pop8 : ∃ o, parseOps[8]? = some o ∧ o.op = .move (.tmp 8) ∧ o.dst = some 59 := ⟨_, rfl, rfl, rfl⟩
theorem pop9 : ∃ o, parseOps[9]? = some o ∧ o.op = .lookup 126 (.tmp 59) (.const (.int .i64 1)) false ∧ o.dst = some 60 := ⟨_, rfl, rfl, rfl⟩
theorem pop10 : ∃ o, parseOps[10]? = some o ∧ o.op = .move (.tmp 8) ∧ o.dst = some 61 := ⟨_, rfl, rfl, rfl⟩
theorem pop11 : ∃ o, parseOps[11]? = some o ∧ o.op = .lookup 126 (.tmp 61) (.const (.int .i64 2)) false ∧ o.dst = some 62 := ⟨_, rfl, rfl, rfl⟩
theorem pop12 : ∃ o, parseOps[12]? = some o ∧ o.op = .move (.tmp 8) ∧ o.dst = some 63 := ⟨_, rfl, rfl, rfl⟩
theorem pop13 : ∃ o, parseOps[13]? = some o ∧ o.op = .lookup 126 (.tmp 63) (.const (.int .i64 3)) false ∧ o.dst = some 64 := ⟨_, rfl, rfl, rfl⟩
theorem pop14 : ∃ o, parseOps[14]? = some o ∧ o.op = .move (.tmp 8) ∧ o.dst = some 65 := ⟨_, rfl, rfl, rfl⟩
theorem pop15 : ∃ o, parseOps[15]? = some o ∧ o.op = .lookup 126 (.tmp 65) (.const (.int .i64 5)) false ∧ o.dst = some 66 := ⟨_, rfl, rfl, rfl⟩
theorem pop16 : ∃ o, parseOps[16]? = some o ∧ o.op = .build 35 #[(0, .tmp 60), (1, .tmp 62), (2, .tmp 64), (3, .tmp 66)] ∧ o.dst = some 67 := ⟨_, rfl, rfl, rfl⟩
theorem pop17 : ∃ o, parseOps[17]? = some o ∧ o.op = .move (.tmp 8) ∧ o.dst = some 68 := ⟨_, rfl, rfl, rfl⟩
theorem pop18 : ∃ o, parseOps[18]? = some o ∧ o.op = .lookup 126 (.tmp 68) (.const (.int .i64 4)) false ∧ o.dst = some 69 := ⟨_, rfl, rfl, rfl⟩
theorem pop19 : ∃ o, parseOps[19]? = some o ∧ o.op = .move (.tmp 7) ∧ o.dst = some 70 := ⟨_, rfl, rfl, rfl⟩
theorem pop20 : ∃ o, parseOps[20]? = some o ∧ o.op = .binOp .eql 9 (.tmp 70) (.const (.string ⟨#[117, 115, 116, 97, 114, 32, 32, 0]⟩)) 9 ∧ o.dst = some 71 := ⟨_, rfl, rfl, rfl⟩
theorem pop21 : ∃ o, parseOps[21]? = some o ∧ o.op = .build 57 #[(0, .tmp 54), (1, .tmp 56), (2, .tmp 58), (3, .tmp 67), (4, .tmp 69), (5, .tmp 71)] ∧ o.dst = some 72 := ⟨_, rfl, rfl, rfl⟩
theorem pop22 : ∃ o, parseOps[22]? = some o ∧ o.op = .store 57 (.tmp 2) (.tmp 72) ∧ o.dst = none := ⟨_, rfl, rfl, rfl⟩
theorem pop23 : ∃ o, parseOps[23]? = some o ∧ o.op = .assign (.const (.int .i64 0)) ∧ o.dst = some 3 := ⟨_, rfl, rfl, rfl⟩
theorem build_meta (w : World) (a b c d : Int) : (Instr.build 35 #[(0, .int .i64 a), (1, .int .i64 b), (2, .int .i64 c), (3, .int .i64 d)]).run Tryz.prog w = .ok (.agg #[.int .i64 a, .int .i64 b, .int .i64 c, .int .i64 d]) w := by kernel_rfl
theorem build_head (w : World) (n l : ByteArray) (k a b c d s : Int) (g : Bool) : (Instr.build 57 #[(0, .string n), (1, .string l), (2, .int .u8 k), (3, .agg #[.int .i64 a, .int .i64 b, .int .i64 c, .int .i64 d]), (4, .int .i64 s), (5, .bool g)]).run Tryz.prog w = .ok (.agg #[.string n, .string l, .int .u8 k, .int .i64 a, .int .i64 b, .int .i64 c, .int .i64 d, .int .i64 s, .bool g]) w := by kernel_rfl
theorem wp_store9 {o : Oper} {a : Act} {w : World} {K : Act → World → Prop} {Q : Exit → Act → World → Prop} (p x : Operand) (ho : o.op = .store 57 p x) (g : Nat) (hp : a.eval p = .pointer (some ⟨g, 0, none⟩)) (n l : ByteArray) (k m u i t s : Int) (b : Bool)
    (hx : a.eval x = .agg #[.string n, .string l, .int .u8 k, .int .i64 m, .int .i64 u, .int .i64 i, .int .i64 t, .int .i64 s, .bool b]) (hz : w.heap[g]? = some (.cells zeroCs 57 (0, 0)))
    (h : ∀ w', w'.heap[g]? = some (.cells #[.string n, .string l, .int .u8 k, .int .i64 m, .int .i64 u, .int .i64 i, .int .i64 t, .int .i64 s, .bool b] 57 (0, 0)) → Kept (oneB g) w w' → K (a.put o.dst undef) w') : Oper.wp Tryz.prog o a w K Q := by
  have c0 := cellsAt hz
  have f0 := cellsFrozen hz
  have h9 := stored9 hz
  have k9 := kept9 (Kept.refl (oneB g) w)
  unfold zeroCs at c0
  clear hz
  have hr : (execOp a.eval o).run Tryz.prog w = .ok .skip (((((((((w.setCell ⟨g, 0, none⟩ (.string n)).setCell ⟨g, 1, none⟩ (.string l)).setCell ⟨g, 2, none⟩ (.int .u8 k)).setCell ⟨g, 3, none⟩ (.int .i64 m)).setCell ⟨g, 4, none⟩ (.int .i64 u)).setCell ⟨g, 5, none⟩ (.int .i64 i)).setCell ⟨g, 6, none⟩ (.int .i64 t)).setCell ⟨g, 7, none⟩ (.int .i64 s)).setCell ⟨g, 8, none⟩ (.bool b)) := by
    generalize a.eval = ev at hp hx
    simp [go_sem, execOp, ho, hp, hx, c0, f0, Result.andThen]
  unfold Oper.wp
  rw [hr, Oper.upon_skip]
  exact h _ (h9 _ _ _ _ _ _ _ _ _) (k9 _ _ _ _ _ _ _ _ _)
set_option maxHeartbeats 1000000 in
theorem parse_region {Q' : Exit → Act → World → Prop} {a0 : Act} {w3 : World} (g lo B Q : Nat) (r : Nat → Nat) (own : Nat → List UInt8) (mg : ByteArray) (gnu : Bool) (v1 v2 v3 v4 v5 : Int)
    (hsz : 73 ≤ a0.tmps.size) (h2 : a0.eval (.tmp 2) = .pointer (some ⟨g, 0, none⟩)) (h4 : a0.eval (.tmp 4) = .map (some B)) (h7 : a0.eval (.tmp 7) = .string mg) (h8 : a0.eval (.tmp 8) = .map (some Q))
    (hP : PartsAt w3 lo B r own) (hBg : B ≠ g) (hrg : ∀ i, i < 11 → r i ≠ g) (hz : w3.heap[g]? = some (.cells zeroCs 57 (0, 0)))
    (hlk : ∀ w', Kept (oneB g) w3 w' → (Instr.lookup 126 (.map (some Q)) (.int .i64 1) false).run Tryz.prog w' = .ok (.int .i64 v1) w' ∧ (Instr.lookup 126 (.map (some Q)) (.int .i64 2) false).run Tryz.prog w' = .ok (.int .i64 v2) w' ∧
      (Instr.lookup 126 (.map (some Q)) (.int .i64 3) false).run Tryz.prog w' = .ok (.int .i64 v3) w' ∧ (Instr.lookup 126 (.map (some Q)) (.int .i64 4) false).run Tryz.prog w' = .ok (.int .i64 v4) w' ∧ (Instr.lookup 126 (.map (some Q)) (.int .i64 5) false).run Tryz.prog w' = .ok (.int .i64 v5) w')
    (hgn : (mg.toList == [117, 115, 116, 97, 114, 32, 32, 0]) = gnu)
    (hQ : ∀ a' w', a'.defers = a0.defers → a'.eval (.tmp 2) = .pointer (some ⟨g, 0, none⟩) → a'.eval (.tmp 3) = .int .i64 0 →
      w'.heap[g]? = some (.cells #[.string (str (nameF (untilB (own 10)) (untilB (own 0)) gnu)), .string (str (untilB (own 8))), .int .u8 ((kindO (own 7)).toNat : Int), .int .i64 v1, .int .i64 v2, .int .i64 v3, .int .i64 v5, .int .i64 v4, .bool gnu] 57 (0, 0)) → Kept (oneB g) w3 w' → Q' .normal a' w') :
    wpAny Tryz.prog .any parseOps Q' parseOps.size (Array.replicate parseOps.size false) a0 w3.drew := by
  have no : ∀ j, (Array.replicate parseOps.size false).getD j false = false := fun j => by
    rw [Array.getD_eq_getD_getElem?, Array.getElem?_replicate]
    split <;> rfl
  obtain ⟨nm, hnm⟩ : ∃ nm, nm = str (nameF (untilB (own 10)) (untilB (own 0)) gnu) := ⟨_, rfl⟩
  obtain ⟨ln, hln⟩ : ∃ ln, ln = str (untilB (own 8)) := ⟨_, rfl⟩
  obtain ⟨kd, hkd⟩ : ∃ kd : Int, kd = ((kindO (own 7)).toNat : Int) := ⟨_, rfl⟩
  rw [← hnm, ← hln, ← hkd] at hQ
  obtain ⟨C, hC⟩ : ∃ C : Array Value, C = #[.string nm, .string ln, .int .u8 kd, .int .i64 v1, .int .i64 v2, .int .i64 v3, .int .i64 v5, .int .i64 v4, .bool gnu] := ⟨_, rfl⟩
  rw [← hC] at hQ
  refine wpAny_vals (pV B Q mg nm ln gnu kd v1 v2 v3 v4 v5) a0 (fun listed w => Kept (oneB g) w3 w ∧ w.heap[g]? = some (.cells (if listed.getD 22 false = true then C else zeroCs) 57 (0, 0))) 73 parse_apart hsz ?_ ?_ ⟨(Kept.refl _ w3).drew, by rw [no]; exact hz⟩
  · intro listed a w j o h ho hun hdep
    have hlt := lt_of_unlisted hun
    obtain ⟨hk, hh⟩ := h.wd
    have keep : ∀ w', j ≠ 22 → Kept noneB w w' → Kept (oneB g) w3 w' ∧ w'.heap[g]? = some (.cells (if (listed.setIfInBounds j true).getD 22 false = true then C else zeroCs) 57 (0, 0)) := fun w' hj hk' => by
      rw [listed_get hlt, if_neg (Ne.symm hj)]
      exact ⟨hk.trans (hk'.of_none _), hk'.some_ hh id⟩
    have hj24 : j < 24 := by
      have := (Array.getElem?_eq_some_iff.1 ho).1
      rwa [parse_size] at this
    have hPw : PartsAt w lo B r own := hP.kept hk hBg hrg
    obtain ⟨l1, l2, l3, l4, l5⟩ := hlk w hk
    have same : ∀ {j' : Nat} {o' : Oper}, parseOps[j']? = some o' → j = j' → o' = o := fun {j' o'} h' e => by subst e; exact Option.some.inj (h'.symm.trans ho)
    rcases (show j = 0 ∨ j = 1 ∨ j = 2 ∨ j = 3 ∨ j = 4 ∨ j = 5 ∨ j = 6 ∨ j = 7 ∨ j = 8 ∨ j = 9 ∨ j = 10 ∨ j = 11 ∨ j = 12 ∨ j = 13 ∨ j = 14 ∨ j = 15 ∨ j = 16 ∨ j = 17 ∨ j = 18 ∨ j = 19 ∨ j = 20 ∨ j = 21 ∨ j = 22 ∨ j = 23 by omega) with rfl | rfl | rfl | rfl | rfl | rfl | rfl | rfl | rfl | rfl | rfl | rfl | rfl | rfl | rfl | rfl | rfl | rfl | rfl | rfl | rfl | rfl | rfl | rfl
    · obtain ⟨o', ho', hop, hdst⟩ := pop0
      obtain rfl := same ho' rfl
      exact wp_move _ _ (Or.inl hop) ((h.old (t := 4) (by kernel_rfl)).trans h4) ⟨rfl, keep w (by decide) (Kept.refl _ _)⟩
    · obtain ⟨o', ho', hop, hdst⟩ := pop1
      obtain rfl := same ho' rfl
      exact wp_move _ _ (Or.inl hop) ((h.old (t := 7) (by kernel_rfl)).trans h7) ⟨rfl, keep w (by decide) (Kept.refl _ _)⟩
    · obtain ⟨o', ho', hop, hdst⟩ := pop2
      obtain rfl := same ho' rfl
      have e := (h.get ho hdep (i := 1) (d := 52) (by kernel_rfl) rfl)
      refine wp_run (.bool gnu) ?_ ⟨rfl, keep w (by decide) (Kept.refl _ _)⟩
      have e : a.eval (.tmp 52) = .string mg := e
      have ec : a.eval (.const (.string ⟨#[117, 115, 116, 97, 114, 32, 32, 0]⟩)) = .string ⟨#[117, 115, 116, 97, 114, 32, 32, 0]⟩ := rfl
      generalize a.eval = ev at e ec ⊢
      simp [go_sem, execOp, hop, e, ec, hgn]
    · obtain ⟨o', ho', hop, hdst⟩ := pop3
      obtain rfl := same ho' rfl
      have e0 : a.eval (.tmp 51) = .map (some B) := (h.get ho hdep (i := 0) (d := 51) (by kernel_rfl) rfl)
      have e1 : a.eval (.tmp 53) = .bool gnu := (h.get ho hdep (i := 2) (d := 53) (by kernel_rfl) rfl)
      refine wp_call _ _ _ hop #[.map (some B), .bool gnu] (by simp [e0, e1]) (enters_of Tryz.func76 (by kernel_rfl) rfl) (.string nm) (fun w' => Kept noneB w w') ?_ (fun w' hk' => ⟨rfl, keep w' (by decide) hk'⟩)
      rw [hnm]
      exact name_any lo B r own gnu w hPw
    · obtain ⟨o', ho', hop, hdst⟩ := pop4
      obtain rfl := same ho' rfl
      exact wp_move _ _ (Or.inl hop) ((h.old (t := 4) (by kernel_rfl)).trans h4) ⟨rfl, keep w (by decide) (Kept.refl _ _)⟩
    · obtain ⟨o', ho', hop, hdst⟩ := pop5
      obtain rfl := same ho' rfl
      have e0 : a.eval (.tmp 55) = .map (some B) := (h.get ho hdep (i := 4) (d := 55) (by kernel_rfl) rfl)
      refine wp_call _ _ _ hop #[.map (some B), .int .i64 8] (by simp [e0, evalC]) (enters_of Tryz.func77 (by kernel_rfl) rfl) (.string ln) (fun w' => Kept noneB w w') ?_ (fun w' hk' => ⟨rfl, keep w' (by decide) hk'⟩)
      rw [hln]
      exact text_any lo B r own 8 w (by omega) hPw
    · obtain ⟨o', ho', hop, hdst⟩ := pop6
      obtain rfl := same ho' rfl
      exact wp_move _ _ (Or.inl hop) ((h.old (t := 4) (by kernel_rfl)).trans h4) ⟨rfl, keep w (by decide) (Kept.refl _ _)⟩
    · obtain ⟨o', ho', hop, hdst⟩ := pop7
      obtain rfl := same ho' rfl
      have e0 : a.eval (.tmp 57) = .map (some B) := (h.get ho hdep (i := 6) (d := 57) (by kernel_rfl) rfl)
      refine wp_call _ _ _ hop #[.map (some B)] (by simp [e0]) (enters_of Tryz.func78 (by kernel_rfl) rfl) (.int .u8 kd) (fun w' => Kept noneB w w') ?_ (fun w' hk' => ⟨rfl, keep w' (by decide) hk'⟩)
      rw [hkd]
      refine (kind_any lo B r own w hPw).mono ?_
      rintro e w' ⟨rfl, rfl⟩
      exact ⟨rfl, Kept.refl _ _⟩
    · obtain ⟨o', ho', hop, hdst⟩ := pop8
      obtain rfl := same ho' rfl
      exact wp_move _ _ (Or.inl hop) ((h.old (t := 8) (by kernel_rfl)).trans h8) ⟨rfl, keep w (by decide) (Kept.refl _ _)⟩
    · obtain ⟨o', ho', hop, hdst⟩ := pop9
      obtain rfl := same ho' rfl
      exact wp_look _ _ _ hop _ _ _ (h.get ho hdep (i := 8) (d := 59) (by kernel_rfl) rfl) rfl l1 ⟨rfl, keep w (by decide) (Kept.refl _ _)⟩
    · obtain ⟨o', ho', hop, hdst⟩ := pop10
      obtain rfl := same ho' rfl
      exact wp_move _ _ (Or.inl hop) ((h.old (t := 8) (by kernel_rfl)).trans h8) ⟨rfl, keep w (by decide) (Kept.refl _ _)⟩
    · obtain ⟨o', ho', hop, hdst⟩ := pop11
      obtain rfl := same ho' rfl
      exact wp_look _ _ _ hop _ _ _ (h.get ho hdep (i := 10) (d := 61) (by kernel_rfl) rfl) rfl l2 ⟨rfl, keep w (by decide) (Kept.refl _ _)⟩
    · obtain ⟨o', ho', hop, hdst⟩ := pop12
      obtain rfl := same ho' rfl
      exact wp_move _ _ (Or.inl hop) ((h.old (t := 8) (by kernel_rfl)).trans h8) ⟨rfl, keep w (by decide) (Kept.refl _ _)⟩
    · obtain ⟨o', ho', hop, hdst⟩ := pop13
      obtain rfl := same ho' rfl
      exact wp_look _ _ _ hop _ _ _ (h.get ho hdep (i := 12) (d := 63) (by kernel_rfl) rfl) rfl l3 ⟨rfl, keep w (by decide) (Kept.refl _ _)⟩
    · obtain ⟨o', ho', hop, hdst⟩ := pop14
      obtain rfl := same ho' rfl
      exact wp_move _ _ (Or.inl hop) ((h.old (t := 8) (by kernel_rfl)).trans h8) ⟨rfl, keep w (by decide) (Kept.refl _ _)⟩
    · obtain ⟨o', ho', hop, hdst⟩ := pop15
      obtain rfl := same ho' rfl
      exact wp_look _ _ _ hop _ _ _ (h.get ho hdep (i := 14) (d := 65) (by kernel_rfl) rfl) rfl l5 ⟨rfl, keep w (by decide) (Kept.refl _ _)⟩
    · obtain ⟨o', ho', hop, hdst⟩ := pop16
      obtain rfl := same ho' rfl
      have e0 := (h.get ho hdep (i := 9) (d := 60) (by kernel_rfl) rfl)
      have e1 := (h.get ho hdep (i := 11) (d := 62) (by kernel_rfl) rfl)
      have e2 := (h.get ho hdep (i := 13) (d := 64) (by kernel_rfl) rfl)
      have e3 := (h.get ho hdep (i := 15) (d := 66) (by kernel_rfl) rfl)
      refine wp_run _ ?_ ⟨rfl, keep w (by decide) (Kept.refl _ _)⟩
      have b := build_meta w v1 v2 v3 v5
      have e0 : a.eval (.tmp 60) = .int .i64 v1 := e0
      have e1 : a.eval (.tmp 62) = .int .i64 v2 := e1
      have e2 : a.eval (.tmp 64) = .int .i64 v3 := e2
      have e3 : a.eval (.tmp 66) = .int .i64 v5 := e3
      simp [execOp, hop, e0, e1, e2, e3, b, Result.andThen, pV]
    · obtain ⟨o', ho', hop, hdst⟩ := pop17
      obtain rfl := same ho' rfl
      exact wp_move _ _ (Or.inl hop) ((h.old (t := 8) (by kernel_rfl)).trans h8) ⟨rfl, keep w (by decide) (Kept.refl _ _)⟩
    · obtain ⟨o', ho', hop, hdst⟩ := pop18
      obtain rfl := same ho' rfl
      exact wp_look _ _ _ hop _ _ _ (h.get ho hdep (i := 17) (d := 68) (by kernel_rfl) rfl) rfl l4 ⟨rfl, keep w (by decide) (Kept.refl _ _)⟩
    · obtain ⟨o', ho', hop, hdst⟩ := pop19
      obtain rfl := same ho' rfl
      exact wp_move _ _ (Or.inl hop) ((h.old (t := 7) (by kernel_rfl)).trans h7) ⟨rfl, keep w (by decide) (Kept.refl _ _)⟩
    · obtain ⟨o', ho', hop, hdst⟩ := pop20
      obtain rfl := same ho' rfl
      have e := (h.get ho hdep (i := 19) (d := 70) (by kernel_rfl) rfl)
      refine wp_run (.bool gnu) ?_ ⟨rfl, keep w (by decide) (Kept.refl _ _)⟩
      have e : a.eval (.tmp 70) = .string mg := e
      have ec : a.eval (.const (.string ⟨#[117, 115, 116, 97, 114, 32, 32, 0]⟩)) = .string ⟨#[117, 115, 116, 97, 114, 32, 32, 0]⟩ := rfl
      generalize a.eval = ev at e ec ⊢
      simp [go_sem, execOp, hop, e, ec, hgn]
    · obtain ⟨o', ho', hop, hdst⟩ := pop21
      obtain rfl := same ho' rfl
      have e0 : a.eval (.tmp 54) = .string nm := (h.get ho hdep (i := 3) (d := 54) (by kernel_rfl) rfl)
      have e1 : a.eval (.tmp 56) = .string ln := (h.get ho hdep (i := 5) (d := 56) (by kernel_rfl) rfl)
      have e2 : a.eval (.tmp 58) = .int .u8 kd := (h.get ho hdep (i := 7) (d := 58) (by kernel_rfl) rfl)
      have e3 : a.eval (.tmp 67) = .agg #[.int .i64 v1, .int .i64 v2, .int .i64 v3, .int .i64 v5] := (h.get ho hdep (i := 16) (d := 67) (by kernel_rfl) rfl)
      have e4 : a.eval (.tmp 69) = .int .i64 v4 := (h.get ho hdep (i := 18) (d := 69) (by kernel_rfl) rfl)
      have e5 : a.eval (.tmp 71) = .bool gnu := (h.get ho hdep (i := 20) (d := 71) (by kernel_rfl) rfl)
      refine wp_run _ ?_ ⟨rfl, keep w (by decide) (Kept.refl _ _)⟩
      have b := build_head w nm ln kd v1 v2 v3 v5 v4 gnu
      simp [execOp, hop, e0, e1, e2, e3, e4, e5, b, Result.andThen, pV]
    · obtain ⟨o', ho', hop, hdst⟩ := pop22
      obtain rfl := same ho' rfl
      have e0 := (h.old (t := 2) (by kernel_rfl)).trans h2
      have e1 := (h.get ho hdep (i := 21) (d := 72) (by kernel_rfl) rfl)
      have hh0 : w.heap[g]? = some (.cells zeroCs 57 (0, 0)) := by rw [getD_flip hun] at hh; exact hh
      refine wp_store9 _ _ hop g e0 nm ln kd v1 v2 v3 v5 v4 gnu e1 hh0 (fun w' hw' hk' => ⟨rfl, hk.trans hk', ?_⟩)
      rw [listed_get hlt, if_pos rfl, if_pos rfl, hC]
      exact hw'
    · obtain ⟨o', ho', hop, hdst⟩ := pop23
      obtain rfl := same ho' rfl
      exact wp_move _ _ (Or.inr hop) rfl ⟨rfl, keep w (by decide) (Kept.refl _ _)⟩
  · intro listed a w h hall
    have all : ∀ j, j < 24 → listed.getD j false = true := fun j hj => hall j (by rw [parse_size]; exact hj)
    obtain ⟨hk, hh⟩ := h.wd
    rw [all 22 (by omega), if_pos rfl] at hh
    obtain ⟨o', ho', _, hdst⟩ := pop23
    exact hQ a w h.df ((h.old (t := 2) (by kernel_rfl)).trans h2) (h.done 23 o' 3 ho' hdst (all 23 (by omega))) hh hk
end Go.Proofs.YtdjedimjhogdoaaGreatDoor.Head
end
section
namespace Go.Proofs.YtdjedimjhogdoaaGreatDoor.Head
open Go.ChangeShapes Go.WideShapes Go.ChangeAt Go.RowKit Go.Proofs.YtdjedimjhogdoaaGreatDoor.Base Go.Proofs.YtdjedimjhogdoaaGreatDoor.Byt Go.Proofs.YtdjedimjhogdoaaGreatDoor.Txt Go.Proofs.YtdjedimjhogdoaaGreatDoor.Hp Go.Proofs.YtdjedimjhogdoaaGreatDoor.Mp Go.Proofs.YtdjedimjhogdoaaGreatDoor.Fp Go.Proofs.YtdjedimjhogdoaaGreatDoor.Field Go.Lib
set_option linter.unusedVariables false
set_option maxRecDepth 100000

set_option maxHeartbeats 4000000 in
theorem parseH_any (p : Option Addr) (n c : Nat) (bs : List UInt8) (w : World) (hn : bs.length = n) (hc : n ≤ c) (hm0 : c ≤ maxLen) (h : BAt w p n bs) :
    Calls Tryz.prog 52 #[.slice p n c] w fun e w' => e = .returned (headA (headR bs)) ∧ Kept noneB w w' := by
  have hm : c ≤ 9223372036854775807 := by unfold maxLen at hm0; omega
  have fl := field_own
  have HN := Lib.hid hn
  have H := Lib.hid h
  clear h hn
  by_cases h512 : n = 512
  · subst h512
    obtain ⟨g, hg⟩ : ∃ g, g = w.heap.size := ⟨_, rfl⟩
    obtain ⟨w0, hw0⟩ : ∃ w0, w0 = w.alloc (.cells #[.string ⟨#[]⟩, .string ⟨#[]⟩, .int .u8 0, .int .i64 0, .int .i64 0, .int .i64 0, .int .i64 0, .int .i64 0, .bool false] 57) := ⟨_, rfl⟩
    have HK0 : Hid (Kept noneB w w0) := Lib.hid (by rw [hw0]; exact (Kept.refl noneB w).alloc _)
    have HG0 : Hid (w0.heap[g]? = some (.cells zeroCs 57 (0, 0))) := Lib.hid (by rw [hw0, hg]; exact heap_alloc_new w _)
    have HGL : Hid (g < w0.heap.size) := Lib.hid (Array.getElem?_eq_some_iff.1 HG0.out).1
    have HGE : Hid (g = w.heap.size) := Lib.hid hg
    have HG : Hid (w.heap.size ≤ g) := Lib.hid (by omega)
    go_enter Tryz.func52, Tryz.ntmps52
    go_wp2_with fail
    rw [← hw0, ← hg]
    clear hw0 hg
    refine (read_any p c bs w0 HN.out hc (by unfold maxLen; omega) (H.out.kept HK0.out (fun _ _ _ => id))).mono ?_
    obtain ⟨g', hg'⟩ : ∃ g', g' = w0.heap.size := ⟨_, rfl⟩
    have HLO : Hid (g' = w0.heap.size) := Lib.hid hg'
    rw [← hg']
    clear hg'
    rintro e w1 ⟨B, r, rfl, hP1, hk1⟩
    have HP1 := Lib.hid hP1
    have HK1 := Lib.hid hk1
    have lk6 : (Instr.lookup 121 (.map (some B)) (.int .i64 6) false).run Tryz.prog w1 = .ok (.agg #[.int .i64 148, .slice (some ⟨r 6, 0, none⟩) 8 8]) w1 := lookB hP1 6 (by omega)
    clear hP1 hk1
    go_wp2_with fail
    refine (parse_any _ 8 8 (readO bs 6) w1 (HP1.out.fit 6) (Nat.le_refl _) (by decide) (HP1.out.bat (i := 6) (by omega))).mono ?_
    rintro e w2 ⟨rfl, hb2⟩
    have hk2 : Kept noneB w1 w2 := Kept.of_below hb2 _
    have HP2 := Lib.hid (HP1.out.kept0 hk2)
    have HK2 := Lib.hid (HK1.out.trans hk2)
    have HG2 := Lib.hid (HK2.out.some_ HG0.out id)
    clear hb2 hk2 lk6
    rw [readO_at bs 6 (by omega)]
    cases hps : parseF (fieldB bs 6) with
    | none =>
      have E : Hid (headR bs = (zeroH, 3)) := Lib.hid (headR_sum HN.out (by rw [hps]; simp))
      rw [vI_none, oI_none]
      have c0 := cellsAt HG2.out
      have f0 := cellsFrozen HG2.out
      unfold zeroCs at c0
      clear hps
      go_wp2
      refine bodyPost_ret (ret_head rfl _ _ g _ rfl rfl ⟨#[]⟩ ⟨#[]⟩ 0 0 0 0 0 0 false (stored9 HG2.out _ _ _ _ _ _ _ _ _)) rfl ?_
      rw [E.out]
      exact ⟨rfl, (HK0.out.trans HK2.out).then (kept9 (Kept.refl (oneB g) _) _ _ _ _ _ _ _ _ _) (fun i hi => Or.inl (by
        have h1 : i = g := hi
        rw [h1]
        exact HG.out))⟩
    | some sm =>
      rw [vI_some, oI_some]
      have hsum := sum_parts (bs := bs)
      have hple := plainTo_le bs 512
      have hsle := sumTo_le bs 512
      have hpf := plainTo_le (fieldB bs 6) 8
      obtain ⟨X, hX⟩ : ∃ X : Int, X = (sumTo bs 512 : Nat) := ⟨_, rfl⟩
      have hS : ((plainTo bs 512 : Nat) : Int) - (plainTo (readO bs 6) 8 : Nat) + 256 = X := by
        rw [readO_at bs 6 (by omega), hX]; omega
      have HS := Lib.hid hS
      have HX := Lib.hid hX
      have HPS0 := Lib.hid hps
      have hbat2 : BAt w2 p 512 bs := (H.out.kept HK0.out (fun _ _ _ => id)).kept HK2.out (fun _ _ _ => id)
      have HB2 := Lib.hid hbat2
      clear hsum hple hsle hpf hX hS hps hbat2
      by_cases hsX : sm = X
      · subst hsX
        have HPS : Hid (parseF (fieldB bs 6) = some (sumTo bs 512 : Int)) := Lib.hid (by rw [HPS0.out, HX.out])
        have hbX : (sm == sm) = true := by simp
        go_wp2_with fail
        refine (sum_any g' B r (readO bs) p 512 c bs w2 (by omega) HB2.out HP2.out).mono ?_
        rintro e w2' ⟨rfl, rfl⟩
        rw [HS.out]
        have lk9 : (Instr.lookup 121 (.map (some B)) (.int .i64 9) false).run Tryz.prog w2 = .ok (.agg #[.int .i64 257, .slice (some ⟨r 9, 0, none⟩) 8 8]) w2 := lookB HP2.out 9 (by omega)
        have cs9 : (convert 22 9 (.slice (some ⟨r 9, 0, none⟩) 8 8)).run Tryz.prog w2 = .ok (.string (str (fieldB bs 9))) w2 := by
          have := conv_at (P := Tryz.prog) (HP2.out.bat (i := 9) (by omega)) (HP2.out.fit 9) 22 5 9 Tryz.underlying22 Tryz.underlying5 Tryz.underlying9 8
          rw [readO_at bs 9 (by omega)] at this
          exact this
        by_cases hu : fieldB bs 9 = ustarB
        · have HM9 : Hid (fieldB bs 9 = ustarB ∨ fieldB bs 9 = gnuB) := Lib.hid (Or.inl hu)
          have hm9 := hu
          rw [hu, ustar_str] at cs9
          clear hu
          have HMF : Hid (gnuOf bs = false) := Lib.hid (by rw [gnuOf, hm9]; decide)
          go_wp2_with fail
          refine (numbers_any g' B r (readO bs) w2 HP2.out).mono ?_
          intro e w3 h3
          obtain ⟨hk3, (⟨hok, Q, rfl, hQ⟩ | ⟨hno, rfl⟩)⟩ := h3
          · have HT : Hid (headR bs = (theHead bs, 0)) := Lib.hid (headR_ok HN.out HPS.out HM9.out (by rw [← numsO_read]; exact hok))
            have HK3 := Lib.hid (HK2.out.trans hk3)
            have HG3 := Lib.hid (hk3.some_ HG2.out id)
            have HP3 := Lib.hid (HP2.out.kept0 hk3)
            have HQ3 := Lib.hid hQ
            have hoff : Q ≠ g ∧ B ≠ g ∧ ∀ i, i < 11 → r i ≠ g := by
              have h2 := HGL.out
              have h3 := HLO.out
              refine ⟨fun e => ?_, fun e => ?_, fun i hi e => ?_⟩
              · obtain ⟨es, clock, hb, _⟩ := hQ
                have h1 := HG3.out
                rw [← e, hb] at h1
                cases h1
              · have h1 := HP3.out.lo.1
                omega
              · have h1 := HP3.out.lo.2 i hi
                omega
            have HOFF := Lib.hid hoff
            clear hoff
            have HALL : Hid (∀ w', Kept (oneB g) w3 w' →
                (Instr.lookup 126 (.map (some Q)) (.int .i64 1) false).run Tryz.prog w' = .ok (.int .i64 (valB bs 1)) w' ∧
                (Instr.lookup 126 (.map (some Q)) (.int .i64 2) false).run Tryz.prog w' = .ok (.int .i64 (valB bs 2)) w' ∧
                (Instr.lookup 126 (.map (some Q)) (.int .i64 3) false).run Tryz.prog w' = .ok (.int .i64 (valB bs 3)) w' ∧
                (Instr.lookup 126 (.map (some Q)) (.int .i64 4) false).run Tryz.prog w' = .ok (.int .i64 (valB bs 4)) w' ∧
                (Instr.lookup 126 (.map (some Q)) (.int .i64 5) false).run Tryz.prog w' = .ok (.int .i64 (valB bs 5)) w') := Lib.hid (fun w' hk => by
              have hq := HQ3.out.kept hk HOFF.out.1
              have lk : ∀ i, 1 ≤ i → i ≤ 5 → (Instr.lookup 126 (.map (some Q)) (keyV i) false).run Tryz.prog w' = .ok (.int .i64 (valB bs i)) w' := fun i h1 h2 =>
                hq.look (P := Tryz.prog) Tryz.underlying126 Tryz.underlying125 (by rw [numF_at _ h1 h2, readO_at bs i (by omega)]; rfl)
              exact ⟨lk 1 (by omega) (by omega), lk 2 (by omega) (by omega), lk 3 (by omega) (by omega), lk 4 (by omega) (by omega), lk 5 (by omega) (by omega)⟩)
            clear hk3 hok hQ
            go_wp2_with fail
            refine wp_region_any (by kernel_rfl) (parse_region (w3 := w3) g g' B Q r (readO bs) ⟨#[117, 115, 116, 97, 114, 0, 48, 48]⟩ false (valB bs 1) (valB bs 2) (valB bs 3) (valB bs 4) (valB bs 5) (show 73 ≤ 73 from Nat.le_refl 73) rfl rfl rfl rfl HP3.out HOFF.out.2.1 HOFF.out.2.2 HG3.out (fun w' hk => HALL.out w' hk) (by rw [← ustar_str, str_toList]; decide) ?_)
            intro a' w' hd' h2' h3' hw' hk'
            have hT : (theHead bs).gnu = false := HMF.out
            have HFIN : Hid (headA (headR bs) = .tuple #[.agg #[.string (str (nameF (untilB (readO bs 10)) (untilB (readO bs 0)) false)), .string (str (untilB (readO bs 8))), .int .u8 ((kindO (readO bs 7)).toNat : Int), .int .i64 (valB bs 1), .int .i64 (valB bs 2), .int .i64 (valB bs 3), .int .i64 (valB bs 5), .int .i64 (valB bs 4), .bool false], .int .i64 0]) := Lib.hid (by
              rw [HT.out]
              simp only [headA, headC, theHead, HMF.out]
              rfl)
            simp only [Exit.then]
            apply_assumption
            go_wp2
            refine bodyPost_ret (ret_head rfl _ _ g (.int .i64 0) h2' h3' _ _ _ _ _ _ _ _ _ hw') hd' ?_
            rw [HFIN.out]
            exact ⟨rfl, (HK0.out.trans HK3.out).then hk' (fun i hi => Or.inl (by
              have h1 : i = g := hi
              rw [h1]
              exact HG.out))⟩
          · have E : Hid (headR bs = (zeroH, 4)) := Lib.hid (headR_num HN.out HPS.out HM9.out (by rw [← numsO_read]; exact hno))
            have HK3 := Lib.hid (HK2.out.trans hk3)
            have HG3 := Lib.hid (hk3.some_ HG2.out id)
            have c0 := cellsAt HG3.out
            have f0 := cellsFrozen HG3.out
            unfold zeroCs at c0
            clear hk3 hno
            go_wp2
            refine bodyPost_ret (ret_head rfl _ _ g _ rfl rfl ⟨#[]⟩ ⟨#[]⟩ 0 0 0 0 0 0 false (stored9 HG3.out _ _ _ _ _ _ _ _ _)) rfl ?_
            rw [E.out]
            exact ⟨rfl, (HK0.out.trans HK3.out).then (kept9 (Kept.refl (oneB g) _) _ _ _ _ _ _ _ _ _) (fun i hi => Or.inl (by
              have h1 : i = g := hi
              rw [h1]
              exact HG.out))⟩
        · by_cases hgn : fieldB bs 9 = gnuB
          · have HM9 : Hid (fieldB bs 9 = ustarB ∨ fieldB bs 9 = gnuB) := Lib.hid (Or.inr hgn)
            have hm9 := hgn
            rw [hgn, gnu_str] at cs9
            clear hu hgn
            have HMF : Hid (gnuOf bs = true) := Lib.hid (by rw [gnuOf, hm9]; decide)
            go_wp2_with fail
            refine (numbers_any g' B r (readO bs) w2 HP2.out).mono ?_
            intro e w3 h3
            obtain ⟨hk3, (⟨hok, Q, rfl, hQ⟩ | ⟨hno, rfl⟩)⟩ := h3
            · have HT : Hid (headR bs = (theHead bs, 0)) := Lib.hid (headR_ok HN.out HPS.out HM9.out (by rw [← numsO_read]; exact hok))
              have HK3 := Lib.hid (HK2.out.trans hk3)
              have HG3 := Lib.hid (hk3.some_ HG2.out id)
              have HP3 := Lib.hid (HP2.out.kept0 hk3)
              have HQ3 := Lib.hid hQ
              have hoff : Q ≠ g ∧ B ≠ g ∧ ∀ i, i < 11 → r i ≠ g := by
                have h2 := HGL.out
                have h3 := HLO.out
                refine ⟨fun e => ?_, fun e => ?_, fun i hi e => ?_⟩
                · obtain ⟨es, clock, hb, _⟩ := hQ
                  have h1 := HG3.out
                  rw [← e, hb] at h1
                  cases h1
                · have h1 := HP3.out.lo.1
                  omega
                · have h1 := HP3.out.lo.2 i hi
                  omega
              have HOFF := Lib.hid hoff
              clear hoff
              have HALL : Hid (∀ w', Kept (oneB g) w3 w' →
                  (Instr.lookup 126 (.map (some Q)) (.int .i64 1) false).run Tryz.prog w' = .ok (.int .i64 (valB bs 1)) w' ∧
                  (Instr.lookup 126 (.map (some Q)) (.int .i64 2) false).run Tryz.prog w' = .ok (.int .i64 (valB bs 2)) w' ∧
                  (Instr.lookup 126 (.map (some Q)) (.int .i64 3) false).run Tryz.prog w' = .ok (.int .i64 (valB bs 3)) w' ∧
                  (Instr.lookup 126 (.map (some Q)) (.int .i64 4) false).run Tryz.prog w' = .ok (.int .i64 (valB bs 4)) w' ∧
                  (Instr.lookup 126 (.map (some Q)) (.int .i64 5) false).run Tryz.prog w' = .ok (.int .i64 (valB bs 5)) w') := Lib.hid (fun w' hk => by
                have hq := HQ3.out.kept hk HOFF.out.1
                have lk : ∀ i, 1 ≤ i → i ≤ 5 → (Instr.lookup 126 (.map (some Q)) (keyV i) false).run Tryz.prog w' = .ok (.int .i64 (valB bs i)) w' := fun i h1 h2 =>
                  hq.look (P := Tryz.prog) Tryz.underlying126 Tryz.underlying125 (by rw [numF_at _ h1 h2, readO_at bs i (by omega)]; rfl)
                exact ⟨lk 1 (by omega) (by omega), lk 2 (by omega) (by omega), lk 3 (by omega) (by omega), lk 4 (by omega) (by omega), lk 5 (by omega) (by omega)⟩)
              clear hk3 hok hQ
              go_wp2_with fail
              refine wp_region_any (by kernel_rfl) (parse_region (w3 := w3) g g' B Q r (readO bs) ⟨#[117, 115, 116, 97, 114, 32, 32, 0]⟩ true (valB bs 1) (valB bs 2) (valB bs 3) (valB bs 4) (valB bs 5) (show 73 ≤ 73 from Nat.le_refl 73) rfl rfl rfl rfl HP3.out HOFF.out.2.1 HOFF.out.2.2 HG3.out (fun w' hk => HALL.out w' hk) (by rw [← gnu_str, str_toList]; decide) ?_)
              intro a' w' hd' h2' h3' hw' hk'
              have hT : (theHead bs).gnu = true := HMF.out
              have HFIN : Hid (headA (headR bs) = .tuple #[.agg #[.string (str (nameF (untilB (readO bs 10)) (untilB (readO bs 0)) true)), .string (str (untilB (readO bs 8))), .int .u8 ((kindO (readO bs 7)).toNat : Int), .int .i64 (valB bs 1), .int .i64 (valB bs 2), .int .i64 (valB bs 3), .int .i64 (valB bs 5), .int .i64 (valB bs 4), .bool true], .int .i64 0]) := Lib.hid (by
                rw [HT.out]
                simp only [headA, headC, theHead, HMF.out]
                rfl)
              simp only [Exit.then]
              apply_assumption
              go_wp2
              refine bodyPost_ret (ret_head rfl _ _ g (.int .i64 0) h2' h3' _ _ _ _ _ _ _ _ _ hw') hd' ?_
              rw [HFIN.out]
              exact ⟨rfl, (HK0.out.trans HK3.out).then hk' (fun i hi => Or.inl (by
                have h1 : i = g := hi
                rw [h1]
                exact HG.out))⟩
            · have E : Hid (headR bs = (zeroH, 4)) := Lib.hid (headR_num HN.out HPS.out HM9.out (by rw [← numsO_read]; exact hno))
              have HK3 := Lib.hid (HK2.out.trans hk3)
              have HG3 := Lib.hid (hk3.some_ HG2.out id)
              have c0 := cellsAt HG3.out
              have f0 := cellsFrozen HG3.out
              unfold zeroCs at c0
              clear hk3 hno
              go_wp2
              refine bodyPost_ret (ret_head rfl _ _ g _ rfl rfl ⟨#[]⟩ ⟨#[]⟩ 0 0 0 0 0 0 false (stored9 HG3.out _ _ _ _ _ _ _ _ _)) rfl ?_
              rw [E.out]
              exact ⟨rfl, (HK0.out.trans HK3.out).then (kept9 (Kept.refl (oneB g) _) _ _ _ _ _ _ _ _ _) (fun i hi => Or.inl (by
                have h1 : i = g := hi
                rw [h1]
                exact HG.out))⟩
          · have E : Hid (headR bs = (zeroH, 9)) := Lib.hid (headR_text HN.out HPS.out ⟨hu, hgn⟩)
            have q1 : ((str (fieldB bs 9)).toList == [117, 115, 116, 97, 114, 0, 48, 48]) = false := by rw [str_toList]; exact beq_eq_false_iff_ne.2 hu
            have q2 : ((str (fieldB bs 9)).toList == [117, 115, 116, 97, 114, 32, 32, 0]) = false := by rw [str_toList]; exact beq_eq_false_iff_ne.2 hgn
            have c0 := cellsAt HG2.out
            have f0 := cellsFrozen HG2.out
            unfold zeroCs at c0
            clear hu hgn
            go_wp2
            refine bodyPost_ret (ret_head rfl _ _ g _ rfl rfl ⟨#[]⟩ ⟨#[]⟩ 0 0 0 0 0 0 false (stored9 HG2.out _ _ _ _ _ _ _ _ _)) rfl ?_
            rw [E.out]
            exact ⟨rfl, (HK0.out.trans HK2.out).then (kept9 (Kept.refl (oneB g) _) _ _ _ _ _ _ _ _ _) (fun i hi => Or.inl (by
              have h1 : i = g := hi
              rw [h1]
              exact HG.out))⟩
      · have E : Hid (headR bs = (zeroH, 3)) := Lib.hid (headR_sum HN.out (by
          rw [HPS0.out, ← HX.out]
          intro e
          exact hsX (Option.some.inj e)))
        have hbX : (sm == X) = false := by simpa using hsX
        have c0 := cellsAt HG2.out
        have f0 := cellsFrozen HG2.out
        unfold zeroCs at c0
        go_wp2_with fail
        refine (sum_any g' B r (readO bs) p 512 c bs w2 (by omega) HB2.out HP2.out).mono ?_
        rintro e w2' ⟨rfl, rfl⟩
        rw [HS.out]
        go_wp2
        refine bodyPost_ret (ret_head rfl _ _ g _ rfl rfl ⟨#[]⟩ ⟨#[]⟩ 0 0 0 0 0 0 false (stored9 HG2.out _ _ _ _ _ _ _ _ _)) rfl ?_
        rw [E.out]
        exact ⟨rfl, (HK0.out.trans HK2.out).then (kept9 (Kept.refl (oneB g) _) _ _ _ _ _ _ _ _ _) (fun i hi => Or.inl (by
          have h1 : i = g := hi
          rw [h1]
          exact HG.out))⟩
  · have E : Hid (headR bs = (zeroH, 1)) := Lib.hid (headR_arg (by rw [HN.out]; exact h512))
    have hb : ((n : Int) == 512) = false := by simp; omega
    have hk0 : Kept noneB w (w.alloc (.cells #[.string ⟨#[]⟩, .string ⟨#[]⟩, .int .u8 0, .int .i64 0, .int .i64 0, .int .i64 0, .int .i64 0, .int .i64 0, .bool false] 57)) := (Kept.refl noneB w).alloc _
    have HK0 := Lib.hid hk0
    clear hk0
    go_enter Tryz.func52, Tryz.ntmps52
    go_wp2
    refine bodyPost_ret (ret_head rfl _ _ w.heap.size _ rfl rfl ⟨#[]⟩ ⟨#[]⟩ 0 0 0 0 0 0 false (heap_alloc_new _ _)) rfl ?_
    rw [E.out]
    exact ⟨rfl, HK0.out⟩
end Go.Proofs.YtdjedimjhogdoaaGreatDoor.Head
end
section
namespace Go.Proofs.YtdjedimjhogdoaaGreatDoor.Head
open Go.ChangeShapes Go.WideShapes Go.ChangeAt Go.RowKit Go.Proofs.YtdjedimjhogdoaaGreatDoor.Base Go.Proofs.YtdjedimjhogdoaaGreatDoor.Byt Go.Proofs.YtdjedimjhogdoaaGreatDoor.Txt Go.Proofs.YtdjedimjhogdoaaGreatDoor.Hp Go.Proofs.YtdjedimjhogdoaaGreatDoor.Mp Go.Proofs.YtdjedimjhogdoaaGreatDoor.Num
set_option linter.unusedVariables false
set_option maxRecDepth 100000

/-- what Cut answers -/
def cutV (name : List UInt8) : Value :=
  match cutR name with
  | some (p, s) => .tuple #[.string (str p), .string (str s), .bool true]
  | none => .tuple #[.string ⟨#[]⟩, .string ⟨#[]⟩, .bool false]
theorem cutV_some {name p s : List UInt8} (h : cutR name = some (p, s)) : cutV name = .tuple #[.string (str p), .string (str s), .bool true] := by rw [cutV, h]
theorem cutV_none {name : List UInt8} (h : cutR name = none) : cutV name = .tuple #[.string ⟨#[]⟩, .string ⟨#[]⟩, .bool false] := by rw [cutV, h]
theorem ext_take (s : ByteArray) (k : Nat) : s.extract 0 k = str (s.data.toList.take k) := by
  apply ByteArray.ext
  apply Array.toList_inj.1
  rw [ByteArray.data_extract, Array.toList_extract]
  rfl
theorem ext_drop (s : ByteArray) (k : Nat) : s.extract k s.size = str (s.data.toList.drop k) := by
  apply ByteArray.ext
  apply Array.toList_inj.1
  rw [ByteArray.data_extract, Array.toList_extract]
  show (s.data.toList.drop k).take (s.size - k) = s.data.toList.drop k
  rw [List.take_of_length_le]
  rw [List.length_drop, Array.length_toList]
  exact Nat.le_refl _
theorem s_at (s : ByteArray) (k : Nat) (h : k < s.size) : s.data.toList.getD k 0 = s[k] := by
  rw [List.getD, List.getElem?_eq_getElem (show k < s.data.toList.length by simpa using h)]
  rfl
set_option maxHeartbeats 2000000 in
theorem rcut_any (s : ByteArray) (w : World) (hm : s.size ≤ 140737488351232) :
    Calls Tryz.prog 45 #[.string s] w fun e w' => e = .returned (cutV s.data.toList) ∧ Kept noneB w w' := by
  have hlen : s.data.toList.length = s.size := by simp
  have HLEN := Lib.hid hlen
  clear hlen
  by_cases hshort : s.size ≤ 100
  · have E : Hid (cutV s.data.toList = .tuple #[.string ⟨#[]⟩, .string s, .bool true]) := Lib.hid (by
      rw [cutV_some (cutR_short (by rw [HLEN.out]; exact hshort)), str_of]; rfl)
    go_enter Tryz.func45, Tryz.ntmps45
    go_wp2
    go_ret3
    rw [E.out]
    exact ⟨rfl, Kept.refl _ _⟩
  · have HS : Hid (¬ s.data.toList.length ≤ 100) := Lib.hid (by rw [HLEN.out]; exact hshort)
    go_enter Tryz.func45, Tryz.ntmps45
    go_wp2_with fail
    go_loopw [5] (fun i wr => ∃ (k : Nat), k ≤ s.size ∧ i = .int .i64 k ∧ Hid (∀ j, j < k → ¬ mayCut s.data.toList j) ∧ Hid (Kept noneB w wr)) (fun i _ => s.size - (RowKit.intOf i).toNat)
    case atStart => exact ⟨0, Nat.zero_le _, rfl, Lib.hid (fun j hj => by omega), Lib.hid (Kept.refl _ _)⟩
    case round =>
      obtain ⟨k, hk, rfl, hr, hK⟩ := hrel
      by_cases hlt : k < s.size
      · have hxg : Hid (((s[k]).toNat : Int) = ((s.data.toList.getD k 0).toNat : Int)) := Lib.hid (by rw [s_at s k hlt])
        have HNO : Hid ((¬ mayCut s.data.toList k) → ∀ j, j < k + 1 → ¬ mayCut s.data.toList j) := Lib.hid (fun h j hj => by
          rcases Nat.lt_succ_iff_lt_or_eq.1 hj with h' | rfl
          · exact hr.out j h'
          · exact h)
        have E3 := Lib.hid (ext_take s k)
        have E4 := Lib.hid (ext_drop s (k + 1))
        have hxb := u8_bd (s[k])
        obtain ⟨hx0, hx1⟩ := hxb
        have HK := Lib.hid (fun nq => hK.out.drewN nq)
        by_cases hc : ((s[k]).toNat : Int) = 47
        · have HC : Hid (s.data.toList.getD k 0 = 47) := Lib.hid (UInt8.toNat_inj.1 (show (s.data.toList.getD k 0).toNat = 47 by have := hxg.out; omega))
          have hcb : (((s[k]).toNat : Int) == 47) = true := by simpa using hc
          by_cases ha0 : 0 < k
          · by_cases ha2 : k ≤ 155
            · by_cases hb2 : s.size ≤ k + 101
              · by_cases hb1 : k + 2 ≤ s.size
                · have hm : Hid (mayCut s.data.toList k) := Lib.hid ⟨HC.out, ha0, ha2, by rw [HLEN.out]; omega, by rw [HLEN.out]; omega⟩
                  have E : Hid (cutV s.data.toList = .tuple #[.string (s.extract 0 k), .string (s.extract (k + 1) s.size), .bool true]) := Lib.hid (by
                    rw [cutV_some (cutR_at HS.out hm.out hr.out), ← E3.out, ← E4.out])
                  go_wp2_with fail
                  go_quiet (fail)
                  go_wp2
                  go_ret3
                  rw [E.out]
                  exact ⟨rfl, HK.out _⟩
                · have HM : Hid (¬ mayCut s.data.toList k) := Lib.hid (fun h => hb1 (by have h1 := h.2.2.2.1; rw [HLEN.out] at h1; exact h1))
                  go_wp2
                  go_roundw
                  case rel => exact ⟨k + 1, by omega, by go_num, Lib.hid (HNO.out HM.out), hK⟩
                  case measure => simp [RowKit.intOf]; omega
              · have HM : Hid (¬ mayCut s.data.toList k) := Lib.hid (fun h => hb2 (by have h1 := h.2.2.2.2; rw [HLEN.out] at h1; exact h1))
                go_wp2
                go_roundw
                case rel => exact ⟨k + 1, by omega, by go_num, Lib.hid (HNO.out HM.out), hK⟩
                case measure => simp [RowKit.intOf]; omega
            · have HM : Hid (¬ mayCut s.data.toList k) := Lib.hid (fun h => ha2 h.2.2.1)
              go_wp2
              go_roundw
              case rel => exact ⟨k + 1, by omega, by go_num, Lib.hid (HNO.out HM.out), hK⟩
              case measure => simp [RowKit.intOf]; omega
          · have HM : Hid (¬ mayCut s.data.toList k) := Lib.hid (fun h => ha0 h.2.1)
            go_wp2
            go_roundw
            case rel => exact ⟨k + 1, by omega, by go_num, Lib.hid (HNO.out HM.out), hK⟩
            case measure => simp [RowKit.intOf]; omega
        · have HM : Hid (¬ mayCut s.data.toList k) := Lib.hid (fun h => hc (by rw [hxg.out, h.1]; rfl))
          have hcb : (((s[k]).toNat : Int) == 47) = false := by simpa using hc
          go_wp2
          go_roundw
          case rel => exact ⟨k + 1, by omega, by go_num, Lib.hid (HNO.out HM.out), hK⟩
          case measure => simp [RowKit.intOf]; omega
      · have hks : Hid (k = s.size) := Lib.hid (by omega)
        have E : Hid (cutV s.data.toList = .tuple #[.string ⟨#[]⟩, .string ⟨#[]⟩, .bool false]) := Lib.hid (cutV_none (cutR_none HS.out (by
          rw [HLEN.out, ← hks.out]; exact hr.out)))
        go_wp2
        go_ret3
        rw [E.out]
        exact ⟨rfl, hK.out⟩
end Go.Proofs.YtdjedimjhogdoaaGreatDoor.Head
end
section
namespace Go.Proofs.YtdjedimjhogdoaaGreatDoor
end Go.Proofs.YtdjedimjhogdoaaGreatDoor
end
section
namespace Go.Proofs.YtdjedimjhogdoaaGreatDoor.Head
open Go.ChangeShapes Go.WideShapes Go.ChangeAt Go.RowKit Go.Proofs.YtdjedimjhogdoaaGreatDoor.Base Go.Proofs.YtdjedimjhogdoaaGreatDoor.Byt Go.Proofs.YtdjedimjhogdoaaGreatDoor.Txt Go.Proofs.YtdjedimjhogdoaaGreatDoor.Hp Go.Proofs.YtdjedimjhogdoaaGreatDoor.Mp Go.Proofs.YtdjedimjhogdoaaGreatDoor.Fp Go.Proofs.YtdjedimjhogdoaaGreatDoor.Field Go.Lib
set_option linter.unusedVariables false
set_option maxRecDepth 100000

theorem index_zero (l : List UInt8) : decide (0 ≤ Lib.indexByte l 0) = l.contains 0 := by
  cases hc : l.contains 0 with
  | true =>
    rw [decide_eq_true_eq]
    have hm : (0 : UInt8) ∈ l := by simpa using hc
    obtain ⟨k, hk⟩ := List.getElem?_of_mem hm
    have hge := Lib.indexByte_ge l 0
    rcases Int.lt_or_le (Lib.indexByte l 0) 0 with h | h
    · exact absurd hk (Lib.indexByte_none (show Lib.indexByte l 0 = -1 by omega) k)
    · exact h
  | false =>
    rw [decide_eq_false_iff_not]
    intro h
    obtain ⟨k, hk⟩ : ∃ k : Nat, Lib.indexByte l 0 = k := ⟨(Lib.indexByte l 0).toNat, by omega⟩
    have h1 := List.mem_of_getElem? (Lib.indexByte_some hk).1
    have h2 : l.contains 0 = true := by simpa using h1
    rw [hc] at h2
    cases h2
theorem contains_any (l : List UInt8) (w : World) : Calls Tryz.prog 110 #[.string (str l), .string ⟨#[0]⟩] w fun e w' => e = .returned (.bool (l.contains 0)) ∧ w = w' :=
  (Any.strings_Contains_one Tryz.laysConts (str l) 0 w).mono fun e w' ⟨h1, h2⟩ => ⟨by rw [h1, str_data, index_zero], h2.symm⟩
theorem put_zero {own : Nat → List UInt8} {i : Nat} {t : List UInt8} (hz : own i = List.replicate (wideF i) 0) (hl : t.length ≤ wideF i) : putInto (own i) (t.take (wideF i)) = padTo (wideF i) t := by
  rw [hz, List.take_of_length_le hl, putInto_zero]
theorem putR_cut {h : HeadV} (hc : cutR h.name = none) : putR h = none := by unfold putR; rw [hc]
theorem putR_bad {h : HeadV} (hb : badH h = true) : putR h = none := by
  unfold putR
  cases cutR h.name with
  | none => rfl
  | some ps => simp only; rw [if_pos (by rw [hb]; rfl)]
theorem putR_num {h : HeadV} (hn : numsOk h = false) : putR h = none := by
  unfold putR
  cases cutR h.name with
  | none => rfl
  | some ps => simp only; rw [if_pos (by rw [hn]; simp)]
theorem putR_ok {h : HeadV} {p s : List UInt8} (hc : cutR h.name = some (p, s)) (hb : badH h = false) (hn : numsOk h = true) : putR h = some (blockA (own2 h p s)) := by
  unfold putR
  rw [hc]
  simp only
  rw [if_neg (by rw [hb, hn]; simp)]
/-- what Put leaves -/
def PutHPost (w : World) (r : Option (List UInt8)) (e : Ending) (w' : World) : Prop :=
  Kept noneB w w' ∧ ((∃ bs g, r = some bs ∧ e = .returned (.tuple #[.slice (some ⟨g, 0, none⟩) 512 512, .bool true]) ∧ RowB w' g bs ∧ w.heap.size ≤ g) ∨ (r = none ∧ e = .returned (.tuple #[.slice none 0 0, .bool false])))
theorem one_bat (w : World) (k : UInt8) : BAt (w.alloc (.cells #[.int .u8 (k.toNat : Int)] 5)) (some ⟨w.heap.size, 0, none⟩) 1 [k] := fun _ =>
  ⟨w.heap.size, 0, rfl, fun i hi => by
    obtain rfl : i = 0 := by omega
    rw [World.cell?_alloc_at _ _ _ _ rfl]
    rfl⟩
theorem own1_field (h : HeadV) (p s : List UInt8) : own1 h p s 0 = padTo 100 s ∧ own1 h p s 6 = List.replicate 8 0 ∧ own1 h p s 7 = [h.kind] ∧ own1 h p s 8 = padTo 100 h.link ∧ own1 h p s 9 = ustarB ∧ own1 h p s 10 = padTo 155 p ∧ ∀ i, 1 ≤ i → i ≤ 5 → own1 h p s i = numB h i := by
  refine ⟨rfl, rfl, rfl, rfl, rfl, rfl, fun i h1 h2 => ?_⟩
  unfold own1
  rw [if_neg (by omega), if_neg (by omega), if_neg (by omega), if_neg (by omega), if_neg (by omega), if_neg (by omega), if_pos h2]
end Go.Proofs.YtdjedimjhogdoaaGreatDoor.Head
end
section
namespace Go.Proofs.YtdjedimjhogdoaaGreatDoor.Head
open Go.ChangeShapes Go.WideShapes Go.ChangeAt Go.RowKit Go.Proofs.YtdjedimjhogdoaaGreatDoor.Base Go.Proofs.YtdjedimjhogdoaaGreatDoor.Byt Go.Proofs.YtdjedimjhogdoaaGreatDoor.Txt Go.Proofs.YtdjedimjhogdoaaGreatDoor.Hp Go.Proofs.YtdjedimjhogdoaaGreatDoor.Mp Go.Proofs.YtdjedimjhogdoaaGreatDoor.Fp Go.Proofs.YtdjedimjhogdoaaGreatDoor.Field Go.Lib
set_option linter.unusedVariables false
set_option maxRecDepth 100000

theorem zero_any (p : Option Addr) (n c : Nat) (bs : List UInt8) (w : World) (hm : n ≤ 140737488351232) (h : BAt w p n bs) :
    Calls Tryz.prog 50 #[.slice p n c] w fun e w' => e = .returned (.bool (((plainTo bs n : Nat) : Int) == 0)) ∧ w = w' := by
  have H := Lib.hid h
  clear h
  go_enter Tryz.func50, Tryz.ntmps50
  go_wp2_with fail
  refine (total_any p n c bs w hm H.out).mono ?_
  rintro e w1 ⟨rfl, rfl⟩
  go_wp2
  go_ret
  exact ⟨rfl, rfl⟩
/-- the head that the laws ask with -/
def aH : HeadV := ⟨[97], [], 48, 0, 0, 0, 0, 9, false⟩
theorem aH_put : ∃ bs, putR aH = some bs ∧ bs.length = 512 ∧ bs.getD 0 0 = 97 ∧ headR bs = (aH, 0) := by
  have hc : cutR aH.name = some ([], [97]) := cutR_short (by decide)
  have hb : badH aH = false := by decide
  have hn : numsOk aH = true := by decide +kernel
  have hp := putR_ok hc hb hn
  refine ⟨_, hp, blockA_length _, ?_, headR_put hp⟩
  rw [blockA_get _ (by omega)]
  have h0 : fld 0 = 0 := rfl
  rw [h0, own2, upd_other _ _ (by omega)]
  rfl
end Go.Proofs.YtdjedimjhogdoaaGreatDoor.Head
end
section
namespace Go.Proofs.YtdjedimjhogdoaaGreatDoor.Mem
open Go.ChangeShapes Go.WideShapes Go.ChangeAt Go.RowKit Go.Proofs.YtdjedimjhogdoaaGreatDoor.Base Go.Proofs.YtdjedimjhogdoaaGreatDoor.Byt Go.Proofs.YtdjedimjhogdoaaGreatDoor.Txt Go.Proofs.YtdjedimjhogdoaaGreatDoor.Bk Go.Proofs.YtdjedimjhogdoaaGreatDoor.Mk Go.Proofs.YtdjedimjhogdoaaGreatDoor.Block Go.Proofs.YtdjedimjhogdoaaGreatDoor.Hp Go.Proofs.YtdjedimjhogdoaaGreatDoor.Head Go.Proofs.YtdjedimjhogdoaaGreatDoor.Attr Go.Proofs.YtdjedimjhogdoaaGreatDoor.Rec Go.Lib
set_option linter.unusedVariables false
set_option maxRecDepth 100000

theorem zero512_any (p : Option Addr) (c : Nat) (X : List UInt8) (w : World) (hl : X.length = 512) (h : BAt w p 512 X) :
    Calls Tryz.prog 50 #[.slice p 512 c] w fun e w' => e = .returned (.bool (zeroB X)) ∧ w = w' := by
  have := zero_any p 512 c X w (by omega) h
  rwa [plain_zeroB hl] at this
/-- what is answered behind the first block of the archive's end -/
def endE (l2 : List UInt8) (s : RS) : Int := if l2.length < 512 then 2 else if zeroB l2 = false then 9 else if s.hasX = true ∨ s.name.isSome = true ∨ s.link.isSome = true then 5 else 0
theorem zeroB_two (l : List UInt8) : zeroB l = (zeroB (l.take 512) && zeroB (l.drop 512)) := by
  conv => lhs; rw [← List.take_append_drop 512 l]
  unfold zeroB
  rw [List.all_append]
section
variable {w0 w w' : World} {K : RK} {a : Nat} {s : RS} {mb : Option Nat} {v : Value} {xs : List MP} {q : Option Addr} {n c : Nat}
theorem wait_none (s : RS) (q : Option Addr) (n c : Nat) : (∀ x, waitF s q n c x = none) ↔ ¬ (s.hasX = true ∨ s.name.isSome = true ∨ s.link.isSome = true) := by
  constructor
  · intro h e
    have h0 := h 120
    have h1 := h 76
    have h2 := h 75
    unfold waitF at h0 h1 h2
    rw [if_pos rfl] at h0
    rw [if_neg (by decide), if_pos rfl] at h1
    rw [if_neg (by decide), if_neg (by decide), if_pos rfl] at h2
    rcases e with e | e | e
    · rw [if_pos e] at h0
      cases h0
    · obtain ⟨x, hx⟩ := Option.isSome_iff_exists.1 e
      rw [hx] at h1
      cases h1
    · obtain ⟨x, hx⟩ := Option.isSome_iff_exists.1 e
      rw [hx] at h2
      cases h2
  · intro h k
    have h1 : s.hasX = false := by
      cases hx : s.hasX with
      | false => rfl
      | true => exact absurd (.inl hx) h
    have h2 : s.name = none := by
      cases hx : s.name with
      | none => rfl
      | some t => exact absurd (.inr (.inl (by rw [hx]; rfl))) h
    have h3 : s.link = none := by
      cases hx : s.link with
      | none => rfl
      | some t => exact absurd (.inr (.inr (by rw [hx]; rfl))) h
    unfold waitF
    rw [h1, h2, h3]
    simp
def EndPost (w0 : World) (K : RK) (a : Nat) (s : RS) (mb : Option Nat) (v : Value) (xs : List MP) (q : Option Addr) (n c : Nat) (r : Int) (e : Ending) (w' : World) : Prop :=
  e = .returned (.int .i64 r) ∧ ∃ a', Rd w0 w' K a' s mb v xs q n c
set_option maxHeartbeats 2000000 in
theorem end_any (hr : Rd w0 w K a s mb v xs q n c) :
    Calls Tryz.prog 51 #[.pointer (some ⟨K.r, 0, none⟩)] w (EndPost w0 K a s mb v xs q n c (endE (K.S.bs.drop a) s)) := by
  obtain ⟨t, hs⟩ := hr.src
  have hlen := hs.len
  have hle := hs.le
  have HR := Lib.hid hr
  have HS := Lib.hid hs
  have x0 := hr.c0
  have hLL : (K.S.bs.drop a).length = K.S.n - a := by rw [List.length_drop, hlen]
  obtain ⟨E, hE⟩ : ∃ E, endE (K.S.bs.drop a) s = E := ⟨_, rfl⟩
  rw [hE]
  unfold endE at hE
  by_cases h1 : a = K.S.n
  · rw [if_pos (by omega)] at hE
    subst hE
    have hB := block_res w K.g a t K.S hs hr.off
    rw [show blkR K.S.bs a = (14, [], a) by unfold blkR; rw [if_pos (by omega)]] at hB
    clear hr hs hlen hle hLL h1
    go_enter Tryz.func51, Tryz.ntmps51
    go_wp2_with fail
    refine hB.mono ?_
    rintro e w1 ⟨p, m, cc, t', rfl, h1, h2, h3, h4, h5⟩
    have F := Lib.hid (HR.out.moved h5 ⟨t', h4⟩)
    clear h1 h2 h3 h4 h5 hB x0
    go_wp2
    go_ret
    exact ⟨rfl, _, F.out⟩
  · by_cases h2 : a + 512 ≤ K.S.n
    · rw [if_neg (by omega), zeroB_two] at hE
      have hB := block_res w K.g a t K.S hs hr.off
      rw [show blkR K.S.bs a = (0, (K.S.bs.drop a).take 512, a + 512) by unfold blkR; rw [if_neg (by omega), if_pos (by omega)]] at hB
      obtain ⟨X, hX⟩ : ∃ X, (K.S.bs.drop a).take 512 = X := ⟨_, rfl⟩
      have hXl : X.length = 512 := by rw [← hX, List.length_take]; omega
      rw [hX] at hE hB
      obtain ⟨Z, hZ⟩ : ∃ Z, zeroB X = Z := ⟨_, rfl⟩
      obtain ⟨Y, hY⟩ : ∃ Y, zeroB ((K.S.bs.drop a).drop 512) = Y := ⟨_, rfl⟩
      rw [hZ, hY] at hE
      rw [List.drop_drop] at hY
      have HXL := Lib.hid hXl
      have HZ := Lib.hid hZ
      have HY := Lib.hid hY
      have HE := Lib.hid hE
      clear hr hs hlen hle hLL h1 h2 hX hXl hZ hY hE
      go_enter Tryz.func51, Tryz.ntmps51
      go_wp2_with fail
      refine hB.mono ?_
      rintro e w1 ⟨p, m, cc, t', rfl, h1, h2, h3, h4, h5⟩
      obtain rfl : m = 512 := by rw [← h1]; exact HXL.out
      have F := Lib.hid (HR.out.moved h5 ⟨t', h4⟩)
      have HSS := Lib.hid h4
      have HB2 := Lib.hid h2
      clear h1 h2 h3 h4 h5 hB x0
      go_wp2_with fail
      refine (zero512_any p cc X w1 HXL.out HB2.out).mono ?_
      rw [HZ.out]
      rintro e w2 ⟨rfl, rfl⟩
      cases Z with
      | false =>
        have hE := HE.out
        simp only [Bool.false_and, if_true] at hE
        subst hE
        go_wp2
        go_ret
        exact ⟨rfl, _, F.out⟩
      | true =>
        have x0 := F.out.c0
        go_wp2_with fail
        refine (rest_any w1 K.g (a + 512) t' K.S HSS.out).mono ?_
        rw [show restB (K.S.bs.drop (a + 512)) = Y from HY.out]
        rintro e w3 ⟨rfl, h6, h7⟩
        have F3 := Lib.hid (F.out.moved (h7.of_none _) ⟨t', h6⟩)
        clear h6 h7 x0
        cases Y with
        | false =>
          have hE := HE.out
          simp only [Bool.and_false, if_true] at hE
          subst hE
          go_wp2
          go_ret
          exact ⟨rfl, _, F3.out⟩
        | true =>
          have x2 := F3.out.c2
          have hE := HE.out
          rw [if_neg (by decide)] at hE
          have HE := Lib.hid hE
          clear hE
          obtain ⟨k, hrun, hk0⟩ := F3.out.map.count Tryz.underlying68 3
          have hk := Lib.hid hk0
          clear hk0
          by_cases h0 : k = 0
          · have hE := HE.out
            rw [if_neg ((wait_none _ _ _ _).1 (hk.out.1 h0))] at hE
            subst hE h0
            clear hk
            go_wp2
            go_ret
            exact ⟨rfl, _, F3.out⟩
          · have hE := HE.out
            rw [if_pos (Classical.byContradiction fun hn => h0 (hk.out.2 ((wait_none _ _ _ _).2 hn)))] at hE
            subst hE
            have hkp : (0 : Int) < (k : Int) := by omega
            clear hk
            go_wp2
            go_ret
            exact ⟨rfl, _, F3.out⟩
    · rw [if_pos (by omega)] at hE
      subst hE
      have hB := block_res w K.g a t K.S hs hr.off
      rw [show blkR K.S.bs a = (2, [], K.S.bs.length) by unfold blkR; rw [if_neg (by omega), if_neg (by omega)]] at hB
      clear hr hs hlen hle hLL h1 h2
      go_enter Tryz.func51, Tryz.ntmps51
      go_wp2_with fail
      refine hB.mono ?_
      rintro e w1 ⟨p, m, cc, t', rfl, h1, h2, h3, h4, h5⟩
      have F := Lib.hid (HR.out.moved h5 ⟨t', h4⟩)
      clear h1 h2 h3 h4 h5 hB x0
      go_wp2
      go_ret
      exact ⟨rfl, _, F.out⟩
end
end Go.Proofs.YtdjedimjhogdoaaGreatDoor.Mem
end
