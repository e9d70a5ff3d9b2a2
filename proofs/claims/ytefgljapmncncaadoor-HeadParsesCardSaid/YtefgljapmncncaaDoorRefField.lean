/- The document's own answers for fields: Octal and Field. -/
import Derived.Test.YtefgljapmncncaaDoorField
namespace Go.Proofs.YtefgljapmncncaaDoor.Field
open Go.ChangeShapes Go.WideShapes Go.ChangeAt Go.RowKit Go.Proofs.YtefgljapmncncaaDoor.Base Go.Proofs.YtefgljapmncncaaDoor.Num Go.Proofs.YtefgljapmncncaaDoor.Fp Go.Proofs.YtefgljapmncncaaDoor.Byt
set_option linter.unusedVariables false
set_option maxRecDepth 100000

theorem str_at (s : ByteArray) (k : Nat) (h : k < s.size) : s.data.toList.getD k 0 = s[k] := by
  rw [List.getD, List.getElem?_eq_getElem (show k < s.data.toList.length by simpa using h)]
  rfl
set_option maxHeartbeats 800000 in
theorem octal_any (s : ByteArray) (w : World) (hm : s.size ≤ maxLen) :
    Calls Tryd.prog 42 #[.string s] w fun e w' => e = .returned (.tuple #[.int .i64 (refO 8 48 576460752303423488 s.data.toList 0).1, .bool (refO 8 48 576460752303423488 s.data.toList 0).2]) ∧ w = w' := by
  unfold maxLen at hm
  go_enter Tryd.func42, Tryd.ntmps42
  go_wp2
  go_loop [4, 5] (fun s0 i => ∃ (k : Nat) (m : Int), k ≤ s.size ∧ 0 ≤ m ∧ m ≤ 4611686018427387911 ∧ i = .int .i64 k ∧ s0 = .int .i64 m ∧ Hid (refO 8 48 576460752303423488 (s.data.toList.drop k) m = refO 8 48 576460752303423488 s.data.toList 0)) (fun _ i => s.size - (intOf i).toNat)
  case atStart => exact ⟨0, 0, Nat.zero_le _, by omega, by decide, rfl, rfl, Lib.hid rfl⟩
  case round =>
    obtain ⟨k, m, hk, hm0, hm1, rfl, rfl, hr⟩ := hrel
    by_cases hlt : k < s.size
    · have hlen : k < s.data.toList.length := by simpa using hlt
      have hg := str_at s k hlt
      have HG := Lib.hid hg
      have HL := Lib.hid hlen
      clear hg hlen
      have hxb := u8_bd s[k]
      obtain ⟨hx0, hx1⟩ := hxb
      go_wp2
      case roundEnd =>
        go_round
        case rel => exact ⟨k + 1, m * 8 + ((s[k].toNat : Int) - 48), by omega, by omega, by omega, by go_num, rfl, Lib.hid (by
          rw [← hr.out, refO_step 8 48 576460752303423488 s.data.toList k m HL.out (by rw [HG.out]; omega), HG.out]; rfl)⟩
        case measure => simp [intOf]; omega
      all_goals
        go_ret2
        have E : refO 8 48 576460752303423488 s.data.toList 0 = (0, false) := by
          rw [← hr.out]; exact refO_stop 8 48 576460752303423488 s.data.toList k m HL.out (by rw [HG.out]; omega)
        rw [E]
        exact ⟨rfl, rfl⟩
    · have hkl : Hid (k = s.size) := Lib.hid (by omega)
      go_wp2
      go_ret2
      have E : refO 8 48 576460752303423488 s.data.toList 0 = (m, decide (m ≤ 4611686018427387904)) := by
        rw [← hr.out, hkl.out, List.drop_eq_nil_of_le (by simp)]; rfl
      rw [E]
      exact ⟨rfl, rfl⟩

/-- what the document's own Field answers -/
def refParse : List UInt8 → Int × Bool
  | [] => (0, false)
  | c :: l => if (c.toNat : Int) = 128 then refO 256 0 18014398509481984 l 0 else refO 8 48 576460752303423488 (Lib.trimRightS (Lib.trimLeftS (c :: l) [32]) [32, 0]) 0
theorem refParse_is (bs : List UInt8) : (refParse bs).2 = okI (parseF bs) ∧ (okI (parseF bs) = true → (refParse bs).1 = valI (parseF bs)) := by
  cases bs with
  | nil => exact ⟨rfl, fun h => by simp [parseF, okI] at h⟩
  | cons c l =>
    rw [refParse, parseF]
    split
    · exact refO_dig256 l 0 (by omega) (by omega)
    · exact refO_dig8 _ 0 (by omega) (by omega)

set_option maxHeartbeats 1000000 in
theorem rfield_any (p : Option Addr) (n c : Nat) (bs : List UInt8) (w : World) (hn : bs.length = n) (hc : n ≤ c) (hm : c ≤ maxLen) (h : BAt w p n bs) :
    Calls Tryd.prog 26 #[.slice p n c] w fun e w' => e = .returned (.tuple #[.int .i64 (refParse bs).1, .bool (refParse bs).2]) ∧ w = w' := by
  have hm' := hm
  unfold maxLen at hm'
  by_cases h0 : n = 0
  · subst h0
    obtain rfl : bs = [] := List.eq_nil_of_length_eq_zero hn
    clear hn h
    go_enter Tryd.func26, Tryd.ntmps26
    go_wp2
    go_ret2
    exact ⟨rfl, rfl⟩
  · obtain ⟨b, o, rfl, hbw, hcell⟩ := h.cell (k := 0) (by omega)
    have hx := hcell 0 (by omega)
    obtain ⟨x, l, rfl⟩ : ∃ x l, bs = x :: l := by cases bs with
      | nil => simp at hn; omega
      | cons x l => exact ⟨x, l, rfl⟩
    have hx : w.cell? ⟨b, o, none⟩ = some (.int .u8 x.toNat) := hx
    have HN := Lib.hid hn
    have H := Lib.hid h
    have HC := Lib.hid hcell
    clear hn h hcell
    have hn0 : ((n : Int) == 0) = false := by simp; omega
    obtain ⟨y, hy⟩ : ∃ y : Int, y = (x.toNat : Int) := ⟨_, rfl⟩
    rw [← hy] at hx
    have HY := Lib.hid hy
    clear hy
    by_cases h128 : y = 128
    · have hb128 : (y == 128) = true := by simpa using h128
      have E : Hid (refParse (x :: l) = refO 256 0 18014398509481984 l 0) := Lib.hid (by rw [refParse, if_pos (by rw [← HY.out]; exact h128)])
      clear h128
      go_enter Tryd.func26, Tryd.ntmps26
      go_wp2
      go_loop [4, 5] (fun s0 i => ∃ (k : Nat) (m : Int), 1 ≤ k ∧ k ≤ n ∧ 0 ≤ m ∧ m ≤ 4611686018427388159 ∧ i = .int .i64 k ∧ s0 = .int .i64 m ∧ Hid (refO 256 0 18014398509481984 ((x :: l).drop k) m = refO 256 0 18014398509481984 l 0)) (fun _ i => n - (intOf i).toNat)
      case atStart => exact ⟨1, 0, by omega, by omega, by omega, by decide, rfl, rfl, Lib.hid rfl⟩
      case round =>
        obtain ⟨k, m, hk1, hk, hm0, hm1, rfl, rfl, hr⟩ := hrel
        by_cases hlt : k < n
        · have hcz := HC.out k hlt
          have hzb := u8_bd ((x :: l).getD k 0)
          obtain ⟨z, hz⟩ : ∃ z : Int, z = (((x :: l).getD k 0).toNat : Int) := ⟨_, rfl⟩
          rw [← hz] at hcz hzb
          have HZ := Lib.hid hz
          clear hz
          obtain ⟨hz0, hz1⟩ := hzb
          go_wp2
          case roundEnd =>
            go_round
            case rel => exact ⟨k + 1, m * 256 + z, by omega, by omega, by omega, by omega, by go_num, rfl, Lib.hid (by
              rw [← hr.out, refO_step 256 0 18014398509481984 (x :: l) k m (by rw [HN.out]; exact hlt) (by rw [← HZ.out]; omega), ← HZ.out, Int.sub_zero])⟩
            case measure => simp [intOf]; omega
          go_ret2
          have E2 : refO 256 0 18014398509481984 l 0 = (0, false) := by
            rw [← hr.out]; exact refO_stop 256 0 18014398509481984 (x :: l) k m (by rw [HN.out]; exact hlt) (by rw [← HZ.out]; omega)
          rw [E.out, E2]
          exact ⟨rfl, rfl⟩
        · have hkl : Hid (k = n) := Lib.hid (by omega)
          go_wp2
          go_ret2
          have E2 : refO 256 0 18014398509481984 l 0 = (m, decide (m ≤ 4611686018427387904)) := by
            rw [← hr.out, hkl.out, ← HN.out, List.drop_length]; rfl
          rw [E.out, E2]
          exact ⟨rfl, rfl⟩
    · have hb128 : (y == 128) = false := by simpa using h128
      have E : Hid (refParse (x :: l) = refO 8 48 576460752303423488 (Lib.trimRightS (Lib.trimLeftS (x :: l) [32]) [32, 0]) 0) := Lib.hid (by rw [refParse, if_neg (by rw [← HY.out]; exact h128)])
      clear h128
      go_enter Tryd.func26, Tryd.ntmps26
      go_wp2
      go_loop [6] (fun i => ∃ (k : Nat), k ≤ n ∧ i = .int .i64 k ∧ Hid (∀ q, q < k → (x :: l).getD q 0 = 32)) (fun i => n - (intOf i).toNat)
      case atStart => exact ⟨0, by omega, rfl, Lib.hid (fun q hq => by omega)⟩
      case round =>
        obtain ⟨k, hk, rfl, hr⟩ := hrel
        obtain ⟨z, hz⟩ : ∃ z : Int, z = (((x :: l).getD k 0).toNat : Int) := ⟨_, rfl⟩
        have hcz : k < n → w.cell? ⟨b, o + k, none⟩ = some (.int .u8 z) := fun hlt => by rw [HC.out k hlt, hz]
        have HZ := Lib.hid hz
        clear hz
        go_wp2
        case roundEnd =>
          have hz32 : (z == 32) = true := by assumption
          rw [beq_iff_eq] at hz32
          have hlt : k < n := by assumption
          go_round
          case rel => exact ⟨k + 1, by omega, by go_num, Lib.hid (fun q hq => by
            rcases Nat.lt_succ_iff_lt_or_eq.1 hq with h | rfl
            · exact hr.out q h
            · apply UInt8.toNat_inj.1
              have := HZ.out
              show _ = 32
              omega)⟩
          case measure => simp [intOf]; omega
        all_goals
          have HS : Hid (k < n → (x :: l).getD k 0 ≠ 32) := Lib.hid (fun hlt' h32 => by
            have hzz := HZ.out
            rw [h32] at hzz
            have hz32 : z = 32 := hzz
            first | omega | (have hf := ‹(z == 32) = false›; rw [hz32] at hf; exact absurd hf (by decide)))
          clear hcz
          go_loop [7] (fun i => ∃ (j : Nat), k ≤ j ∧ j ≤ n ∧ i = .int .i64 j ∧ Hid (∀ q, j ≤ q → q < n → (x :: l).getD q 0 = 32 ∨ (x :: l).getD q 0 = 0)) (fun i => (intOf i).toNat)
          case atStart => exact ⟨n, by omega, by omega, rfl, Lib.hid (fun q hq hq2 => by omega)⟩
          case round =>
            obtain ⟨j, hkj, hjn, rfl, hr3⟩ := hrel
            obtain ⟨t, ht⟩ : ∃ t : Int, t = (((x :: l).getD (j - 1) 0).toNat : Int) := ⟨_, rfl⟩
            have hct : k < j → w.cell? ⟨b, o + (j - 1), none⟩ = some (.int .u8 t) := fun hlt => by rw [HC.out (j - 1) (by omega), ht]
            have HT := Lib.hid ht
            clear ht
            obtain ⟨str, hstr⟩ : ∃ str : ByteArray, str = ⟨(((x :: l).drop k).take (j - k)).toArray⟩ := ⟨_, rfl⟩
            have hsl : (((x :: l).drop k).take (j - k)).length = j - k := by rw [List.length_take, List.length_drop, HN.out]; omega
            have cv1 : (convert 22 9 (.slice (some ⟨b, o + k, none⟩) (j - k) (c - k))).run Tryd.prog w = .ok (.string str) w := by
              rw [hstr]
              refine conv_at (fun hh => ⟨b, o + k, rfl, fun i hi => ?_⟩) hsl _ _ _ Tryd.underlying22 Tryd.underlying5 Tryd.underlying9 _
              rw [Nat.add_assoc, HC.out (k + i) (by omega)]
              simp [List.getD, hi]
            have cv2 : c = k → (convert 22 9 (.slice (some ⟨b, o, none⟩) (j - k) 0)).run Tryd.prog w = .ok (.string str) w := fun hck => by
              rw [hstr]
              exact conv_at (fun hh => by omega) hsl _ _ _ Tryd.underlying22 Tryd.underlying5 Tryd.underlying9 _
            have hsz : str.size ≤ maxLen := by
              have e : str.size = j - k := by rw [hstr]; exact hsl
              rw [e]; unfold maxLen; omega
            have HST := Lib.hid hstr
            clear hstr hsl
            go_wp2_with (go_at_call 42; refine (octal_any _ _ hsz).mono ?_; rintro e w' ⟨rfl, rfl⟩)
            all_goals first
              | (go_round
                 case rel =>
                   have ht2 : t = 32 ∨ t = 0 := by
                     first
                       | exact Or.inl ‹t = 32›
                       | (rcases ‹(t == 32) = true ∨ (t == 0) = true› with h | h
                          · exact Or.inl (by simpa using h)
                          · exact Or.inr (by simpa using h))
                   have hkj' : k < j := by assumption
                   refine ⟨j - 1, by omega, by omega, by go_num, Lib.hid (fun q hq hq2 => ?_)⟩
                   by_cases hqj : q = j - 1
                   · subst hqj
                     have := HT.out
                     rcases ht2 with h | h
                     · exact Or.inl (UInt8.toNat_inj.1 (by show _ = 32; omega))
                     · exact Or.inr (UInt8.toNat_inj.1 (by show _ = 0; omega))
                   · exact hr3.out q (by omega) hq2
                 case measure => simp [intOf]; omega)
              | (go_ret2
                 have hst : k < j → (x :: l).getD (j - 1) 0 ≠ 32 ∧ (x :: l).getD (j - 1) 0 ≠ 0 := fun hlt' => by
                   have hf : ¬ t = 32 ∧ ¬ t = 0 := by
                     first
                       | (exfalso; omega)
                       | (have hh := ‹(t == 32) = false ∧ (t == 0) = false›; simpa using hh)
                   have := HT.out
                   constructor <;> intro h <;> rw [h] at this
                   · exact hf.1 this
                   · exact hf.2 this
                 have E3 : Lib.trimRightS (Lib.trimLeftS (x :: l) [32]) [32, 0] = str.data.toList := by
                   rw [HST.out]
                   exact trim_between (x :: l) k j hkj (by rw [HN.out]; exact hjn) hr.out (fun hlt' => ⟨HS.out (by omega), hst hlt'⟩) (fun q hq hq2 => hr3.out q hq (by rw [← HN.out]; exact hq2)) (fun hlt' => HS.out (by rw [← HN.out]; exact hlt'))
                 rw [E.out, E3]
                 exact ⟨rfl, rfl⟩)
end Go.Proofs.YtefgljapmncncaaDoor.Field
