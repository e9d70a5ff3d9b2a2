/- field.Parse by a contract: the library's two trims by theirs, the digits by number's. -/
import Derived.Test.YtdnelijkhinpcabDoorField
import Derived.Test.YtdnelijkhinpcabDoorTrim
namespace Go.Proofs.YtdnelijkhinpcabDoor.Field
open Go.ChangeShapes Go.WideShapes Go.ChangeAt Go.RowKit Go.Proofs.YtdnelijkhinpcabDoor.Base Go.Proofs.YtdnelijkhinpcabDoor.Num Go.Proofs.YtdnelijkhinpcabDoor.Fp Go.Proofs.YtdnelijkhinpcabDoor.Byt
set_option linter.unusedVariables false

theorem info256 : (Tryd.prog.info? (Tryd.lays7_ren.t 27)).map (fun i => (i.zero, i.size)) = some (some (.agg (Array.replicate 256 (.bool false))), 256) := by kernel_rfl
theorem trimLeft_any (p : Option Addr) (n c : Nat) (bs : List UInt8) (w : World) (hn : bs.length = n) (hc : n ≤ c) (hm : c ≤ maxLen) (h : BAt w p n bs) :
    Calls Tryd.prog 35 #[.slice p n c, .string ⟨#[32]⟩] w fun e w' => e = .returned (Lib.leftV p n c (n - (Lib.trimLeftS bs [32]).length)) ∧ Below w.heap.size w w' :=
  Any.bytes_TrimLeft_ascii Tryd.lays8 (zero_of_info info256).1 (zero_of_info info256).2 p n c bs ⟨#[32]⟩ w hn hc (by unfold maxLen at hm; omega) h (by decide) (fun j b hb => by
    match j, hb with
    | 0, hb => cases hb; decide
    | j + 1, hb => simp at hb)
theorem trimRight_any (p : Option Addr) (n c : Nat) (bs : List UInt8) (w : World) (hn : bs.length = n) (hc : n ≤ c) (hm : c ≤ maxLen) (h : BAt w p n bs) :
    Calls Tryd.prog 36 #[.slice p n c, .string ⟨#[32, 0]⟩] w fun e w' => e = .returned (.slice p (Lib.trimRightS bs [32, 0]).length c) ∧ Below w.heap.size w w' :=
  Any.bytes_TrimRight_ascii Tryd.lays7 (zero_of_info info256).1 (zero_of_info info256).2 p n c bs ⟨#[32, 0]⟩ w hn hc (by unfold maxLen at hm; omega) h (by decide) (fun j b hb => by
    match j, hb with
    | 0, hb => cases hb; decide
    | 1, hb => cases hb; decide
    | j + 2, hb => simp at hb)

theorem left_suffix (l cs : List UInt8) : (Lib.trimLeftS l cs).length ≤ l.length ∧ l.drop (l.length - (Lib.trimLeftS l cs).length) = Lib.trimLeftS l cs := by
  have h : Lib.trimLeftS l cs <:+ l := List.dropWhile_suffix _
  exact ⟨h.length_le, (List.suffix_iff_eq_drop.1 h).symm⟩
/-- what TrimLeft leaves, as bytes -/
theorem left_bat {w : World} {p : Option Addr} {n c : Nat} {bs : List UInt8} (h : BAt w p n bs) (hn : bs.length = n) (hc : n ≤ c) :
    ∃ p' c', Lib.leftV p n c (n - (Lib.trimLeftS bs [32]).length) = .slice p' (Lib.trimLeftS bs [32]).length c' ∧ (Lib.trimLeftS bs [32]).length ≤ c' ∧ c' ≤ c ∧ BAt w p' (Lib.trimLeftS bs [32]).length (Lib.trimLeftS bs [32]) := by
  obtain ⟨h1, h2⟩ := left_suffix bs [32]
  by_cases h0 : (Lib.trimLeftS bs [32]).length = 0
  · refine ⟨none, 0, ?_, by omega, by omega, fun hh => by omega⟩
    unfold Lib.leftV
    rw [h0]
    by_cases hn0 : n = 0
    · subst hn0; rfl
    · rw [if_pos (by omega)]
  · refine ⟨if c = n - (Lib.trimLeftS bs [32]).length then p else p.map (fun x => x.add (n - (Lib.trimLeftS bs [32]).length)), c - (n - (Lib.trimLeftS bs [32]).length), ?_, by omega, by omega, ?_⟩
    · unfold Lib.leftV Lib.fromV
      rw [if_neg (by omega), show n - (n - (Lib.trimLeftS bs [32]).length) = (Lib.trimLeftS bs [32]).length by omega]
    · have := h.drop (k := n - (Lib.trimLeftS bs [32]).length) (by omega) hc hn
      rw [show n - (n - (Lib.trimLeftS bs [32]).length) = (Lib.trimLeftS bs [32]).length by omega] at this
      rw [show bs.drop (n - (Lib.trimLeftS bs [32]).length) = Lib.trimLeftS bs [32] by rw [← hn]; exact h2] at this
      exact this

set_option maxHeartbeats 800000 in
theorem parse_any (p : Option Addr) (n c : Nat) (bs : List UInt8) (w : World) (hn : bs.length = n) (hc : n ≤ c) (hm : c ≤ maxLen) (h : BAt w p n bs) :
    Calls Tryd.prog 23 #[.slice p n c] w fun e w' => e = .returned (.tuple #[.int .i64 (valI (parseF bs)), .bool (okI (parseF bs))]) ∧ Below w.heap.size w w' := by
  have hm' := hm
  unfold maxLen at hm'
  by_cases h0 : n = 0
  · subst h0
    obtain rfl : bs = [] := List.eq_nil_of_length_eq_zero hn
    clear hn h
    go_enter Tryd.func23, Tryd.ntmps23
    go_wp2
    go_ret2
    exact ⟨rfl, Below.refl _ _⟩
  · obtain ⟨b, o, rfl, hbw, hcell⟩ := h.cell (k := 0) (by omega)
    have hx := hcell 0 (by omega)
    obtain ⟨x, l, rfl⟩ : ∃ x l, bs = x :: l := by cases bs with
      | nil => simp at hn; omega
      | cons x l => exact ⟨x, l, rfl⟩
    have hx : w.cell? ⟨b, o, none⟩ = some (.int .u8 x.toNat) := hx
    have HN := Lib.hid hn
    have H := Lib.hid h
    clear hn h hcell
    have hn0 : ((n : Int) == 0) = false := by simp; omega
    obtain ⟨y, hy⟩ : ∃ y : Int, y = (x.toNat : Int) := ⟨_, rfl⟩
    rw [← hy] at hx
    have HY := Lib.hid hy
    clear hy
    by_cases h128 : y = 128
    · have hb128 : (y == 128) = true := by simpa using h128
      have hl : l.length = n - 1 := by have := HN.out; simp at this; omega
      have E : Hid (parseF (x :: l) = digF 256 0 l 0) := Lib.hid (by rw [parseF, if_pos (by rw [← HY.out]; exact h128)])
      have T : Hid (BAt w (if c = 1 then some ⟨b, o, none⟩ else some ⟨b, o + 1, none⟩) (n - 1) l) := Lib.hid (fun hh => by
        obtain ⟨b', o', e, hc'⟩ := H.out (by omega)
        cases e
        rw [if_neg (by omega)]
        refine ⟨b, o + 1, rfl, fun i hi => ?_⟩
        rw [Nat.add_assoc, hc' (1 + i) (by omega), Nat.add_comm 1 i]
        rfl)
      have HL := Lib.hid hl
      have H128 := Lib.hid h128
      clear hl h128
      by_cases hc1 : c = 1
      · have T' := T.out
        rw [if_pos hc1] at T'
        have HT := Lib.hid T'
        clear T'
        go_enter Tryd.func23, Tryd.ntmps23
        go_wp2_with fail
        refine (number_any 256 0 _ (n - 1) _ l w (by omega) (by omega) (by omega) (by omega) HL.out (by unfold maxLen; omega) HT.out).mono ?_
        rintro e w' ⟨rfl, hb⟩
        go_wp2
        go_ret2
        rw [E.out]
        exact ⟨rfl, hb⟩
      · have T' := T.out
        rw [if_neg hc1] at T'
        have HT := Lib.hid T'
        clear T'
        go_enter Tryd.func23, Tryd.ntmps23
        go_wp2_with fail
        refine (number_any 256 0 _ (n - 1) _ l w (by omega) (by omega) (by omega) (by omega) HL.out (by unfold maxLen; omega) HT.out).mono ?_
        rintro e w' ⟨rfl, hb⟩
        go_wp2
        go_ret2
        rw [E.out]
        exact ⟨rfl, hb⟩
    · have hb128 : (y == 128) = false := by simpa using h128
      have E : Hid (parseF (x :: l) = digF 8 48 (Lib.trimRightS (Lib.trimLeftS (x :: l) [32]) [32, 0]) 0) := Lib.hid (by rw [parseF, if_neg (by rw [← HY.out]; exact h128)])
      obtain ⟨p', c', hv, hcl, hcc, hbat⟩ := left_bat H.out HN.out hc
      have HV := Lib.hid hv
      have HB := Lib.hid hbat
      clear hv hbat
      have hll : (Lib.trimLeftS (x :: l) [32]).length ≤ n := by have := (left_suffix (x :: l) [32]).1; rw [HN.out] at this; exact this
      obtain ⟨k, hk⟩ : ∃ k, k = (Lib.trimLeftS (x :: l) [32]).length := ⟨_, rfl⟩
      obtain ⟨m, hm2⟩ : ∃ m, m = (Lib.trimRightS (Lib.trimLeftS (x :: l) [32]) [32, 0]).length := ⟨_, rfl⟩
      have hmk : m ≤ k := by
        rw [hm2, hk]; exact Lib.trimRightS_len_le _ _
      have HK := Lib.hid hk
      have HM := Lib.hid hm2
      rw [← hk] at hll hcl
      clear hk hm2
      go_enter Tryd.func23, Tryd.ntmps23
      go_wp2_with fail
      refine (trimLeft_any _ n c (x :: l) w HN.out hc hm H.out).mono ?_
      rintro e w1 ⟨rfl, hb1⟩
      rw [HV.out, ← HK.out]
      go_wp2_with fail
      refine (trimRight_any p' k c' _ w1 HK.out.symm hcl (by omega) ((show BAt w p' k _ by rw [HK.out]; exact HB.out).below hb1)).mono ?_
      rintro e w2 ⟨rfl, hb2⟩
      rw [← HM.out]
      go_wp2_with fail
      refine (number_any 8 48 p' m c' (Lib.trimRightS (Lib.trimLeftS (x :: l) [32]) [32, 0]) w2 (by omega) (by omega) (by omega) (by omega) HM.out.symm (by unfold maxLen; omega)
        (by
          have h1 := ((show BAt w p' k _ by rw [HK.out]; exact HB.out).take hmk).below (hb1.trans (hb2.mono hb1.size))
          have h2 := Lib.trimRightS_eq_take (Lib.trimLeftS (x :: l) [32]) [32, 0]
          rw [← HM.out] at h2
          rw [h2]
          exact h1)).mono ?_
      rintro e w3 ⟨rfl, hb3⟩
      go_wp2
      go_ret2
      rw [E.out]
      exact ⟨rfl, (hb1.trans (hb2.mono hb1.size)).trans (hb3.mono (Nat.le_trans hb1.size hb2.size))⟩
end Go.Proofs.YtdnelijkhinpcabDoor.Field
