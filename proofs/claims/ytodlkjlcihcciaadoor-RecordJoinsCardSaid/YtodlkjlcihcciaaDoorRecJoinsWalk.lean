/- The law RecordJoins, walked. Written by wip/tools/genjoins.py. -/
import Derived.Test.YtodlkjlcihcciaaDoorRecCutWalk
import Derived.Test.YtodlkjlcihcciaaDoorRecApp
import Derived.BigQuiet
namespace Go.Proofs.YtodlkjlcihcciaaDoor.Walk
open Go.ChangeShapes Go.WideShapes Go.ChangeAt Go.RowKit Go.Proofs.YtodlkjlcihcciaaDoor.Base Go.Proofs.YtodlkjlcihcciaaDoor.Byt Go.Proofs.YtodlkjlcihcciaaDoor.Txt Go.Proofs.YtodlkjlcihcciaaDoor.Path Go.Proofs.YtodlkjlcihcciaaDoor.Rec Go.Lib
set_option linter.unusedVariables false
set_option maxRecDepth 100000

/-- how many bytes the keys and values of records have together -/
def sumR (rs : List (List UInt8 × List UInt8)) : Nat := (rs.map fun r => r.1.length + r.2.length).sum
theorem sumR_snoc (rs : List (List UInt8 × List UInt8)) (j : Nat) (h : j < rs.length) : sumR (rs.take (j + 1)) = sumR (rs.take j) + ((rs.getD j ([], [])).1.length + (rs.getD j ([], [])).2.length) := by
  rw [List.take_add_one, List.getElem?_eq_getElem h, List.getD, List.getElem?_eq_getElem h]
  simp only [sumR, Option.toList, List.map_append, List.map_cons, List.map_nil, List.sum_append, List.sum_cons, List.sum_nil, Option.getD_some, Nat.add_zero]
theorem sumR_mem (rs : List (List UInt8 × List UInt8)) : ∀ r ∈ rs, r.1.length + r.2.length ≤ sumR rs := by
  induction rs with
  | nil => intro r h; cases h
  | cons x rs ih =>
    intro r h
    have e : sumR (x :: rs) = x.1.length + x.2.length + sumR rs := by simp [sumR]
    rw [e]
    rcases List.mem_cons.1 h with rfl | h
    · omega
    · have := ih r h
      omega
theorem linesD_app (a b : List (List UInt8 × List UInt8)) : linesD (a ++ b) = linesD a ++ linesD b := by simp [linesD]
theorem not_all {rs : List (List UInt8 × List UInt8)} (h : ¬ ∀ r ∈ rs, mayD r.1 r.2 = true) : ∃ r ∈ rs, mayD r.1 r.2 = false :=
  Classical.byContradiction fun hc => h fun r hr => by
    cases hm : mayD r.1 r.2 with
    | true => rfl
    | false => exact absurd ⟨r, hr, hm⟩ hc
theorem recPut_yes (p : Option Addr) (n c : Nat) (rs : List (List UInt8 × List UInt8)) (w : World) (hm : n ≤ 1000000000) (h : RecsAt w p n rs) (hsz : ∀ r ∈ rs, r.1.length + r.2.length ≤ 1000000000000) (hN : Need w) (hall : ∀ r ∈ rs, mayD r.1 r.2 = true) :
    Calls Tryd.prog 16 #[.slice p n c] w fun e w' => ∃ q d, e = .returned (.tuple #[.slice q (linesD rs).length d, .bool true]) ∧ (linesD rs).length ≤ d ∧ BAt w' q (linesD rs).length (linesD rs) ∧ Below w.heap.size w w' := by
  refine (recPut_any p n c rs w hm h hsz hN).mono ?_
  rintro e w' ⟨h1, _, hb⟩
  obtain ⟨q, d, he, h2, _, h3⟩ := h1 hall
  exact ⟨q, d, he, h2, h3, hb⟩
theorem recPut_no (p : Option Addr) (n c : Nat) (rs : List (List UInt8 × List UInt8)) (w : World) (hm : n ≤ 1000000000) (h : RecsAt w p n rs) (hsz : ∀ r ∈ rs, r.1.length + r.2.length ≤ 1000000000000) (hN : Need w) (hno : ∃ r ∈ rs, mayD r.1 r.2 = false) :
    Calls Tryd.prog 16 #[.slice p n c] w fun e w' => e = .returned (.tuple #[.slice none 0 0, .bool false]) ∧ Below w.heap.size w w' := by
  refine (recPut_any p n c rs w hm h hsz hN).mono ?_
  rintro e w' ⟨_, h1, hb⟩
  exact ⟨h1 hno, hb⟩
theorem recPut_some (p : Option Addr) (n c : Nat) (rs : List (List UInt8 × List UInt8)) (w : World) (hm : n ≤ 1000000000) (h : RecsAt w p n rs) (hsz : ∀ r ∈ rs, r.1.length + r.2.length ≤ 1000000000000) (hN : Need w) :
    Calls Tryd.prog 16 #[.slice p n c] w fun e w' => ∃ q m d ok, e = .returned (.tuple #[.slice q m d, .bool ok]) ∧ Below w.heap.size w w' := by
  refine (recPut_any p n c rs w hm h hsz hN).mono ?_
  rintro e w' ⟨h1, h2, hb⟩
  by_cases hall : ∀ r ∈ rs, mayD r.1 r.2 = true
  · obtain ⟨q, d, he, _⟩ := h1 hall
    exact ⟨_, _, _, _, he, hb⟩
  · exact ⟨_, _, _, _, h2 (not_all hall), hb⟩
set_option maxHeartbeats 40000000 in
theorem recordJoins (a : Option Addr) (len cap : Nat) (rs : List (List UInt8 × List UInt8)) (a1 : Option Addr) (len1 cap1 : Nat) (ss : List (List UInt8 × List UInt8)) (w : World)
    (ra : RecsAt w a len rs) (lc : len ≤ cap) (cm : cap ≤ maxLen) (sz : ∀ r ∈ rs, r.1.length ≤ 140737488351232 ∧ r.2.length ≤ 140737488351232) (b0 : cap * 32 ≤ 140737488351232)
    (ra1 : RecsAt w a1 len1 ss) (lc1 : len1 ≤ cap1) (cm1 : cap1 ≤ maxLen) (sz1 : ∀ r ∈ ss, r.1.length ≤ 140737488351232 ∧ r.2.length ≤ 140737488351232) (b1 : cap1 * 32 ≤ 140737488351232) (hT : Need w) :
    Calls Tryd.prog 8 #[.slice a len cap, .slice a1 len1 cap1] w fun e w' => e = .returned (.bool true) ∧ Below w.heap.size w w' := by
  have HRA := Lib.hid ra
  have HRL := Lib.hid ra.1
  have HSZ := Lib.hid sz
  have HRB := Lib.hid ra1
  have HRM := Lib.hid ra1.1
  have HSY := Lib.hid sz1
  have HT := Lib.hid hT
  have hm' : (len : Int) ≤ 140737488351232 := by omega
  have hm1' : (len1 : Int) ≤ 140737488351232 := by omega
  obtain ⟨i0, hi, hz0, hz1, hz2⟩ := info_parts infoRec
  have HI := Lib.hid hi
  have HZ0 := Lib.hid hz0
  have HZ1 := Lib.hid hz1
  have HZ2 := Lib.hid hz2
  obtain ⟨i8, oi, oz0, oz1, oz2⟩ := info_parts infoOctR
  have OI := Lib.hid oi
  have OZ0 := Lib.hid oz0
  have OZ1 := Lib.hid oz1
  have OZ2 := Lib.hid oz2
  have HANS : Hid (∀ w', Below w.heap.size w w' → Calls Tryd.prog 9 #[] w' fun e w'' => e = .returned (.bool true) ∧ Below w'.heap.size w' w'') := Lib.hid (fun w' h => ans06_any w' (HT.out.below h))
  have mixed : Tryd.prog.follows .mixedOrders = true := by kernel_rfl
  clear ra sz hT lc cm b0 hi hz0 hz1 hz2 ra1 sz1 lc1 cm1 b1 oi oz0 oz1 oz2
  go_enter Tryd.func8, Tryd.ntmps8
  go_wp2_with fail
  go_loopw [5, 6] (fun s i wr => ∃ (j K : Nat), j ≤ len ∧ j ≤ 31 ∧ i = .int .i64 (j : Int) ∧ s = .int .i64 (K : Int) ∧ K ≤ 0 + 300000000000000 * j ∧ Hid (K = sumR (rs.take j)) ∧ Hid (Below w.heap.size w wr)) (fun _ i _ => 31 - (RowKit.intOf i).toNat)
  case atStart => exact ⟨0, 0, Nat.zero_le _, by omega, rfl, rfl, by omega, Lib.hid (by simp [sumR]), Lib.hid (Below.refl _ _)⟩
  case round =>
    obtain ⟨j, K, hj, hj31, rfl, rfl, hK, hsum, hB0⟩ := hrel
    by_cases hlt : j < len ∧ j < 31
    · obtain ⟨hlt, hlt31⟩ := hlt
      have hltz : (j : Int) < (len : Int) := by omega
      have hltz31 : (j : Int) < 31 := by omega
      obtain ⟨b, o, rfl, hbw, hcs⟩ := (HRA.out.below hB0.out).2 (by omega)
      obtain ⟨x0, x1⟩ := hcs j hlt
      obtain ⟨u, hu⟩ : ∃ u, rs.getD j ([], []) = u := ⟨_, rfl⟩
      rw [hu, Nat.mul_comm] at x0 x1
      have HU := Lib.hid hu
      have HUM : Hid (u.1.length ≤ 140737488351232 ∧ u.2.length ≤ 140737488351232) := Lib.hid (HSZ.out u (by rw [← hu]; exact getD_mem rs j (by rw [HRL.out]; exact hlt)))
      obtain ⟨n1, hn1⟩ : ∃ n, (str u.1).size = n := ⟨_, rfl⟩
      obtain ⟨n2, hn2⟩ : ∃ n, (str u.2).size = n := ⟨_, rfl⟩
      have HM1 : Hid (u.1.length = n1) := Lib.hid (by rw [← hn1, str_size])
      have HM2 : Hid (u.2.length = n2) := Lib.hid (by rw [← hn2, str_size])
      have hb1 : (n1 : Int) ≤ 140737488351232 := by have := HUM.out.1; rw [HM1.out] at this; omega
      have hb2 : (n2 : Int) ≤ 140737488351232 := by have := HUM.out.2; rw [HM2.out] at this; omega
      have q1 : IntKind.i64.wrap ((K : Int) + (n1 : Int)) = (K : Int) + (n1 : Int) := by rw [IntKind.wrap_i64]; omega
      have q2 : IntKind.i64.wrap ((K : Int) + (n1 : Int) + (n2 : Int)) = (K : Int) + (n1 : Int) + (n2 : Int) := by rw [IntKind.wrap_i64]; omega
      have HK2 : Hid (K + n1 + n2 ≤ 0 + 300000000000000 * (j + 1)) := Lib.hid (by omega)
      have HSU : Hid (K + n1 + n2 = sumR (rs.take (j + 1))) := Lib.hid (by rw [sumR_snoc rs j (by rw [HRL.out]; exact hlt), HU.out, HM1.out, HM2.out, hsum.out]; omega)
      have HJ1 := Lib.hid (And.intro hlt hlt31)
      clear hu hcs hbw hK hj hj31
      go_wp2_with fail
      go_quiet (fail)
      have HBD := Lib.hid (below_drewN hB0.out nq)
      go_wp2
      go_roundw
      case rel => exact ⟨j + 1, K + n1 + n2, by have := HJ1.out; omega, by have := HJ1.out; omega, by go_num, by first | rfl | (congr 1; omega) | (simp; omega), HK2.out, HSU, HBD⟩
      case measure => have := HJ1.out; simp [RowKit.intOf]; omega
    · have hKb : (K : Int) ≤ 0 + 9300000000000000 := by omega
      have HS0 := hsum
      by_cases hlt2 : j < len
      · have hltz : (j : Int) < (len : Int) := by omega
        have hltz31 : ¬ ((j : Int) < 31) := by omega
        have HL31 : Hid (30 < len) := Lib.hid (by omega)
        clear hlt hlt2 hj hj31 hK hsum
        have HL30 := HL31
        go_wp2_with fail
        go_loopw [5, 7] (fun s i wr => ∃ (k L : Nat), k ≤ len1 ∧ k ≤ 31 ∧ i = .int .i64 (k : Int) ∧ s = .int .i64 (L : Int) ∧ L ≤ 9300000000000000 + 300000000000000 * k ∧ Hid (L = K + sumR (ss.take k)) ∧ Hid (Below w.heap.size w wr)) (fun _ i _ => 31 - (RowKit.intOf i).toNat)
        case atStart => exact ⟨0, K, Nat.zero_le _, by omega, rfl, rfl, by omega, Lib.hid (by simp [sumR]), hB0⟩
        case round =>
          obtain ⟨k, L, hj, hj31, rfl, rfl, hK, hsum, hB⟩ := hrel
          by_cases hlt : k < len1 ∧ k < 31
          · obtain ⟨hlt, hlt31⟩ := hlt
            have hltz : (k : Int) < (len1 : Int) := by omega
            have hltz31 : (k : Int) < 31 := by omega
            obtain ⟨b, o, rfl, hbw, hcs⟩ := (HRB.out.below hB.out).2 (by omega)
            obtain ⟨x0, x1⟩ := hcs k hlt
            obtain ⟨u, hu⟩ : ∃ u, ss.getD k ([], []) = u := ⟨_, rfl⟩
            rw [hu, Nat.mul_comm] at x0 x1
            have HU := Lib.hid hu
            have HUM : Hid (u.1.length ≤ 140737488351232 ∧ u.2.length ≤ 140737488351232) := Lib.hid (HSY.out u (by rw [← hu]; exact getD_mem ss k (by rw [HRM.out]; exact hlt)))
            obtain ⟨n1, hn1⟩ : ∃ n, (str u.1).size = n := ⟨_, rfl⟩
            obtain ⟨n2, hn2⟩ : ∃ n, (str u.2).size = n := ⟨_, rfl⟩
            have HM1 : Hid (u.1.length = n1) := Lib.hid (by rw [← hn1, str_size])
            have HM2 : Hid (u.2.length = n2) := Lib.hid (by rw [← hn2, str_size])
            have hb1 : (n1 : Int) ≤ 140737488351232 := by have := HUM.out.1; rw [HM1.out] at this; omega
            have hb2 : (n2 : Int) ≤ 140737488351232 := by have := HUM.out.2; rw [HM2.out] at this; omega
            have q1 : IntKind.i64.wrap ((L : Int) + (n1 : Int)) = (L : Int) + (n1 : Int) := by rw [IntKind.wrap_i64]; omega
            have q2 : IntKind.i64.wrap ((L : Int) + (n1 : Int) + (n2 : Int)) = (L : Int) + (n1 : Int) + (n2 : Int) := by rw [IntKind.wrap_i64]; omega
            have HK2 : Hid (L + n1 + n2 ≤ 9300000000000000 + 300000000000000 * (k + 1)) := Lib.hid (by omega)
            have HSU : Hid (L + n1 + n2 = K + sumR (ss.take (k + 1))) := Lib.hid (by rw [sumR_snoc ss k (by rw [HRM.out]; exact hlt), HU.out, HM1.out, HM2.out, hsum.out]; omega)
            have HJ1 := Lib.hid (And.intro hlt hlt31)
            clear hu hcs hbw hK hj hj31
            go_wp2_with fail
            go_quiet (fail)
            have HBD := Lib.hid (below_drewN hB.out nq)
            go_wp2
            go_roundw
            case rel => exact ⟨k + 1, L + n1 + n2, by have := HJ1.out; omega, by have := HJ1.out; omega, by go_num, by first | rfl | (congr 1; omega) | (simp; omega), HK2.out, HSU, HBD⟩
            case measure => have := HJ1.out; simp [RowKit.intOf]; omega
          · have hLb : (L : Int) ≤ 9300000000000000 + 9300000000000000 := by omega
            have HS1 := hsum
            by_cases hlt2 : k < len1
            · have hltz : (k : Int) < (len1 : Int) := by omega
              have hltz31 : ¬ ((k : Int) < 31) := by omega
              have HL31 : Hid (30 < len1) := Lib.hid (by omega)
              clear hlt hlt2 hj hj31 hK hsum
              have hgt : (30 : Int) < (len : Int) + (len1 : Int) := by have := HL30.out; omega
              go_wp2_with fail
              refine (HANS.out _ hB.out).mono ?_
              rintro e w3 ⟨rfl, hb3⟩
              have HB3 := Lib.hid (hB.out.trans (hb3.mono hB.out.size))
              clear hb3
              go_wp2
              go_ret
              exact ⟨rfl, HB3.out⟩
            · have hltz : ¬ ((k : Int) < (len1 : Int)) := by omega
              obtain rfl : len1 = k := by omega
              clear hlt hlt2 hj hj31 hK hsum
              have hgt : (30 : Int) < (len : Int) + (len1 : Int) := by have := HL30.out; omega
              go_wp2_with fail
              refine (HANS.out _ hB.out).mono ?_
              rintro e w3 ⟨rfl, hb3⟩
              have HB3 := Lib.hid (hB.out.trans (hb3.mono hB.out.size))
              clear hb3
              go_wp2
              go_ret
              exact ⟨rfl, HB3.out⟩
      · have hltz : ¬ ((j : Int) < (len : Int)) := by omega
        obtain rfl : len = j := by omega
        clear hlt hlt2 hj hj31 hK hsum
        go_wp2_with fail
        go_loopw [5, 7] (fun s i wr => ∃ (k L : Nat), k ≤ len1 ∧ k ≤ 31 ∧ i = .int .i64 (k : Int) ∧ s = .int .i64 (L : Int) ∧ L ≤ 9300000000000000 + 300000000000000 * k ∧ Hid (L = K + sumR (ss.take k)) ∧ Hid (Below w.heap.size w wr)) (fun _ i _ => 31 - (RowKit.intOf i).toNat)
        case atStart => exact ⟨0, K, Nat.zero_le _, by omega, rfl, rfl, by omega, Lib.hid (by simp [sumR]), hB0⟩
        case round =>
          obtain ⟨k, L, hj, hj31, rfl, rfl, hK, hsum, hB⟩ := hrel
          by_cases hlt : k < len1 ∧ k < 31
          · obtain ⟨hlt, hlt31⟩ := hlt
            have hltz : (k : Int) < (len1 : Int) := by omega
            have hltz31 : (k : Int) < 31 := by omega
            obtain ⟨b, o, rfl, hbw, hcs⟩ := (HRB.out.below hB.out).2 (by omega)
            obtain ⟨x0, x1⟩ := hcs k hlt
            obtain ⟨u, hu⟩ : ∃ u, ss.getD k ([], []) = u := ⟨_, rfl⟩
            rw [hu, Nat.mul_comm] at x0 x1
            have HU := Lib.hid hu
            have HUM : Hid (u.1.length ≤ 140737488351232 ∧ u.2.length ≤ 140737488351232) := Lib.hid (HSY.out u (by rw [← hu]; exact getD_mem ss k (by rw [HRM.out]; exact hlt)))
            obtain ⟨n1, hn1⟩ : ∃ n, (str u.1).size = n := ⟨_, rfl⟩
            obtain ⟨n2, hn2⟩ : ∃ n, (str u.2).size = n := ⟨_, rfl⟩
            have HM1 : Hid (u.1.length = n1) := Lib.hid (by rw [← hn1, str_size])
            have HM2 : Hid (u.2.length = n2) := Lib.hid (by rw [← hn2, str_size])
            have hb1 : (n1 : Int) ≤ 140737488351232 := by have := HUM.out.1; rw [HM1.out] at this; omega
            have hb2 : (n2 : Int) ≤ 140737488351232 := by have := HUM.out.2; rw [HM2.out] at this; omega
            have q1 : IntKind.i64.wrap ((L : Int) + (n1 : Int)) = (L : Int) + (n1 : Int) := by rw [IntKind.wrap_i64]; omega
            have q2 : IntKind.i64.wrap ((L : Int) + (n1 : Int) + (n2 : Int)) = (L : Int) + (n1 : Int) + (n2 : Int) := by rw [IntKind.wrap_i64]; omega
            have HK2 : Hid (L + n1 + n2 ≤ 9300000000000000 + 300000000000000 * (k + 1)) := Lib.hid (by omega)
            have HSU : Hid (L + n1 + n2 = K + sumR (ss.take (k + 1))) := Lib.hid (by rw [sumR_snoc ss k (by rw [HRM.out]; exact hlt), HU.out, HM1.out, HM2.out, hsum.out]; omega)
            have HJ1 := Lib.hid (And.intro hlt hlt31)
            clear hu hcs hbw hK hj hj31
            go_wp2_with fail
            go_quiet (fail)
            have HBD := Lib.hid (below_drewN hB.out nq)
            go_wp2
            go_roundw
            case rel => exact ⟨k + 1, L + n1 + n2, by have := HJ1.out; omega, by have := HJ1.out; omega, by go_num, by first | rfl | (congr 1; omega) | (simp; omega), HK2.out, HSU, HBD⟩
            case measure => have := HJ1.out; simp [RowKit.intOf]; omega
          · have hLb : (L : Int) ≤ 9300000000000000 + 9300000000000000 := by omega
            have HS1 := hsum
            by_cases hlt2 : k < len1
            · have hltz : (k : Int) < (len1 : Int) := by omega
              have hltz31 : ¬ ((k : Int) < 31) := by omega
              have HL31 : Hid (30 < len1) := Lib.hid (by omega)
              clear hlt hlt2 hj hj31 hK hsum
              have hgt : (30 : Int) < (len : Int) + (len1 : Int) := by have := HL31.out; omega
              go_wp2_with fail
              refine (HANS.out _ hB.out).mono ?_
              rintro e w3 ⟨rfl, hb3⟩
              have HB3 := Lib.hid (hB.out.trans (hb3.mono hB.out.size))
              clear hb3
              go_wp2
              go_ret
              exact ⟨rfl, HB3.out⟩
            · have hltz : ¬ ((k : Int) < (len1 : Int)) := by omega
              obtain rfl : len1 = k := by omega
              clear hlt hlt2 hj hj31 hK hsum
              by_cases hgt : (30 : Int) < (len : Int) + (len1 : Int)
              · go_wp2_with fail
                refine (HANS.out _ hB.out).mono ?_
                rintro e w3 ⟨rfl, hb3⟩
                have HB3 := Lib.hid (hB.out.trans (hb3.mono hB.out.size))
                clear hb3
                go_wp2
                go_ret
                exact ⟨rfl, HB3.out⟩
              · by_cases hbig : (20000 : Int) < (L : Int)
                · go_wp2_with fail
                  refine (HANS.out _ hB.out).mono ?_
                  rintro e w3 ⟨rfl, hb3⟩
                  have HB3 := Lib.hid (hB.out.trans (hb3.mono hB.out.size))
                  clear hb3
                  go_wp2
                  go_ret
                  exact ⟨rfl, HB3.out⟩
                · have H30 : Hid (len + len1 ≤ 30) := Lib.hid (by omega)
                  have HSM : Hid (sumR rs ≤ 20000 ∧ sumR ss ≤ 20000) := Lib.hid (by
                    have h1 := HS0.out
                    have h2 := HS1.out
                    rw [List.take_of_length_le (by rw [HRL.out]; exact Nat.le_refl _)] at h1
                    rw [List.take_of_length_le (by rw [HRM.out]; exact Nat.le_refl _)] at h2
                    omega)
                  have HKA : Hid (∀ r ∈ rs, r.1.length + r.2.length ≤ 1000000000000) := Lib.hid (fun r hr => by have h1 := sumR_mem rs r hr; have h2 := HSM.out.1; omega)
                  have HKB : Hid (∀ r ∈ ss, r.1.length + r.2.length ≤ 1000000000000) := Lib.hid (fun r hr => by have h1 := sumR_mem ss r hr; have h2 := HSM.out.2; omega)
                  have HKV : Hid (∀ r ∈ rs ++ ss, r.1.length + r.2.length ≤ 1000000000000) := Lib.hid (fun r hr => by
                    rcases List.mem_append.1 hr with h | h
                    · exact HKA.out r h
                    · exact HKB.out r h)
                  by_cases hA : ∀ r ∈ rs, mayD r.1 r.2 = true
                  · by_cases hC : ∀ r ∈ ss, mayD r.1 r.2 = true
                    · have HALL : Hid (∀ r ∈ rs ++ ss, mayD r.1 r.2 = true) := Lib.hid (fun r hr => by
                        rcases List.mem_append.1 hr with h | h
                        · exact hA r h
                        · exact hC r h)
                      have HRW := Lib.hid (recs_whole (rs ++ ss) HALL.out)
                      obtain ⟨nx, hnx⟩ : ∃ nx, (linesD rs).length = nx := ⟨_, rfl⟩
                      obtain ⟨ny, hny⟩ : ∃ ny, (linesD ss).length = ny := ⟨_, rfl⟩
                      obtain ⟨nz, hnz⟩ : ∃ nz, (linesD (rs ++ ss)).length = nz := ⟨_, rfl⟩
                      have HNN : Hid (nx + ny = nz) := Lib.hid (by rw [← hnx, ← hny, ← hnz, linesD_app, List.length_append])
                      have HNB : Hid (nx + ny ≤ 10000000) := Lib.hid (by
                        have h1 := lines_len rs hA
                        have h2 := lines_len ss hC
                        have h3 := HRL.out
                        have h4 := HRM.out
                        have h5 := H30.out
                        omega)
                      obtain ⟨X, hX⟩ : ∃ X, X = str (linesD rs) := ⟨_, rfl⟩
                      obtain ⟨Y, hY⟩ : ∃ Y, Y = str (linesD ss) := ⟨_, rfl⟩
                      obtain ⟨Z, hZ⟩ : ∃ Z, Z = str (linesD (rs ++ ss)) := ⟨_, rfl⟩
                      have HXY : Hid (X ++ Y = Z) := Lib.hid (by rw [hX, hY, hZ, linesD_app, Txt.str_app])
                      have HXS := Lib.hid hX
                      have HYS := Lib.hid hY
                      have HZS := Lib.hid hZ
                      have HNX := Lib.hid hnx
                      have HNY := Lib.hid hny
                      have HZN := Lib.hid hnz
                      have HAA := Lib.hid hA
                      have HCC := Lib.hid hC
                      clear hX hY hZ hnx hny hnz hA hC
                      go_wp2_with fail
                      refine (recPut_yes a len cap rs wr (by have := H30.out; omega) (HRA.out.below hB.out) HKA.out (HT.out.below hB.out) HAA.out).mono ?_
                      rintro e w1 ⟨qx, cx, rfl, _, hx2, hb1⟩
                      rw [HNX.out] at hx2
                      rw [HNX.out]
                      have HB1 := Lib.hid (hB.out.trans (hb1.mono hB.out.size))
                      have HX1 := Lib.hid hx2
                      clear hb1 hx2
                      go_wp2_with fail
                      refine (recPut_yes a1 len1 cap1 ss w1 (by have := H30.out; omega) (HRB.out.below HB1.out) HKB.out (HT.out.below HB1.out) HCC.out).mono ?_
                      rintro e w2 ⟨qy, cy, rfl, _, hy2, hb2⟩
                      rw [HNY.out] at hy2
                      rw [HNY.out]
                      have HB2 := Lib.hid (HB1.out.trans (hb2.mono HB1.out.size))
                      have HX2 := Lib.hid (HX1.out.below hb2)
                      have HY2 := Lib.hid hy2
                      clear hb2 hy2
                      go_wp2_with (at_builtin; refine append_recs rfl _ _ 24 rfl w2.heap.size 31 i0 (.agg #[.string ⟨#[]⟩, .string ⟨#[]⟩]) Tryd.underlying24 HI.out HZ0.out HZ1.out HZ2.out rfl _ 0 [] rfl (World.ownsRow_made w2 #[] 0 (Nat.le_refl _) (by decide) rfl) a len cap rs rfl ((HRA.out.below HB2.out).below ((Below.refl _ _).alloc (Nat.le_refl _) _)) (by have := H30.out; omega) (by simp) ?_)
                      intro v4 w4 hown4 hgrow4
                      have HG4 : Hid (Below w2.heap.size w2 w4) := Lib.hid ((((Below.refl w2.heap.size w2).alloc (Nat.le_refl _) _)).grown hgrow4 (by simp) (by intro k hk; simp [Value.ownBlock] at hk; omega))
                      have HO4 : Hid (w4.ownsRow w2.heap.size 31 2 v4 len (flatR rs)) := Lib.hid hown4
                      have HB4 := Lib.hid (HB2.out.trans (HG4.out.mono HB2.out.size))
                      clear hown4 hgrow4
                      go_wp2_with (at_builtin; refine append_recs rfl _ _ 24 rfl w2.heap.size 31 i0 (.agg #[.string ⟨#[]⟩, .string ⟨#[]⟩]) Tryd.underlying24 HI.out HZ0.out HZ1.out HZ2.out rfl _ len rs rfl HO4.out a1 len1 cap1 ss rfl (HRB.out.below HB4.out) (by have := H30.out; omega) HG4.out.size ?_)
                      intro v5 w5 hown5 hgrow5
                      have HG5 : Hid (Below w2.heap.size w2 w5) := Lib.hid (HG4.out.grown hgrow5 HG4.out.size (fun b hb => by
                        rcases HO4.out.2 with ⟨rfl, _⟩ | ⟨g, cp, cur, rfl, hb2, _⟩
                        · cases hb
                        · cases hb; exact hb2))
                      have HB5 := Lib.hid (HB2.out.trans (HG5.out.mono HB2.out.size))
                      have hown6 : w5.ownsRow w2.heap.size 31 2 v5 (rs ++ ss).length (flatR (rs ++ ss)) := by
                        have e : (rs ++ ss).length = len + len1 := by rw [List.length_append, HRL.out, HRM.out]
                        rw [e]
                        exact hown5
                      obtain ⟨p6, c6, rfl, _, _, hr6⟩ := recs_own hown6
                      obtain ⟨n6, hn6⟩ : ∃ n6, (rs ++ ss).length = n6 := ⟨_, rfl⟩
                      have HN6 : Hid (n6 = len + len1) := Lib.hid (by rw [← hn6, List.length_append, HRL.out, HRM.out])
                      rw [hn6] at hr6
                      rw [hn6]
                      have HR6 := Lib.hid hr6
                      have HN7 := Lib.hid hn6
                      clear hown5 hown6 hgrow5 hr6 hn6
                      go_wp2_with fail
                      refine (recPut_yes p6 n6 c6 (rs ++ ss) w5 (by have := HN6.out; have := H30.out; omega) HR6.out HKV.out (HT.out.below HB5.out) HALL.out).mono ?_
                      rintro e w6 ⟨qz, cz, rfl, _, hz2, hb6⟩
                      have HB6 := Lib.hid (HB5.out.trans (hb6.mono HB5.out.size))
                      have HG6 := Lib.hid (HG5.out.trans (hb6.mono HG5.out.size))
                      rw [HZN.out] at hz2
                      rw [HZN.out]
                      have HZB := Lib.hid hz2
                      have HX6 := Lib.hid (HX2.out.below HG6.out)
                      have HY6 := Lib.hid (HY2.out.below HG6.out)
                      clear hb6 hz2
                      go_wp2_with (at_builtin; refine append_bytes rfl _ _ 22 rfl w6.heap.size 5 i8 Tryd.underlying22 OI.out OZ0.out OZ1.out OZ2.out _ 0 [] rfl (World.ownsRow_made w6 #[] 0 (Nat.le_refl _) (by decide) rfl) qx nx cx (linesD rs) rfl (HX6.out.alloc _) HNX.out (by have := HNB.out; omega) (by simp) ?_)
                      intro v7 w7 hown7 hgrow7
                      have HG7 : Hid (Below w6.heap.size w6 w7) := Lib.hid ((((Below.refl w6.heap.size w6).alloc (Nat.le_refl _) _)).grown hgrow7 (by simp) (by intro k hk; simp [Value.ownBlock] at hk; omega))
                      have HO7 : Hid (w7.ownsRow w6.heap.size 5 1 v7 nx ((nums (linesD rs)).map (Value.int .u8))) := Lib.hid hown7
                      clear hown7 hgrow7
                      go_wp2_with (at_builtin; refine append_bytes rfl _ _ 22 rfl w6.heap.size 5 i8 Tryd.underlying22 OI.out OZ0.out OZ1.out OZ2.out _ nx (nums (linesD rs)) rfl HO7.out qy ny cy (linesD ss) rfl (HY6.out.below HG7.out) HNY.out (by have := HNB.out; omega) HG7.out.size ?_)
                      intro v8 w8 hown8 hgrow8
                      have HG8 : Hid (Below w6.heap.size w6 w8) := Lib.hid (HG7.out.grown hgrow8 HG7.out.size (fun b hb => by
                        rcases HO7.out.2 with ⟨rfl, _⟩ | ⟨g, cp, cur, rfl, hb2, _⟩
                        · cases hb
                        · cases hb; exact hb2))
                      have HB8 := Lib.hid (HB6.out.trans (HG8.out.mono HB6.out.size))
                      have hown9 : w8.ownsRow w6.heap.size 5 1 v8 nz ((nums (linesD (rs ++ ss))).map (Value.int .u8)) := by
                        rw [linesD_app, nums_app, ← HNN.out, List.map_append]
                        exact hown8
                      obtain ⟨p8, c8, rfl, h81, _, hr8, _⟩ := bat_of_own hown9 (nums_bd _)
                      rw [bytesOf_nums] at hr8
                      have HR8 := Lib.hid hr8
                      clear hown8 hown9 hgrow8 hr8
                      go_wp2_with fail
                      refine (recParse_of (linesD (rs ++ ss)) (rs ++ ss) 0 HRW.out p8 nz c8 w8 HZN.out h81 (by have := HNB.out; have := HNN.out; omega) HR8.out (HT.out.below HB8.out)).mono ?_
                      rw [HN7.out]
                      rintro e w9 ⟨q9, d9, rfl, _, _, _, hb9⟩
                      have HB9 := Lib.hid (HB8.out.trans (hb9.mono HB8.out.size))
                      have HG9 := Lib.hid (HG8.out.trans (hb9.mono HG8.out.size))
                      clear hb9
                      go_wp2_with fail
                      refine (HANS.out _ HB9.out).mono ?_
                      rintro e w10 ⟨rfl, hb10⟩
                      have HB10 := Lib.hid (HB9.out.trans (hb10.mono HB9.out.size))
                      have hg10 := HG9.out.trans (hb10.mono HG9.out.size)
                      have cx1 : (convert 22 9 (.slice qx nx cx)).run Tryd.prog w10 = .ok (.string X) w10 := by
                        rw [HXS.out]
                        exact conv_at (HX6.out.below hg10) HNX.out _ _ _ Tryd.underlying22 Tryd.underlying5 Tryd.underlying9 cx
                      have cy1 : (convert 22 9 (.slice qy ny cy)).run Tryd.prog w10 = .ok (.string Y) w10 := by
                        rw [HYS.out]
                        exact conv_at (HY6.out.below hg10) HNY.out _ _ _ Tryd.underlying22 Tryd.underlying5 Tryd.underlying9 cy
                      have cz1 : (convert 22 9 (.slice qz nz cz)).run Tryd.prog w10 = .ok (.string Z) w10 := by
                        rw [HZS.out]
                        exact conv_at (HZB.out.below hg10) HZN.out _ _ _ Tryd.underlying22 Tryd.underlying5 Tryd.underlying9 cz
                      have hxy : X ++ Y = Z := HXY.out
                      have hzz : (Z.toList == Z.toList) = true := by simp
                      have hxs : X.size + Y.size ≤ 9223372036854775807 := by
                        have h1 := HNB.out
                        rw [HXS.out, HYS.out, str_size, str_size, HNX.out, HNY.out]
                        omega
                      have hn6 : ((n6 : Int) == (len : Int) + (len1 : Int)) = true := by have := HN6.out; simp; omega
                      clear hb10 hg10
                      go_wp2
                      go_ret
                      exact ⟨rfl, HB10.out⟩
                    · have HAA := Lib.hid hA
                      have HCN := Lib.hid (not_all hC)
                      have HNO : Hid (∃ r ∈ rs ++ ss, mayD r.1 r.2 = false) := Lib.hid (by
                        obtain ⟨r, hr, h⟩ := HCN.out
                        exact ⟨r, List.mem_append.2 (.inr hr), h⟩)
                      clear hA hC
                      go_wp2_with fail
                      refine (recPut_yes a len cap rs wr (by have := H30.out; omega) (HRA.out.below hB.out) HKA.out (HT.out.below hB.out) HAA.out).mono ?_
                      rintro e w1 ⟨qx, cx, rfl, _, _, hb1⟩
                      have HB1 := Lib.hid (hB.out.trans (hb1.mono hB.out.size))
                      clear hb1
                      go_wp2_with fail
                      refine (recPut_no a1 len1 cap1 ss w1 (by have := H30.out; omega) (HRB.out.below HB1.out) HKB.out (HT.out.below HB1.out) HCN.out).mono ?_
                      rintro e w2 ⟨rfl, hb2⟩
                      have HB2 := Lib.hid (HB1.out.trans (hb2.mono HB1.out.size))
                      clear hb2
                      go_wp2_with (at_builtin; refine append_recs rfl _ _ 24 rfl w2.heap.size 31 i0 (.agg #[.string ⟨#[]⟩, .string ⟨#[]⟩]) Tryd.underlying24 HI.out HZ0.out HZ1.out HZ2.out rfl _ 0 [] rfl (World.ownsRow_made w2 #[] 0 (Nat.le_refl _) (by decide) rfl) a len cap rs rfl ((HRA.out.below HB2.out).below ((Below.refl _ _).alloc (Nat.le_refl _) _)) (by have := H30.out; omega) (by simp) ?_)
                      intro v4 w4 hown4 hgrow4
                      have HG4 : Hid (Below w2.heap.size w2 w4) := Lib.hid ((((Below.refl w2.heap.size w2).alloc (Nat.le_refl _) _)).grown hgrow4 (by simp) (by intro k hk; simp [Value.ownBlock] at hk; omega))
                      have HO4 : Hid (w4.ownsRow w2.heap.size 31 2 v4 len (flatR rs)) := Lib.hid hown4
                      have HB4 := Lib.hid (HB2.out.trans (HG4.out.mono HB2.out.size))
                      clear hown4 hgrow4
                      go_wp2_with (at_builtin; refine append_recs rfl _ _ 24 rfl w2.heap.size 31 i0 (.agg #[.string ⟨#[]⟩, .string ⟨#[]⟩]) Tryd.underlying24 HI.out HZ0.out HZ1.out HZ2.out rfl _ len rs rfl HO4.out a1 len1 cap1 ss rfl (HRB.out.below HB4.out) (by have := H30.out; omega) HG4.out.size ?_)
                      intro v5 w5 hown5 hgrow5
                      have HG5 : Hid (Below w2.heap.size w2 w5) := Lib.hid (HG4.out.grown hgrow5 HG4.out.size (fun b hb => by
                        rcases HO4.out.2 with ⟨rfl, _⟩ | ⟨g, cp, cur, rfl, hb2, _⟩
                        · cases hb
                        · cases hb; exact hb2))
                      have HB5 := Lib.hid (HB2.out.trans (HG5.out.mono HB2.out.size))
                      have hown6 : w5.ownsRow w2.heap.size 31 2 v5 (rs ++ ss).length (flatR (rs ++ ss)) := by
                        have e : (rs ++ ss).length = len + len1 := by rw [List.length_append, HRL.out, HRM.out]
                        rw [e]
                        exact hown5
                      obtain ⟨p6, c6, rfl, _, _, hr6⟩ := recs_own hown6
                      obtain ⟨n6, hn6⟩ : ∃ n6, (rs ++ ss).length = n6 := ⟨_, rfl⟩
                      have HN6 : Hid (n6 = len + len1) := Lib.hid (by rw [← hn6, List.length_append, HRL.out, HRM.out])
                      rw [hn6] at hr6
                      rw [hn6]
                      have HR6 := Lib.hid hr6
                      have HN7 := Lib.hid hn6
                      clear hown5 hown6 hgrow5 hr6 hn6
                      go_wp2_with fail
                      refine (recPut_no p6 n6 c6 (rs ++ ss) w5 (by have := HN6.out; have := H30.out; omega) HR6.out HKV.out (HT.out.below HB5.out) HNO.out).mono ?_
                      rintro e w6 ⟨rfl, hb6⟩
                      have HB6 := Lib.hid (HB5.out.trans (hb6.mono HB5.out.size))
                      clear hb6
                      go_wp2_with fail
                      refine (HANS.out _ HB6.out).mono ?_
                      rintro e w7 ⟨rfl, hb7⟩
                      have HB7 := Lib.hid (HB6.out.trans (hb7.mono HB6.out.size))
                      clear hb7
                      go_wp2
                      go_ret
                      exact ⟨rfl, HB7.out⟩
                  · have HAN := Lib.hid (not_all hA)
                    have HNO : Hid (∃ r ∈ rs ++ ss, mayD r.1 r.2 = false) := Lib.hid (by
                      obtain ⟨r, hr, h⟩ := HAN.out
                      exact ⟨r, List.mem_append.2 (.inl hr), h⟩)
                    clear hA
                    go_wp2_with fail
                    refine (recPut_no a len cap rs wr (by have := H30.out; omega) (HRA.out.below hB.out) HKA.out (HT.out.below hB.out) HAN.out).mono ?_
                    rintro e w1 ⟨rfl, hb1⟩
                    have HB1 := Lib.hid (hB.out.trans (hb1.mono hB.out.size))
                    clear hb1
                    go_wp2_with fail
                    refine (recPut_some a1 len1 cap1 ss w1 (by have := H30.out; omega) (HRB.out.below HB1.out) HKB.out (HT.out.below HB1.out)).mono ?_
                    rintro e w2 ⟨qy, ny, cy, oky, rfl, hb2⟩
                    have HB2 := Lib.hid (HB1.out.trans (hb2.mono HB1.out.size))
                    clear hb2
                    go_wp2_with (at_builtin; refine append_recs rfl _ _ 24 rfl w2.heap.size 31 i0 (.agg #[.string ⟨#[]⟩, .string ⟨#[]⟩]) Tryd.underlying24 HI.out HZ0.out HZ1.out HZ2.out rfl _ 0 [] rfl (World.ownsRow_made w2 #[] 0 (Nat.le_refl _) (by decide) rfl) a len cap rs rfl ((HRA.out.below HB2.out).below ((Below.refl _ _).alloc (Nat.le_refl _) _)) (by have := H30.out; omega) (by simp) ?_)
                    intro v4 w4 hown4 hgrow4
                    have HG4 : Hid (Below w2.heap.size w2 w4) := Lib.hid ((((Below.refl w2.heap.size w2).alloc (Nat.le_refl _) _)).grown hgrow4 (by simp) (by intro k hk; simp [Value.ownBlock] at hk; omega))
                    have HO4 : Hid (w4.ownsRow w2.heap.size 31 2 v4 len (flatR rs)) := Lib.hid hown4
                    have HB4 := Lib.hid (HB2.out.trans (HG4.out.mono HB2.out.size))
                    clear hown4 hgrow4
                    go_wp2_with (at_builtin; refine append_recs rfl _ _ 24 rfl w2.heap.size 31 i0 (.agg #[.string ⟨#[]⟩, .string ⟨#[]⟩]) Tryd.underlying24 HI.out HZ0.out HZ1.out HZ2.out rfl _ len rs rfl HO4.out a1 len1 cap1 ss rfl (HRB.out.below HB4.out) (by have := H30.out; omega) HG4.out.size ?_)
                    intro v5 w5 hown5 hgrow5
                    have HG5 : Hid (Below w2.heap.size w2 w5) := Lib.hid (HG4.out.grown hgrow5 HG4.out.size (fun b hb => by
                      rcases HO4.out.2 with ⟨rfl, _⟩ | ⟨g, cp, cur, rfl, hb2, _⟩
                      · cases hb
                      · cases hb; exact hb2))
                    have HB5 := Lib.hid (HB2.out.trans (HG5.out.mono HB2.out.size))
                    have hown6 : w5.ownsRow w2.heap.size 31 2 v5 (rs ++ ss).length (flatR (rs ++ ss)) := by
                      have e : (rs ++ ss).length = len + len1 := by rw [List.length_append, HRL.out, HRM.out]
                      rw [e]
                      exact hown5
                    obtain ⟨p6, c6, rfl, _, _, hr6⟩ := recs_own hown6
                    obtain ⟨n6, hn6⟩ : ∃ n6, (rs ++ ss).length = n6 := ⟨_, rfl⟩
                    have HN6 : Hid (n6 = len + len1) := Lib.hid (by rw [← hn6, List.length_append, HRL.out, HRM.out])
                    rw [hn6] at hr6
                    rw [hn6]
                    have HR6 := Lib.hid hr6
                    have HN7 := Lib.hid hn6
                    clear hown5 hown6 hgrow5 hr6 hn6
                    go_wp2_with fail
                    refine (recPut_no p6 n6 c6 (rs ++ ss) w5 (by have := HN6.out; have := H30.out; omega) HR6.out HKV.out (HT.out.below HB5.out) HNO.out).mono ?_
                    rintro e w6 ⟨rfl, hb6⟩
                    have HB6 := Lib.hid (HB5.out.trans (hb6.mono HB5.out.size))
                    clear hb6
                    go_wp2_with fail
                    refine (HANS.out _ HB6.out).mono ?_
                    rintro e w7 ⟨rfl, hb7⟩
                    have HB7 := Lib.hid (HB6.out.trans (hb7.mono HB6.out.size))
                    clear hb7
                    go_wp2
                    go_ret
                    exact ⟨rfl, HB7.out⟩
end Go.Proofs.YtodlkjlcihcciaaDoor.Walk
