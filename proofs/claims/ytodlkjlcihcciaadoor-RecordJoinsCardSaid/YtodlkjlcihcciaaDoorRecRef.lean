/- The document's own Dec, Whole, MayRecord, Line, by contracts. -/
import Derived.Test.YtodlkjlcihcciaaDoorRecMath
import Derived.Test.YtodlkjlcihcciaaDoorRefText
namespace Go.Proofs.YtodlkjlcihcciaaDoor.Rec
open Go.ChangeShapes Go.WideShapes Go.ChangeAt Go.RowKit Go.Proofs.YtodlkjlcihcciaaDoor.Base Go.Proofs.YtodlkjlcihcciaaDoor.Byt Go.Proofs.YtodlkjlcihcciaaDoor.Txt Go.Proofs.YtodlkjlcihcciaaDoor.Path Go.Lib
set_option linter.unusedVariables false
set_option maxRecDepth 100000

theorem dec_any (n : Nat) (w : World) (hn : n < 1000000000000000000) :
    Calls Tryd.prog 24 #[.int .i64 (n : Int)] w fun e w' => e = .returned (.string (str (decL n))) ∧ Below w.heap.size w w' := by
  have hd := dec_le n 18 (by omega) hn
  by_cases h0 : n = 0
  · subst h0
    have e : str (decL 0) = ⟨#[48]⟩ := by rw [decL_small (by omega)]; rfl
    rw [e]
    clear hd e
    go_enter Tryd.func24, Tryd.ntmps24
    go_wp2
    go_ret
    exact ⟨rfl, Below.refl _ _⟩
  · have hb : ((n : Int) == 0) = false := by rw [beq_eq_false_iff_ne]; omega
    have HD := Lib.hid hd
    clear hd
    go_enter Tryd.func24, Tryd.ntmps24
    go_wp2
    go_loopw [0, 3] (fun a b wr => ∃ (m : Nat) (s : List UInt8), m ≤ n ∧ a = .int .i64 (m : Int) ∧ b = .string (str s) ∧ Hid (decL n = (if m = 0 then [] else decL m) ++ s) ∧ Hid (Below w.heap.size w wr)) (fun a _ _ => (RowKit.intOf a).toNat)
    case atStart => exact ⟨n, [], Nat.le_refl _, rfl, rfl, Lib.hid (by rw [if_neg h0, List.append_nil]), Lib.hid (Below.refl _ _)⟩
    case round =>
      obtain ⟨m, s, hmn, rfl, rfl, hs, hB⟩ := hrel
      by_cases hm : m = 0
      · subst hm
        have hE : Hid (decL n = s) := Lib.hid (by have := hs.out; rwa [if_pos rfl, List.nil_append] at this)
        have hz : ¬ ((0 : Int) < ((0 : Nat) : Int)) := by omega
        go_wp2
        go_ret
        rw [hE.out]
        exact ⟨rfl, hB.out⟩
      · have hz : (0 : Int) < (m : Int) := by omega
        have hnx : decL n = (if m / 10 = 0 then [] else decL (m / 10)) ++ digC m :: s := by
          have := hs.out
          rw [if_neg hm] at this
          rw [this, dec_step m hm s]
        have hsl : (str s).size ≤ 18 := by
          rw [str_size]
          have h1 := congrArg List.length hnx
          rw [List.length_append, List.length_cons] at h1
          have := HD.out
          omega
        have hsl2 : (str [digC m]).size + (str s).size ≤ 9223372036854775807 := by rw [str_size]; simp; omega
        have HN := Lib.hid hnx
        have cs : (convert 22 9 (.slice (some ⟨wr.heap.size, 0, none⟩) 1 1)).run Tryd.prog (wr.alloc (.cells #[.int .u8 (48 + (m : Int) % 10)] 5)) = .ok (.string (str [digC m])) (wr.alloc (.cells #[.int .u8 (48 + (m : Int) % 10)] 5)) :=
          conv_at (byte_bat wr _ (digC m) _ (by rw [digC_nat]; omega)) rfl _ _ _ Tryd.underlying22 Tryd.underlying5 Tryd.underlying9 _
        clear hnx
        have HE := Lib.hid (str_app [digC m] s)
        go_wp2
        refine ⟨⟨m / 10, digC m :: s, by omega, by congr 1, by rw [HE.out]; rfl, HN, Lib.hid (hB.out.alloc hB.out.size _)⟩, ?_⟩
        simp [RowKit.intOf]
        omega
/-- a whole number's answer -/
def wholeV (r : Option Nat) : Value := match r with
  | some n => .tuple #[.int .i64 (n : Int), .bool true]
  | none => .tuple #[.int .i64 0, .bool false]
theorem pow_le17 {k : Nat} (hk : k ≤ 17) : 10 ^ k ≤ 100000000000000000 := Nat.pow_le_pow_right (by omega) hk
theorem whole_any (s : ByteArray) (w : World) : Calls Tryd.prog 17 #[.string s] w fun e w' => e = .returned (wholeV (wholeD s.data.toList)) ∧ w = w' := by
  have hsz : s.data.toList.length = s.size := (size_of s).symm
  by_cases h1 : s.size < 1
  · have e : wholeD s.data.toList = none := by unfold wholeD; rw [if_pos (.inl (by omega))]
    rw [e]
    have h1' : (s.size : Int) < 1 := by omega
    clear hsz h1 e
    go_enter Tryd.func17, Tryd.ntmps17
    go_wp2
    go_ret2
    exact ⟨rfl, rfl⟩
  · by_cases h18 : 18 < s.size
    · have e : wholeD s.data.toList = none := by unfold wholeD; rw [if_pos (.inr (by omega))]
      rw [e]
      have h1' : ¬ (s.size : Int) < 1 := by omega
      have h2' : (18 : Int) < (s.size : Int) := by omega
      clear hsz h1 h18 e
      go_enter Tryd.func17, Tryd.ntmps17
      go_wp2
      go_ret2
      exact ⟨rfl, rfl⟩
    · have HS := Lib.hid hsz
      have h1' : ¬ (s.size : Int) < 1 := by omega
      have h2' : ¬ (18 : Int) < (s.size : Int) := by omega
      have HW : Hid (wholeD s.data.toList = if s.data.toList.all isDig then some (valL s.data.toList) else none) := Lib.hid (by unfold wholeD; rw [if_neg (by omega)])
      clear hsz
      go_enter Tryd.func17, Tryd.ntmps17
      go_wp2
      go_loop [4, 5] (fun a b => ∃ (k v : Nat), k ≤ s.size ∧ a = .int .i64 (v : Int) ∧ b = .int .i64 (k : Int) ∧ Hid (v = valL (s.data.toList.take k)) ∧ Hid (∀ x ∈ s.data.toList.take k, isDig x = true)) (fun _ b => s.size - (RowKit.intOf b).toNat)
      case atStart => exact ⟨0, 0, Nat.zero_le _, rfl, rfl, Lib.hid rfl, Lib.hid (by simp)⟩
      case round =>
        obtain ⟨k, v, hk, rfl, rfl, hv, hd⟩ := hrel
        by_cases hlt : k < s.size
        · have hxg : Hid (s.data.toList.take (k + 1) = s.data.toList.take k ++ [s[k]]) := Lib.hid (by
            rw [List.take_add_one, List.getElem?_eq_getElem (show k < s.data.toList.length by rw [HS.out]; exact hlt)]
            rfl)
          have hmem : Hid (s[k] ∈ s.data.toList) := Lib.hid (by
            have : s.data.toList[k]'(by rw [HS.out]; exact hlt) ∈ s.data.toList := List.getElem_mem _
            exact this)
          obtain ⟨C, hC⟩ : ∃ C : Nat, (s[k]).toNat = C := ⟨_, rfl⟩
          have hC2 : ((s[k]).toNat : Int) = (C : Int) := by rw [hC]
          have hC3 : (C : Int) ≤ 255 := by have := (s[k]).toNat_lt; omega
          have HC := Lib.hid hC
          have hvb : (v : Int) < 100000000000000000 := by
            have h3 := valL_lt _ hd.out
            rw [← hv.out, List.length_take, HS.out, Nat.min_eq_left (by omega)] at h3
            have := pow_le17 (show k ≤ 17 by omega)
            omega
          clear hC
          by_cases g1 : (C : Int) < 48
          · have E : Hid (wholeD s.data.toList = none) := Lib.hid (by
              rw [HW.out, if_neg]
              intro h
              have := List.all_eq_true.1 h _ hmem.out
              simp only [isDig, decide_eq_true_eq, HC.out] at this
              omega)
            go_wp2
            go_ret2
            rw [E.out]
            exact ⟨rfl, rfl⟩
          · by_cases g2 : (57 : Int) < (C : Int)
            · have E : Hid (wholeD s.data.toList = none) := Lib.hid (by
                rw [HW.out, if_neg]
                intro h
                have := List.all_eq_true.1 h _ hmem.out
                simp only [isDig, decide_eq_true_eq, HC.out] at this
                omega)
              go_wp2
              go_ret2
              rw [E.out]
              exact ⟨rfl, rfl⟩
            · have HV : Hid (v * 10 + (C - 48) = valL (s.data.toList.take (k + 1))) := Lib.hid (by rw [hxg.out, valL_snoc, ← hv.out, HC.out])
              have HDG : Hid (∀ x ∈ s.data.toList.take (k + 1), isDig x = true) := Lib.hid (by
                rw [hxg.out]
                intro x hx
                rcases List.mem_append.1 hx with h | h
                · exact hd.out x h
                · rw [List.mem_singleton.1 h]
                  simp only [isDig, decide_eq_true_eq, HC.out]
                  omega)
              go_wp2
              go_round
              case rel => exact ⟨k + 1, v * 10 + (C - 48), by omega, by congr 1; omega, by go_num, HV, HDG⟩
              case measure => simp [RowKit.intOf]; omega
        · have hkl : k = s.size := by omega
          have hE : Hid (wholeD s.data.toList = some v) := Lib.hid (by
            have ht : s.data.toList.take k = s.data.toList := List.take_of_length_le (by rw [HS.out]; omega)
            have h3 := hd.out
            have h4 := hv.out
            rw [ht] at h3 h4
            rw [HW.out, if_pos (List.all_eq_true.2 h3), ← h4])
          go_wp2
          go_ret2
          rw [hE.out]
          exact ⟨rfl, rfl⟩
theorem idx_list (s : ByteArray) (k : Nat) (h : k < s.size) : s.data.toList.getD k 0 = s[k] := by
  rw [List.getD, List.getElem?_eq_getElem (show k < s.data.toList.length by rw [← size_of]; exact h)]; rfl
theorem cells2 (w : World) (t : TypeId) (a b : Value) : (w.alloc (.cells #[a, b] t)).cell? ⟨w.heap.size, 0, none⟩ = some a ∧ (w.alloc (.cells #[a, b] t)).cell? ⟨w.heap.size, 1, none⟩ = some b := by
  have h := heap_alloc_new w (.cells #[a, b] t)
  unfold World.cell?
  rw [h]
  exact ⟨rfl, rfl⟩
set_option maxHeartbeats 1000000 in
theorem mayRec_any (k v : List UInt8) (w : World) (hk : k.length ≤ 140737488351232) (hv : v.length ≤ 140737488351232) :
    Calls Tryd.prog 14 #[.agg #[.string (str k), .string (str v)]] w fun e w' => e = .returned (.bool (mayD k v)) ∧ Below w.heap.size w w' := by
  obtain ⟨a, ha⟩ : ∃ a, a = str k := ⟨_, rfl⟩
  obtain ⟨b, hb⟩ : ∃ b, b = str v := ⟨_, rfl⟩
  have HA : Hid (a.data.toList = k) := Lib.hid (by rw [ha, str_data])
  have HB : Hid (b.data.toList = v) := Lib.hid (by rw [hb, str_data])
  have hza : a.size = k.length := by rw [ha, str_size]
  have hzb : b.size = v.length := by rw [hb, str_size]
  have HZ := Lib.hid (And.intro hza hzb)
  have ha1 : (a.size : Int) ≤ 140737488351232 := by omega
  have hb1 : (b.size : Int) ≤ 140737488351232 := by omega
  have hTa := fun w => rtext_any a w (by omega)
  have hTb := fun w => rtext_any b w (by omega)
  rw [HA.out] at hTa
  rw [HB.out] at hTb
  have HTA := Lib.hid hTa
  have HTB := Lib.hid hTb
  obtain ⟨M, hM⟩ : ∃ M, mayD k v = M := ⟨_, rfl⟩
  have HM := Lib.hid hM
  rw [← ha, ← hb, hM]
  obtain ⟨c0, c1⟩ := cells2 w 31 (.string a) (.string b)
  have hbel : Hid (Below w.heap.size w (w.alloc (.cells #[.string a, .string b] 31))) := Lib.hid ((Below.refl _ _).alloc (Nat.le_refl _) _)
  clear ha hb hza hzb hTa hTb hM hk hv
  go_enter Tryd.func14, Tryd.ntmps14
  go_wp2
  go_loop [3] (fun i => ∃ (j : Nat), j ≤ a.size ∧ i = .int .i64 (j : Int) ∧ Hid (∀ x ∈ k.take j, x ≠ 61)) (fun i => a.size - (RowKit.intOf i).toNat)
  case atStart => exact ⟨0, Nat.zero_le _, rfl, Lib.hid (by simp)⟩
  case round =>
    obtain ⟨j, hj, rfl, hn⟩ := hrel
    by_cases hlt : j < a.size
    · have hx : Hid (a[j] = k.getD j 0 ∧ k.take (j + 1) = k.take j ++ [a[j]] ∧ a[j] ∈ k) := Lib.hid (by
        have h1 := idx_list a j hlt
        rw [HA.out] at h1
        have h2 : j < k.length := by rw [← HZ.out.1]; exact hlt
        have h3 : k[j] = a[j] := by rw [← h1, List.getD, List.getElem?_eq_getElem h2]; rfl
        refine ⟨h1.symm, ?_, ?_⟩
        · rw [List.take_add_one, List.getElem?_eq_getElem h2, h3]; rfl
        · rw [← h3]; exact List.getElem_mem h2)
      by_cases hc : a[j] = 61
      · have hcb : (((a[j]).toNat : Int) == 61) = true := by rw [hc]; rfl
        obtain rfl : false = M := by
          rw [← HM.out]
          have : k.contains 61 = true := List.contains_iff_mem.2 (by rw [← hc]; exact hx.out.2.2)
          unfold mayD
          rw [this]
          rfl
        clear hc
        go_wp2
        go_ret
        exact ⟨rfl, hbel.out⟩
      · have hcb : (((a[j]).toNat : Int) == 61) = false := by
          have : ¬ (a[j]).toNat = 61 := fun e => hc (UInt8.toNat_inj.1 e)
          rw [beq_eq_false_iff_ne]; omega
        have HNX : Hid (∀ x ∈ k.take (j + 1), x ≠ 61) := Lib.hid (by
          rw [hx.out.2.1]
          intro x hx'
          rcases List.mem_append.1 hx' with h | h
          · exact hn.out x h
          · rw [List.mem_singleton.1 h]; exact hc)
        clear hc
        go_wp2
        go_round
        case rel => exact ⟨j + 1, by omega, by go_num, HNX⟩
        case measure => simp [RowKit.intOf]; omega
    · have hkc : Hid (k.contains 61 = false) := Lib.hid (by
        have h1 := hn.out
        rw [List.take_of_length_le (by rw [← HZ.out.1]; omega)] at h1
        cases h : k.contains 61 with
        | false => rfl
        | true => exact absurd rfl (h1 61 (List.contains_iff_mem.1 h)))
      have HMM : Hid ((!k.isEmpty && textD k && textD v && decide (k.length + v.length ≤ 100000)) = M) := Lib.hid (by
        have := HM.out
        simp only [mayD, hkc.out, Bool.not_false, Bool.true_and] at this
        exact this)
      by_cases he : k = []
      · have h1 : (a.toList.isEmpty) = true := by rw [Lib.toList_data, HA.out, he]; rfl
        obtain rfl : false = M := by rw [← HMM.out, he]; rfl
        clear he
        go_wp2
        go_ret
        exact ⟨rfl, hbel.out⟩
      · have h1 : (a.toList.isEmpty) = false := by
          rw [Lib.toList_data, HA.out]
          cases h : k with
          | nil => exact absurd h he
          | cons _ _ => rfl
        have hke : k.isEmpty = false := by
          cases h : k with
          | nil => exact absurd h he
          | cons _ _ => rfl
        cases ht : textD k with
        | false =>
          obtain rfl : false = M := by rw [← HMM.out, ht, hke]; rfl
          clear he hke
          go_wp2_with fail
          refine (HTA.out _).mono ?_
          rw [ht]
          rintro e w' ⟨rfl, rfl⟩
          go_wp2
          go_ret
          exact ⟨rfl, hbel.out⟩
        | true =>
          cases ht2 : textD v with
          | false =>
            obtain rfl : false = M := by rw [← HMM.out, ht, ht2, hke]; rfl
            clear he hke
            go_wp2_with fail
            refine (HTA.out _).mono ?_
            rw [ht]
            rintro e w' ⟨rfl, rfl⟩
            go_wp2_with fail
            refine (HTB.out _).mono ?_
            rw [ht2]
            rintro e w' ⟨rfl, rfl⟩
            go_wp2
            go_ret
            exact ⟨rfl, hbel.out⟩
          | true =>
            have hML : decide ((a.size : Int) + (b.size : Int) ≤ 100000) = M := by
              rw [← HMM.out, ht, ht2, hke, ← HZ.out.1, ← HZ.out.2]
              simp
              omega
            clear he hke
            go_wp2_with fail
            refine (HTA.out _).mono ?_
            rw [ht]
            rintro e w' ⟨rfl, rfl⟩
            go_wp2_with fail
            refine (HTB.out _).mono ?_
            rw [ht2]
            rintro e w' ⟨rfl, rfl⟩
            go_wp2
            go_ret
            exact ⟨rfl, hbel.out⟩
end Go.Proofs.YtodlkjlcihcciaaDoor.Rec
