/- The document's own Dec, Whole, MayRecord, Line, by contracts. -/
import Derived.Test.YtfmhdkemigpjjaaDoorRecMath
import Derived.Test.YtfmhdkemigpjjaaDoorRefText
namespace Go.Proofs.YtfmhdkemigpjjaaDoor.Rec
open Go.ChangeShapes Go.WideShapes Go.ChangeAt Go.RowKit Go.Proofs.YtfmhdkemigpjjaaDoor.Base Go.Proofs.YtfmhdkemigpjjaaDoor.Byt Go.Proofs.YtfmhdkemigpjjaaDoor.Txt Go.Proofs.YtfmhdkemigpjjaaDoor.Path Go.Lib
set_option linter.unusedVariables false
set_option maxRecDepth 100000

/-- a whole number's answer -/
def wholeV (r : Option Nat) : Value := match r with
  | some n => .tuple #[.int .i64 (n : Int), .bool true]
  | none => .tuple #[.int .i64 0, .bool false]
theorem pow_le17 {k : Nat} (hk : k ≤ 17) : 10 ^ k ≤ 100000000000000000 := Nat.pow_le_pow_right (by omega) hk
theorem whole_any (s : ByteArray) (w : World) : Calls Tryd.prog 18 #[.string s] w fun e w' => e = .returned (wholeV (wholeD s.data.toList)) ∧ w = w' := by
  have hsz : s.data.toList.length = s.size := (size_of s).symm
  by_cases h1 : s.size < 1
  · have e : wholeD s.data.toList = none := by unfold wholeD; rw [if_pos (.inl (by omega))]
    rw [e]
    have h1' : (s.size : Int) < 1 := by omega
    clear hsz h1 e
    go_enter Tryd.func18, Tryd.ntmps18
    go_wp2
    go_ret2
    exact ⟨rfl, rfl⟩
  · by_cases h18 : 18 < s.size
    · have e : wholeD s.data.toList = none := by unfold wholeD; rw [if_pos (.inr (by omega))]
      rw [e]
      have h1' : ¬ (s.size : Int) < 1 := by omega
      have h2' : (18 : Int) < (s.size : Int) := by omega
      clear hsz h1 h18 e
      go_enter Tryd.func18, Tryd.ntmps18
      go_wp2
      go_ret2
      exact ⟨rfl, rfl⟩
    · have HS := Lib.hid hsz
      have h1' : ¬ (s.size : Int) < 1 := by omega
      have h2' : ¬ (18 : Int) < (s.size : Int) := by omega
      have HW : Hid (wholeD s.data.toList = if s.data.toList.all isDig then some (valL s.data.toList) else none) := Lib.hid (by unfold wholeD; rw [if_neg (by omega)])
      clear hsz
      go_enter Tryd.func18, Tryd.ntmps18
      go_wp2
      go_loop [4, 5] (fun a b => ∃ (k v : Nat), k ≤ s.size ∧ a = .int .i64 (v : Int) ∧ b = .int .i64 (k : Int) ∧ Hid (v = valL (s.data.toList.take k)) ∧ Hid (∀ x ∈ s.data.toList.take k, isDig x = true)) (fun _ b => s.size - (RowKit.intOf b).toNat)
      case atStart => exact ⟨0, 0, Nat.zero_le _, rfl, rfl, Lib.hid rfl, Lib.hid (by simp)⟩
      case round =>
        obtain ⟨k, v, hk, rfl, rfl, hv, hd⟩ := hrel
        by_cases hlt : k < s.size
        · have hxg : Hid (s.data.toList.take (k + 1) = s.data.toList.take k ++ [s[k]]) := Lib.hid (by
            rw [List.take_add_one, List.getElem?_eq_getElem (show k < s.data.toList.length by rw [HS.out]; exact hlt)]
            rfl)
          have hmem : Hid (s[k] ∈ s.data.toList) := Lib.hid (by
            have : s.data.toList[k]'(by rw [HS.out]; exact hlt) ∈ s.data.toList := List.getElem_mem _
            exact this)
          obtain ⟨C, hC⟩ : ∃ C : Nat, (s[k]).toNat = C := ⟨_, rfl⟩
          have hC2 : ((s[k]).toNat : Int) = (C : Int) := by rw [hC]
          have hC3 : (C : Int) ≤ 255 := by have := (s[k]).toNat_lt; omega
          have HC := Lib.hid hC
          have hvb : (v : Int) < 100000000000000000 := by
            have h3 := valL_lt _ hd.out
            rw [← hv.out, List.length_take, HS.out, Nat.min_eq_left (by omega)] at h3
            have := pow_le17 (show k ≤ 17 by omega)
            omega
          clear hC
          by_cases g1 : (C : Int) < 48
          · have E : Hid (wholeD s.data.toList = none) := Lib.hid (by
              rw [HW.out, if_neg]
              intro h
              have := List.all_eq_true.1 h _ hmem.out
              simp only [isDig, decide_eq_true_eq, HC.out] at this
              omega)
            go_wp2
            go_ret2
            rw [E.out]
            exact ⟨rfl, rfl⟩
          · by_cases g2 : (57 : Int) < (C : Int)
            · have E : Hid (wholeD s.data.toList = none) := Lib.hid (by
                rw [HW.out, if_neg]
                intro h
                have := List.all_eq_true.1 h _ hmem.out
                simp only [isDig, decide_eq_true_eq, HC.out] at this
                omega)
              go_wp2
              go_ret2
              rw [E.out]
              exact ⟨rfl, rfl⟩
            · have HV : Hid (v * 10 + (C - 48) = valL (s.data.toList.take (k + 1))) := Lib.hid (by rw [hxg.out, valL_snoc, ← hv.out, HC.out])
              have HDG : Hid (∀ x ∈ s.data.toList.take (k + 1), isDig x = true) := Lib.hid (by
                rw [hxg.out]
                intro x hx
                rcases List.mem_append.1 hx with h | h
                · exact hd.out x h
                · rw [List.mem_singleton.1 h]
                  simp only [isDig, decide_eq_true_eq, HC.out]
                  omega)
              go_wp2
              go_round
              case rel => exact ⟨k + 1, v * 10 + (C - 48), by omega, by congr 1; omega, by go_num, HV, HDG⟩
              case measure => simp [RowKit.intOf]; omega
        · have hkl : k = s.size := by omega
          have hE : Hid (wholeD s.data.toList = some v) := Lib.hid (by
            have ht : s.data.toList.take k = s.data.toList := List.take_of_length_le (by rw [HS.out]; omega)
            have h3 := hd.out
            have h4 := hv.out
            rw [ht] at h3 h4
            rw [HW.out, if_pos (List.all_eq_true.2 h3), ← h4])
          go_wp2
          go_ret2
          rw [hE.out]
          exact ⟨rfl, rfl⟩
theorem idx_list (s : ByteArray) (k : Nat) (h : k < s.size) : s.data.toList.getD k 0 = s[k] := by
  rw [List.getD, List.getElem?_eq_getElem (show k < s.data.toList.length by rw [← size_of]; exact h)]; rfl
theorem cells2 (w : World) (t : TypeId) (a b : Value) : (w.alloc (.cells #[a, b] t)).cell? ⟨w.heap.size, 0, none⟩ = some a ∧ (w.alloc (.cells #[a, b] t)).cell? ⟨w.heap.size, 1, none⟩ = some b := by
  have h := heap_alloc_new w (.cells #[a, b] t)
  unfold World.cell?
  rw [h]
  exact ⟨rfl, rfl⟩
end Go.Proofs.YtfmhdkemigpjjaaDoor.Rec
