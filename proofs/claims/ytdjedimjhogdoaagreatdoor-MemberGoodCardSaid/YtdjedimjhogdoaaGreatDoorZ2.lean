import Derived.Test.YtdjedimjhogdoaaGreatDoorZ1
import Derived.Laws.AppendOwn
import Derived.OwnWalk
import Derived.Deep.RegionHeldLaw
import Derived.Lib.ParseIntB
import Derived.Lib.AtoiTie
import Derived.Lib.ItoaNum
import Derived.Lib.IndexLaws
import Derived.Lib.AtoiAll
import Derived.Lib.SlTrimSet
import Derived.Laws.AppendOwnNone
import Derived.RangeFuncNested
import Derived.BigRegion
import Derived.Deep.DeepAppendRoom
import Derived.Laws.StructEq
section
namespace Go.Proofs.YtdjedimjhogdoaaGreatDoor.Rec
open Go.ChangeShapes Go.WideShapes Go.ChangeAt Go.RowKit Go.Proofs.YtdjedimjhogdoaaGreatDoor.Base Go.Proofs.YtdjedimjhogdoaaGreatDoor.Byt Go.Proofs.YtdjedimjhogdoaaGreatDoor.Txt Go.Proofs.YtdjedimjhogdoaaGreatDoor.Path Go.Lib
set_option linter.unusedVariables false
set_option maxRecDepth 100000

theorem dec_any (n : Nat) (w : World) (hn : n < 1000000000000000000) :
    Calls Tryz.prog 27 #[.int .i64 (n : Int)] w fun e w' => e = .returned (.string (str (decL n))) ∧ Below w.heap.size w w' := by
  have hd := dec_le n 18 (by omega) hn
  by_cases h0 : n = 0
  · subst h0
    have e : str (decL 0) = ⟨#[48]⟩ := by rw [decL_small (by omega)]; rfl
    rw [e]
    clear hd e
    go_enter Tryz.func27, Tryz.ntmps27
    go_wp2
    go_ret
    exact ⟨rfl, Below.refl _ _⟩
  · have hb : ((n : Int) == 0) = false := by rw [beq_eq_false_iff_ne]; omega
    have HD := Lib.hid hd
    clear hd
    go_enter Tryz.func27, Tryz.ntmps27
    go_wp2
    go_loopw [0, 3] (fun a b wr => ∃ (m : Nat) (s : List UInt8), m ≤ n ∧ a = .int .i64 (m : Int) ∧ b = .string (str s) ∧ Hid (decL n = (if m = 0 then [] else decL m) ++ s) ∧ Hid (Below w.heap.size w wr)) (fun a _ _ => (RowKit.intOf a).toNat)
    case atStart => exact ⟨n, [], Nat.le_refl _, rfl, rfl, Lib.hid (by rw [if_neg h0, List.append_nil]), Lib.hid (Below.refl _ _)⟩
    case round =>
      obtain ⟨m, s, hmn, rfl, rfl, hs, hB⟩ := hrel
      by_cases hm : m = 0
      · subst hm
        have hE : Hid (decL n = s) := Lib.hid (by have := hs.out; rwa [if_pos rfl, List.nil_append] at this)
        have hz : ¬ ((0 : Int) < ((0 : Nat) : Int)) := by omega
        go_wp2
        go_ret
        rw [hE.out]
        exact ⟨rfl, hB.out⟩
      · have hz : (0 : Int) < (m : Int) := by omega
        have hnx : decL n = (if m / 10 = 0 then [] else decL (m / 10)) ++ digC m :: s := by
          have := hs.out
          rw [if_neg hm] at this
          rw [this, dec_step m hm s]
        have hsl : (str s).size ≤ 18 := by
          rw [str_size]
          have h1 := congrArg List.length hnx
          rw [List.length_append, List.length_cons] at h1
          have := HD.out
          omega
        have hsl2 : (str [digC m]).size + (str s).size ≤ 9223372036854775807 := by rw [str_size]; simp; omega
        have HN := Lib.hid hnx
        have cs : (convert 22 9 (.slice (some ⟨wr.heap.size, 0, none⟩) 1 1)).run Tryz.prog (wr.alloc (.cells #[.int .u8 (48 + (m : Int) % 10)] 5)) = .ok (.string (str [digC m])) (wr.alloc (.cells #[.int .u8 (48 + (m : Int) % 10)] 5)) :=
          conv_at (byte_bat wr _ (digC m) _ (by rw [digC_nat]; omega)) rfl _ _ _ Tryz.underlying22 Tryz.underlying5 Tryz.underlying9 _
        clear hnx
        have HE := Lib.hid (str_app [digC m] s)
        go_wp2
        refine ⟨⟨m / 10, digC m :: s, by omega, by congr 1, by rw [HE.out]; rfl, HN, Lib.hid (hB.out.alloc hB.out.size _)⟩, ?_⟩
        simp [RowKit.intOf]
        omega
/-- a whole number's answer -/
def wholeV (r : Option Nat) : Value := match r with
  | some n => .tuple #[.int .i64 (n : Int), .bool true]
  | none => .tuple #[.int .i64 0, .bool false]
theorem pow_le17 {k : Nat} (hk : k ≤ 17) : 10 ^ k ≤ 100000000000000000 := Nat.pow_le_pow_right (by omega) hk
theorem whole_any (s : ByteArray) (w : World) : Calls Tryz.prog 57 #[.string s] w fun e w' => e = .returned (wholeV (wholeD s.data.toList)) ∧ w = w' := by
  have hsz : s.data.toList.length = s.size := (size_of s).symm
  by_cases h1 : s.size < 1
  · have e : wholeD s.data.toList = none := by unfold wholeD; rw [if_pos (.inl (by omega))]
    rw [e]
    have h1' : (s.size : Int) < 1 := by omega
    clear hsz h1 e
    go_enter Tryz.func57, Tryz.ntmps57
    go_wp2
    go_ret2
    exact ⟨rfl, rfl⟩
  · by_cases h18 : 18 < s.size
    · have e : wholeD s.data.toList = none := by unfold wholeD; rw [if_pos (.inr (by omega))]
      rw [e]
      have h1' : ¬ (s.size : Int) < 1 := by omega
      have h2' : (18 : Int) < (s.size : Int) := by omega
      clear hsz h1 h18 e
      go_enter Tryz.func57, Tryz.ntmps57
      go_wp2
      go_ret2
      exact ⟨rfl, rfl⟩
    · have HS := Lib.hid hsz
      have h1' : ¬ (s.size : Int) < 1 := by omega
      have h2' : ¬ (18 : Int) < (s.size : Int) := by omega
      have HW : Hid (wholeD s.data.toList = if s.data.toList.all isDig then some (valL s.data.toList) else none) := Lib.hid (by unfold wholeD; rw [if_neg (by omega)])
      clear hsz
      go_enter Tryz.func57, Tryz.ntmps57
      go_wp2
      go_loop [4, 5] (fun a b => ∃ (k v : Nat), k ≤ s.size ∧ a = .int .i64 (v : Int) ∧ b = .int .i64 (k : Int) ∧ Hid (v = valL (s.data.toList.take k)) ∧ Hid (∀ x ∈ s.data.toList.take k, isDig x = true)) (fun _ b => s.size - (RowKit.intOf b).toNat)
      case atStart => exact ⟨0, 0, Nat.zero_le _, rfl, rfl, Lib.hid rfl, Lib.hid (by simp)⟩
      case round =>
        obtain ⟨k, v, hk, rfl, rfl, hv, hd⟩ := hrel
        by_cases hlt : k < s.size
        · have hxg : Hid (s.data.toList.take (k + 1) = s.data.toList.take k ++ [s[k]]) := Lib.hid (by
            rw [List.take_add_one, List.getElem?_eq_getElem (show k < s.data.toList.length by rw [HS.out]; exact hlt)]
            rfl)
          have hmem : Hid (s[k] ∈ s.data.toList) := Lib.hid (by
            have : s.data.toList[k]'(by rw [HS.out]; exact hlt) ∈ s.data.toList := List.getElem_mem _
            exact this)
          obtain ⟨C, hC⟩ : ∃ C : Nat, (s[k]).toNat = C := ⟨_, rfl⟩
          have hC2 : ((s[k]).toNat : Int) = (C : Int) := by rw [hC]
          have hC3 : (C : Int) ≤ 255 := by have := (s[k]).toNat_lt; omega
          have HC := Lib.hid hC
          have hvb : (v : Int) < 100000000000000000 := by
            have h3 := valL_lt _ hd.out
            rw [← hv.out, List.length_take, HS.out, Nat.min_eq_left (by omega)] at h3
            have := pow_le17 (show k ≤ 17 by omega)
            omega
          clear hC
          by_cases g1 : (C : Int) < 48
          · have E : Hid (wholeD s.data.toList = none) := Lib.hid (by
              rw [HW.out, if_neg]
              intro h
              have := List.all_eq_true.1 h _ hmem.out
              simp only [isDig, decide_eq_true_eq, HC.out] at this
              omega)
            go_wp2
            go_ret2
            rw [E.out]
            exact ⟨rfl, rfl⟩
          · by_cases g2 : (57 : Int) < (C : Int)
            · have E : Hid (wholeD s.data.toList = none) := Lib.hid (by
                rw [HW.out, if_neg]
                intro h
                have := List.all_eq_true.1 h _ hmem.out
                simp only [isDig, decide_eq_true_eq, HC.out] at this
                omega)
              go_wp2
              go_ret2
              rw [E.out]
              exact ⟨rfl, rfl⟩
            · have HV : Hid (v * 10 + (C - 48) = valL (s.data.toList.take (k + 1))) := Lib.hid (by rw [hxg.out, valL_snoc, ← hv.out, HC.out])
              have HDG : Hid (∀ x ∈ s.data.toList.take (k + 1), isDig x = true) := Lib.hid (by
                rw [hxg.out]
                intro x hx
                rcases List.mem_append.1 hx with h | h
                · exact hd.out x h
                · rw [List.mem_singleton.1 h]
                  simp only [isDig, decide_eq_true_eq, HC.out]
                  omega)
              go_wp2
              go_round
              case rel => exact ⟨k + 1, v * 10 + (C - 48), by omega, by congr 1; omega, by go_num, HV, HDG⟩
              case measure => simp [RowKit.intOf]; omega
        · have hkl : k = s.size := by omega
          have hE : Hid (wholeD s.data.toList = some v) := Lib.hid (by
            have ht : s.data.toList.take k = s.data.toList := List.take_of_length_le (by rw [HS.out]; omega)
            have h3 := hd.out
            have h4 := hv.out
            rw [ht] at h3 h4
            rw [HW.out, if_pos (List.all_eq_true.2 h3), ← h4])
          go_wp2
          go_ret2
          rw [hE.out]
          exact ⟨rfl, rfl⟩
theorem idx_list (s : ByteArray) (k : Nat) (h : k < s.size) : s.data.toList.getD k 0 = s[k] := by
  rw [List.getD, List.getElem?_eq_getElem (show k < s.data.toList.length by rw [← size_of]; exact h)]; rfl
theorem cells2 (w : World) (t : TypeId) (a b : Value) : (w.alloc (.cells #[a, b] t)).cell? ⟨w.heap.size, 0, none⟩ = some a ∧ (w.alloc (.cells #[a, b] t)).cell? ⟨w.heap.size, 1, none⟩ = some b := by
  have h := heap_alloc_new w (.cells #[a, b] t)
  unfold World.cell?
  rw [h]
  exact ⟨rfl, rfl⟩
end Go.Proofs.YtdjedimjhogdoaaGreatDoor.Rec
end
section
namespace Go.Proofs.YtdjedimjhogdoaaGreatDoor.Rec
open Go.ChangeShapes Go.WideShapes Go.ChangeAt Go.RowKit Go.Proofs.YtdjedimjhogdoaaGreatDoor.Base Go.Proofs.YtdjedimjhogdoaaGreatDoor.Byt Go.Proofs.YtdjedimjhogdoaaGreatDoor.Txt Go.Proofs.YtdjedimjhogdoaaGreatDoor.Path Go.Lib
set_option linter.unusedVariables false
set_option maxRecDepth 100000

set_option maxHeartbeats 1000000 in
theorem line_any (k v : List UInt8) (w : World) (hkv : k.length + v.length ≤ 1000000000000) :
    Calls Tryz.prog 25 #[.agg #[.string (str k), .string (str v)]] w fun e w' => e = .returned (.string (str (lineD k v))) ∧ Below w.heap.size w w' := by
  obtain ⟨n1, hn1⟩ : ∃ n, (str k).size = n := ⟨_, rfl⟩
  obtain ⟨n2, hn2⟩ : ∃ n, (str v).size = n := ⟨_, rfl⟩
  have m1 : k.length = n1 := by rw [← hn1, str_size]
  have m2 : v.length = n2 := by rw [← hn2, str_size]
  have hbd : (⟨#[32]⟩ : ByteArray) ++ str k ++ ⟨#[61]⟩ ++ str v ++ ⟨#[10]⟩ = str (bodyD k v) := by
    rw [show (⟨#[32]⟩ : ByteArray) = str [32] from rfl, show (⟨#[61]⟩ : ByteArray) = str [61] from rfl, show (⟨#[10]⟩ : ByteArray) = str [10] from rfl, str_app, str_app, str_app, str_app]
    simp [bodyD]
  have s1 : 1 + n1 ≤ 9223372036854775807 := by omega
  have s2 : 1 + n1 + 1 ≤ 9223372036854775807 := by omega
  have s3 : 1 + n1 + 1 + n2 ≤ 9223372036854775807 := by omega
  have s4 : 1 + n1 + 1 + n2 + 1 ≤ 9223372036854775807 := by omega
  obtain ⟨B, hB⟩ : ∃ B, B = str (bodyD k v) := ⟨_, rfl⟩
  obtain ⟨m, hm⟩ : ∃ m, m = (bodyD k v).length := ⟨_, rfl⟩
  have hBs : B.size = m := by rw [hB, str_size, hm]
  have hm2 : m = n1 + n2 + 3 := by rw [hm, bodyD_length, m1, m2]
  rw [← hB] at hbd
  have HL : Hid (str (lineD k v) = str (decL (lineN m)) ++ B) := Lib.hid (by rw [hB, str_app, lineD, hm])
  have HLN := Lib.hid (lineN_ge m)
  have HLE := Lib.hid (lineN_eq m (by omega))
  have HD : Hid ((decL m).length ≤ 18) := Lib.hid (dec_le m 18 (by omega) (by omega))
  have HM2 := Lib.hid hm2
  have hmb : (m : Int) ≤ 1000000000003 := by omega
  obtain ⟨c0, c1⟩ := cells2 w 53 (.string (str k)) (.string (str v))
  have hbel : Hid (Below w.heap.size w (w.alloc (.cells #[.string (str k), .string (str v)] 53))) := Lib.hid ((Below.refl _ _).alloc (Nat.le_refl _) _)
  clear m1 m2 hB hm hm2 hkv
  go_enter Tryz.func25, Tryz.ntmps25
  go_wp2_with fail
  clear s1 s2 s3 s4 c0 c1 hn1 hn2
  go_loopw [4] (fun i wr => ∃ (n : Nat), m ≤ n ∧ n ≤ lineN m ∧ i = .int .i64 (n : Int) ∧ Hid (Below w.heap.size w wr)) (fun i _ => lineN m - (RowKit.intOf i).toNat)
  case atStart => exact ⟨m, Nat.le_refl _, HLN.out.1, by first | rfl | (congr 1; omega) | (simp; omega), hbel⟩
  case round =>
    obtain ⟨n, hmn, hnl, rfl, hB⟩ := hrel
    have hb := HLN.out.2
    have hd := HD.out
    have hn18 : n < 1000000000000000000 := by omega
    have hn64 : (n : Int) < 1000000000000000000 := by omega
    obtain ⟨d, hdl⟩ : ∃ d, (str (decL n)).size = d := ⟨_, rfl⟩
    have hdl2 : (decL n).length = d := by rw [← hdl, str_size]
    have hdb : d ≤ 18 := by rw [← hdl2]; exact dec_le n 18 (by omega) hn18
    have HDL := Lib.hid hdl2
    have HN := Lib.hid (And.intro hmn hnl)
    have HN18 := Lib.hid hn18
    clear hmn hnl hb hd hdl2 hn18
    by_cases he : n = lineN m
    · have hE : Hid (d + m = n) := Lib.hid (by rw [← HDL.out, he]; exact HLE.out)
      have ht : ((d : Int) + (m : Int) != (n : Int)) = false := by have := hE.out; simp; omega
      have HE := Lib.hid he
      clear he
      go_wp2_with fail
      refine (dec_any n wr HN18.out).mono ?_
      rintro e w1 ⟨rfl, hb1⟩
      have HB1 := Lib.hid (hB.out.trans (hb1.mono hB.out.size))
      clear hb1
      have hss : d + m ≤ 9223372036854775807 := by omega
      go_wp2_with fail
      refine (dec_any n w1 HN18.out).mono ?_
      rintro e w2 ⟨rfl, hb2⟩
      have HB2 := Lib.hid (HB1.out.trans (hb2.mono HB1.out.size))
      clear hb2
      go_wp2
      go_ret
      rw [HL.out, ← HE.out]
      exact ⟨rfl, HB2.out⟩
    · have hlt : Hid (n < lineN m) := Lib.hid (by have := HN.out.2; omega)
      have ht : ((d : Int) + (m : Int) != (n : Int)) = true := by
        have := lineN_least m n HN.out.1 hlt.out
        rw [HDL.out] at this
        simp; omega
      clear he
      go_wp2_with fail
      refine (dec_any n wr HN18.out).mono ?_
      rintro e w1 ⟨rfl, hb1⟩
      have HB1 := Lib.hid (hB.out.trans (hb1.mono hB.out.size))
      clear hb1
      go_wp2
      have h1 := HN.out
      have h2 := hlt.out
      have h3 := HN18.out
      first
        | (refine ⟨⟨n + 1, by omega, by omega, by go_num, HB1⟩, ?_⟩; simp [RowKit.intOf]; omega)
        | (go_roundw
           case rel => exact ⟨n + 1, by omega, by omega, by go_num, HB1⟩
           case measure => simp [RowKit.intOf]; omega)
end Go.Proofs.YtdjedimjhogdoaaGreatDoor.Rec
end
section
namespace Go.Proofs.YtdjedimjhogdoaaGreatDoor.Rec
open Go.ChangeShapes Go.WideShapes Go.ChangeAt Go.RowKit Go.Proofs.YtdjedimjhogdoaaGreatDoor.Base Go.Proofs.YtdjedimjhogdoaaGreatDoor.Byt Go.Proofs.YtdjedimjhogdoaaGreatDoor.Txt Go.Proofs.YtdjedimjhogdoaaGreatDoor.Path Go.Lib
set_option linter.unusedVariables false
set_option maxRecDepth 100000

/-- records' cells, one behind the other -/
def flatR (rs : List (List UInt8 × List UInt8)) : List Value := rs.flatMap fun r => [.string (str r.1), .string (str r.2)]
theorem flatR_length (rs : List (List UInt8 × List UInt8)) : (flatR rs).length = 2 * rs.length := by
  induction rs with
  | nil => rfl
  | cons r rs ih => simp only [flatR, List.flatMap_cons, List.length_append, List.length_cons, List.length_nil] at ih ⊢; omega
theorem flatR_snoc (rs : List (List UInt8 × List UInt8)) (k v : List UInt8) : flatR (rs ++ [(k, v)]) = flatR rs ++ [.string (str k), .string (str v)] := by simp [flatR]
theorem flatR_get (rs : List (List UInt8 × List UInt8)) : ∀ i, i < rs.length → (flatR rs)[2 * i]? = some (.string (str (rs.getD i ([], [])).1)) ∧ (flatR rs)[2 * i + 1]? = some (.string (str (rs.getD i ([], [])).2)) := by
  induction rs with
  | nil => intro i h; simp at h
  | cons r rs ih =>
    intro i h
    cases i with
    | zero => exact ⟨rfl, rfl⟩
    | succ i =>
      have := ih i (by simpa using h)
      have e : flatR (r :: rs) = .string (str r.1) :: .string (str r.2) :: flatR rs := rfl
      rw [e, show 2 * (i + 1) = 2 * i + 1 + 1 by omega]
      simpa using this
/-- the n records at p are rs -/
def RecsAt (w : World) (p : Option Addr) (n : Nat) (rs : List (List UInt8 × List UInt8)) : Prop :=
  rs.length = n ∧ (0 < n → ∃ b o, p = some ⟨b, o, none⟩ ∧ b < w.heap.size ∧ ∀ i, i < n → w.cell? ⟨b, o + 2 * i, none⟩ = some (.string (str (rs.getD i ([], [])).1)) ∧ w.cell? ⟨b, o + 2 * i + 1, none⟩ = some (.string (str (rs.getD i ([], [])).2)))
theorem RecsAt.below {w w' : World} {p : Option Addr} {n : Nat} {rs : List (List UInt8 × List UInt8)} (h : RecsAt w p n rs) (hb : Below w.heap.size w w') : RecsAt w' p n rs := by
  refine ⟨h.1, fun h0 => ?_⟩
  obtain ⟨b, o, rfl, hbw, hc⟩ := h.2 h0
  refine ⟨b, o, rfl, Nat.lt_of_lt_of_le hbw hb.size, fun i hi => ⟨?_, ?_⟩⟩
  · rw [hb.cell (p := ⟨b, o + 2 * i, none⟩) hbw]; exact (hc i hi).1
  · rw [hb.cell (p := ⟨b, o + 2 * i + 1, none⟩) hbw]; exact (hc i hi).2
/-- what the call made itself -/
theorem recs_own {w : World} {base : Nat} {e : TypeId} {v : Value} {rs : List (List UInt8 × List UInt8)} (h : w.ownsRow base e 2 v rs.length (flatR rs)) : ∃ p c, v = .slice p rs.length c ∧ rs.length ≤ c ∧ c ≤ maxLen ∧ RecsAt w p rs.length rs := by
  rcases h.2 with ⟨rfl, h0⟩ | ⟨g, cap, cur, rfl, hb, hg, hn, hc, hs, ht⟩
  · exact ⟨none, 0, by rw [h0], by omega, by decide, rfl, fun h => by omega⟩
  · refine ⟨some ⟨g, 0, none⟩, cap, rfl, hn, hc, rfl, fun h0 => ⟨g, 0, rfl, (Array.getElem?_eq_some_iff.1 hg).1, fun i hi => ?_⟩⟩
    have get : ∀ j, j < 2 * rs.length → w.cell? ⟨g, j, none⟩ = (flatR rs)[j]? := fun j hj => by
      unfold World.cell?
      rw [hg, ← ht, List.getElem?_take, if_pos (by omega)]
      simp
    obtain ⟨g1, g2⟩ := flatR_get rs i hi
    rw [Nat.zero_add]
    exact ⟨by rw [get _ (by omega)]; exact g1, by rw [get _ (by omega)]; exact g2⟩
theorem infoRec : (Tryz.prog.info? 53).map (fun i => (i.zero, i.size, i.bytes)) = some (some (.agg #[.string ⟨#[]⟩, .string ⟨#[]⟩]), 2, 32) := by kernel_rfl
/-- so many digits stand at the beginning -/
theorem digN_is (l : List UInt8) : ∀ k, k ≤ l.length → (∀ j, j < k → isDig (l.getD j 0) = true) → (k = l.length ∨ isDig (l.getD k 0) = false) → digN l = k := by
  unfold digN
  induction l with
  | nil => intro k h _ _; simp at h; simp [h]
  | cons b l ih =>
    intro k hk hd he
    cases k with
    | zero =>
      rcases he with h | h
      · simp at h
      · rw [List.takeWhile_cons, show isDig b = false from h]; rfl
    | succ k =>
      have hb : isDig b = true := hd 0 (by omega)
      rw [List.takeWhile_cons, hb, if_pos rfl, List.length_cons, ih k (by simpa using hk) (fun j hj => by simpa using hd (j + 1) (by omega)) (by simpa using he)]
theorem mem_tw (l : List UInt8) : ∀ b ∈ l.takeWhile isDig, isDig b = true := by
  induction l with
  | nil => simp
  | cons c l ih =>
    intro b hb
    rw [List.takeWhile_cons] at hb
    split at hb
    · next h =>
      rcases List.mem_cons.1 hb with rfl | h1
      · exact h
      · exact ih b h1
    · cases hb
theorem digN_take (l : List UInt8) : digN l ≤ l.length ∧ ∀ b ∈ l.take (digN l), isDig b = true := by
  unfold digN
  have hp : l.takeWhile isDig <+: l := List.takeWhile_prefix _
  refine ⟨hp.length_le, fun b hb => ?_⟩
  rw [← List.prefix_iff_eq_take.1 hp] at hb
  exact mem_tw l b hb
/-- append of records to a row of the call's own, as one step of a region that draws its order -/
theorem step_append_own {P : Program} {w : World} {ops : Array Oper} {o : Oper} {a : Act} {K : Act → World → Prop} {Q : Exit → Act → World → Prop} {E : Prop} (hw : Region.wanted o (yielded ops a.tmps) = true) (s x : Operand) (t : TypeId)
    (ho : o.op = .call { callee := .builtin .append, args := #[s, x], argTypes := #[t, t] })
    (base : Nat) (e : TypeId) (i : TypeInfo) (z : Value) (size bytes : Nat) (ht : P.underlying t = some (.slice e)) (hi : P.info? e = some i) (hz : i.zero = some z)
    (hsize : i.size = size) (hby : i.bytes = bytes) (hzs : z.cells.size = size) (hsz : 0 < size)
    (v : Value) (n : Nat) (xs : List Value) (hs : a.eval s = v) (hown : w.ownsRow base e size v n xs)
    (ad : Addr) (m c : Nat) (news : List Value) (hx : a.eval x = .slice (some ad) m c) (hl : news.length = m * size) (hnews : ∀ j u, news[j]? = some u → w.cell? (ad.add j) = some u) (h1 : ∀ u ∈ news, u.oneCell' = true)
    (h63 : n + m ≤ maxLen) (hbytes : (n + m) * bytes ≤ 140737488355328) (hbase : base ≤ w.heap.size)
    (h : ∀ v' w', w'.ownsRow base e size v' (n + m) (xs ++ news) → w.grownBy w' v.ownBlock → (v' = .slice none 0 0 ↔ v = .slice none 0 0 ∧ m = 0) → K (a.put o.dst v') w') :
    if Region.wanted o (yielded ops a.tmps) = true then Oper.wp P o a w K Q else E := by
  rw [if_pos hw]
  exact wp_append_own w s x t ho base e i z size bytes ht hi hz hsize hby hzs hsz v n xs hs hown ad m c news hx hl hnews h1 h63 hbytes hbase h
end Go.Proofs.YtdjedimjhogdoaaGreatDoor.Rec
end
section
namespace Go.Proofs.YtdjedimjhogdoaaGreatDoor.Rec
open Go.Lib Go.Proofs.YtdjedimjhogdoaaGreatDoor.Path
set_option linter.unusedVariables false

/-- a numeral's digits, as strconv has them -/
theorem dec_decL (u : Nat) : decDigits u = decL u := by
  induction u using Nat.strongRecOn with
  | ind u ih =>
    by_cases h : u < 10
    · rw [decDigits, dif_pos h, decL_small h, digC, Nat.mod_eq_of_lt h]
    · rw [decDigits, dif_neg h, decL_great h, ih _ (by omega)]
      rfl
theorem itoa_decL (u : Nat) : itoa (u : Int) = decL u := by
  unfold itoa
  rw [if_neg (by omega), Int.toNat_natCast, dec_decL]
/-- what ParseUint says of few bytes -/
theorem parseM_few (l : List UInt8) : ∀ acc k, acc < 10 ^ k → k + l.length ≤ 18 → parseUintM (2 ^ 64 - 1) acc l = if l.all isDig then .ok (l.foldl (fun n b => n * 10 + (b.toNat - 48)) acc) else NumEnd.ofOption none := by
  induction l with
  | nil => intro acc k _ _; rfl
  | cons c r ih =>
    intro acc k h1 h2
    rw [List.length_cons] at h2
    have hp : 10 ^ k ≤ 10 ^ 17 := Nat.pow_le_pow_right (by omega) (by omega)
    have hp2 : (10 : Nat) ^ 17 = 100000000000000000 := by decide
    rw [hp2] at hp
    rw [parseUintM, List.all_cons, List.foldl_cons]
    by_cases hc : 48 ≤ c.toNat ∧ c.toNat ≤ 57
    · have hd : isDig c = true := by simp [isDig, hc]
      rw [if_pos hc, if_neg (by omega), if_neg (by have : (2 : Nat) ^ 64 - 1 = 18446744073709551615 := by decide
                                                   omega), hd, Bool.true_and]
      exact ih _ (k + 1) (by rw [Nat.pow_succ]; omega) (by omega)
    · have hd : isDig c = false := by simp [isDig]; omega
      rw [if_neg hc, hd]
      rfl
theorem parse_few (l : List UInt8) (h1 : 1 ≤ l.length) (h2 : l.length ≤ 18) : parseUintB 64 l = if l.all isDig then .ok (valL l) else NumEnd.ofOption none := by
  unfold parseUintB
  rw [if_neg (by rintro rfl; simp at h1), parseM_few l 0 0 (by decide) (by omega)]
  rfl
/-- what up to seven digits say, if they may begin a line -/
def numD (l : List UInt8) : Option Nat := if l.length < 1 ∨ 7 < l.length ∨ l.getD 0 0 = 48 then none else if l.all isDig then some (valL l) else none
theorem numD_some {l : List UInt8} {m : Nat} (h : numD l = some m) : 1 ≤ l.length ∧ l.length ≤ 7 ∧ l.getD 0 0 ≠ 48 ∧ (∀ b ∈ l, isDig b = true) ∧ m = valL l ∧ m < 10000000 := by
  unfold numD at h
  split at h
  · cases h
  · next h1 =>
    split at h
    · next h2 =>
      cases h
      have h3 := List.all_eq_true.1 h2
      refine ⟨by omega, by omega, fun e => h1 (.inr (.inr e)), h3, rfl, ?_⟩
      have h4 := valL_lt l h3
      have h5 : 10 ^ l.length ≤ 10 ^ 7 := Nat.pow_le_pow_right (by omega) (by omega)
      have h6 : (10 : Nat) ^ 7 = 10000000 := by decide
      omega
    · cases h
/-- the first line, cut off: what stands between its blank and its last byte, and how many bytes it has -/
def cutD (l : List UInt8) : Option (List UInt8 × Nat) :=
  if indexByte l 32 < 0 then none
  else match numD (l.take (indexByte l 32).toNat) with
  | none => none
  | some m =>
    if m < (indexByte l 32).toNat + 4 ∨ l.length < m ∨ l.getD (m - 1) 0 ≠ 10 then none
    else some ((l.drop ((indexByte l 32).toNat + 1)).take (m - 1 - ((indexByte l 32).toNat + 1)), m)
theorem digN_blank (l : List UInt8) (i : Nat) (hi : indexByte l 32 = i) : i < l.length ∧ l.getD i 0 = 32 ∧ (∀ j, j < i → l.getD j 0 ≠ 32) := by
  have h1 := Lib.indexByte_some hi
  have h2 := (List.getElem?_eq_some_iff.1 h1.1).1
  refine ⟨h2, by rw [List.getD, h1.1]; rfl, fun j hj e => ?_⟩
  have h3 := h1.2 j hj
  have h4 : j < l.length := by omega
  rw [List.getD, List.getElem?_eq_getElem h4] at e
  rw [List.getElem?_eq_getElem h4] at h3
  exact h3 (by rw [← e]; rfl)
theorem recStep_cutD (R T : Int) (l : List UInt8) : recStep R T l = match cutD l with
    | none => .error R
    | some (t, m) => if indexByte t 61 < 1 then .error R else if textD t = false then .error T else .ok (t.take (indexByte t 61).toNat, t.drop ((indexByte t 61).toNat + 1), m) := by
  obtain ⟨hN, hD⟩ := digN_take l
  unfold cutD
  by_cases h0 : indexByte l 32 < 0
  · rw [if_pos h0]
    simp only
    unfold recStep
    rw [if_pos]
    have hn : indexByte l 32 = -1 := by have := Lib.indexByte_ge l 32; omega
    by_cases hl : digN l = l.length
    · exact .inr (.inr (.inr (.inl hl)))
    · refine .inr (.inr (.inr (.inr fun e => ?_)))
      have hc : l.contains 32 = false := by rw [← Txt.index_has, decide_eq_false (by omega)]
      exact Txt.has_false hc (digN l) (by omega) e
  · rw [if_neg h0]
    obtain ⟨i, hi⟩ : ∃ i : Nat, indexByte l 32 = i := ⟨(indexByte l 32).toNat, by omega⟩
    obtain ⟨hil, hi32, hbef⟩ := digN_blank l i hi
    rw [hi, Int.toNat_natCast]
    have htl : (l.take i).length = i := by rw [List.length_take]; omega
    have hgt : ∀ j, j < i → (l.take i).getD j 0 = l.getD j 0 := fun j hj => by
      rw [List.getD, List.getD, List.getElem?_take, if_pos hj]
    cases hnum : numD (l.take i) with
    | none =>
      simp only
      unfold recStep
      rw [if_pos]
      by_cases ha : (l.take i).all isDig = true
      · have hdi : digN l = i := digN_is l i (by omega) (fun j hj => by
          rw [← hgt j hj]
          have : j < (l.take i).length := by omega
          rw [List.getD, List.getElem?_eq_getElem this]
          exact List.all_eq_true.1 ha _ (List.getElem_mem this)) (.inr (by rw [hi32]; decide))
        unfold numD at hnum
        rw [ha, if_pos rfl, htl] at hnum
        by_cases hc : i < 1 ∨ 7 < i ∨ (l.take i).getD 0 0 = 48
        · rw [hdi]
          rcases hc with h | h | h
          · exact .inl h
          · exact .inr (.inl h)
          · by_cases hi1 : i < 1
            · exact .inl hi1
            · rw [hgt 0 (by omega)] at h
              exact .inr (.inr (.inl h))
        · rw [if_neg hc] at hnum
          cases hnum
      · -- a byte ahead of the blank is no digit
        have hlt : digN l < i := by
          rcases Nat.lt_or_ge (digN l) i with h | h
          · exact h
          · exfalso
            refine ha (List.all_eq_true.2 fun b hb => hD b ?_)
            obtain ⟨j, hj, rfl⟩ := List.mem_iff_getElem.1 hb
            rw [List.getElem_take]
            have hj2 : j < (l.take (digN l)).length := by rw [List.length_take]; omega
            have : (l.take (digN l))[j] = l[j]'(by omega) := List.getElem_take
            rw [← this]
            exact List.getElem_mem hj2
        exact .inr (.inr (.inr (.inr (hbef _ hlt))))
    | some m =>
      obtain ⟨n1, n7, n48, ndig, nval, _⟩ := numD_some hnum
      rw [htl] at n1 n7
      rw [hgt 0 (by omega)] at n48
      have hdi : digN l = i := digN_is l i (by omega) (fun j hj => by
        rw [← hgt j hj]
        have : j < (l.take i).length := by omega
        rw [List.getD, List.getElem?_eq_getElem this]
        exact ndig _ (List.getElem_mem this)) (.inr (by rw [hi32]; decide))
      simp only
      unfold recStep
      rw [hdi, ← nval, if_neg (by
        rintro (e | e | e | e | e)
        · omega
        · omega
        · exact n48 e
        · omega
        · exact e hi32)]
      by_cases hc : m < i + 4 ∨ l.length < m ∨ l.getD (m - 1) 0 ≠ 10
      · rw [if_pos hc, if_pos (by
          rcases hc with h | h | h
          · exact .inr (.inl h)
          · exact .inl h
          · exact .inr (.inr h))]
      · rw [if_neg hc, if_neg (by
          rintro (e | e | e)
          · exact hc (.inr (.inl e))
          · exact hc (.inl e)
          · exact hc (.inr (.inr e)))]
/-- how many bytes a line has, by trying from none on: one more digit is the most -/
theorem lineN_count (m : Nat) (hm : 0 < m) : lineN m = m + (decL m).length ∧ (decL (m + (decL m).length)).length = (decL m).length ∨
    lineN m = m + (decL (m + (decL m).length)).length ∧ (decL (m + (decL m).length)).length ≠ (decL m).length ∧ (decL (m + (decL (m + (decL m).length)).length)).length = (decL (m + (decL m).length)).length := by
  have he := lineN_eq m hm
  by_cases h : (decL (m + (decL m).length)).length = (decL m).length
  · left
    unfold lineN
    rw [if_pos h]
    exact ⟨rfl, h⟩
  · right
    have hl : lineN m = m + (decL m).length + 1 := by unfold lineN; rw [if_neg h]
    rw [hl] at he
    have h1 := dec_mono (show m + (decL m).length ≤ m + (decL m).length + 1 by omega)
    have h2 := dec_mono (show m ≤ m + (decL m).length by omega)
    have h3 : (decL (m + (decL m).length)).length = (decL m).length + 1 := by omega
    refine ⟨by rw [hl, h3]; omega, h, ?_⟩
    rw [h3, ← Nat.add_assoc]
    omega
end Go.Proofs.YtdjedimjhogdoaaGreatDoor.Rec
end
section
namespace Go.Proofs.YtdjedimjhogdoaaGreatDoor.Attr
open Go.Lib Go.Proofs.YtdjedimjhogdoaaGreatDoor.Rec Go.Proofs.YtdjedimjhogdoaaGreatDoor.Hp
set_option linter.unusedVariables false

abbrev RecL := List (List UInt8 × List UInt8)
/-- the value of the last record that has the key -/
def lastD : RecL → List UInt8 → Option (List UInt8)
  | [], _ => none
  | r :: rs, k => match lastD rs k with
    | some v => some v
    | none => if r.1 = k then some r.2 else none
theorem lastD_app (a b : RecL) (k : List UInt8) : lastD (a ++ b) k = match lastD b k with
    | some v => some v
    | none => lastD a k := by
  induction a with
  | nil => cases h : lastD b k <;> simp [lastD, h]
  | cons r a ih =>
    rw [List.cons_append, lastD, ih]
    cases h : lastD b k with
    | some v => rfl
    | none => rfl
theorem lastD_snoc (a : RecL) (r : List UInt8 × List UInt8) (k : List UInt8) : lastD (a ++ [r]) k = if r.1 = k then some r.2 else lastD a k := by
  rw [lastD_app]
  by_cases h : r.1 = k <;> simp [lastD, h]
theorem lastD_none {rs : RecL} {k : List UInt8} (h : ∀ r ∈ rs, r.1 ≠ k) : lastD rs k = none := by
  induction rs with
  | nil => rfl
  | cons r rs ih =>
    rw [lastD, ih fun x hx => h x (List.mem_cons_of_mem _ hx)]
    simp [h r (List.mem_cons_self ..)]
/-- from behind: the record at i, behind which there is no other one with the key -/
theorem lastD_at {rs : RecL} {k : List UInt8} (i : Nat) (hi : i < rs.length) (h1 : (rs.getD i ([], [])).1 = k) (h2 : ∀ j, i < j → j < rs.length → (rs.getD j ([], [])).1 ≠ k) : lastD rs k = some (rs.getD i ([], [])).2 := by
  have e : rs = rs.take i ++ rs.getD i ([], []) :: rs.drop (i + 1) := by
    have : rs.getD i ([], []) = rs[i] := by simp [List.getD, hi]
    rw [this, List.getElem_cons_drop, List.take_append_drop]
  have h3 : lastD (rs.drop (i + 1)) k = none := lastD_none fun r hr => by
    obtain ⟨j, hj, rfl⟩ := List.getElem_of_mem hr
    rw [List.length_drop] at hj
    have := h2 (i + 1 + j) (by omega) (by omega)
    rw [List.getElem_drop]
    simpa [List.getD, show i + 1 + j < rs.length by omega] using this
  generalize hr : rs.getD i ([], []) = r at e h1 ⊢
  rw [e, lastD_app, lastD, h3]
  simp [h1]
theorem lastD_no {rs : RecL} {k : List UInt8} (h : ∀ j, j < rs.length → (rs.getD j ([], [])).1 ≠ k) : lastD rs k = none := lastD_none fun r hr => by
  obtain ⟨j, hj, rfl⟩ := List.getElem_of_mem hr
  have := h j hj
  simpa [List.getD, hj] using this
theorem lastD_mem {rs : RecL} {k v : List UInt8} (h : lastD rs k = some v) : ∃ r ∈ rs, r.1 = k ∧ r.2 = v := by
  induction rs with
  | nil => cases h
  | cons r rs ih =>
    rw [lastD] at h
    cases hl : lastD rs k with
    | some u =>
      rw [hl] at h ih
      obtain ⟨x, hx, h1⟩ := ih h
      exact ⟨x, List.mem_cons_of_mem _ hx, h1⟩
    | none =>
      rw [hl] at h
      by_cases hk : r.1 = k
      · simp only [hk, if_true] at h
        exact ⟨r, List.mem_cons_self .., hk, Option.some.inj h⟩
      · simp [hk] at h
/-- what counts of a key: F is what is global -/
def valueD (F : List UInt8 → Option (List UInt8)) (own : RecL) (k : List UInt8) : List UInt8 := match lastD own k with
  | some v => v
  | none => (F k).getD []
def noneF : List UInt8 → Option (List UInt8) := fun _ => none
/-- more records are global -/
def moreF (F : List UInt8 → Option (List UInt8)) (rs : RecL) : List UInt8 → Option (List UInt8) := fun k => match lastD rs k with
  | some v => some v
  | none => F k
theorem moreF_nil (F : List UInt8 → Option (List UInt8)) : moreF F [] = F := rfl
theorem moreF_snoc (F : List UInt8 → Option (List UInt8)) (rs : RecL) (r : List UInt8 × List UInt8) : moreF F (rs ++ [r]) = fun k => if k = r.1 then some r.2 else moreF F rs k := by
  funext k
  unfold moreF
  rw [lastD_snoc]
  by_cases h : k = r.1
  · simp [h]
  · have : ¬ r.1 = k := fun e => h e.symm
    simp [h, this]
theorem moreF_more (F : List UInt8 → Option (List UInt8)) (a b : RecL) : moreF (moreF F a) b = moreF F (a ++ b) := by
  funext k
  unfold moreF
  rw [lastD_app]
  cases lastD b k <;> rfl
theorem moreF_none (rs : RecL) : moreF noneF rs = lastD rs := by
  funext k
  unfold moreF noneF
  cases lastD rs k <;> rfl

/-- a time's whole seconds -/
def secD (l : List UInt8) : Option Nat :=
  if 0 ≤ indexByte l 46 then (if (l.drop ((indexByte l 46).toNat + 1)).all isDig then wholeD (l.take (indexByte l 46).toNat) else none) else wholeD l
def keyT : Nat → List UInt8
  | 0 => [117, 105, 100] | 1 => [103, 105, 100] | 2 => [109, 116, 105, 109, 101] | 3 => [115, 105, 122, 101] | 4 => [112, 97, 116, 104] | _ => [108, 105, 110, 107, 112, 97, 116, 104]
/-- what a value makes of a number, or that it is none -/
def numD1 (time : Bool) (v : List UInt8) (old : Int) : Option Int :=
  if v = [] then some old else Option.map Int.ofNat (if time then secD v else wholeD v)
/-- what a value makes of a text -/
def textD1 (v old : List UInt8) : List UInt8 := if v = [] then old else v
/-- what values (of keyT's keys) make of a head -/
def applyV (V : Nat → List UInt8) (h : HeadV) : HeadV × Int :=
  match numD1 false (V 0) h.uid, numD1 false (V 1) h.gid, numD1 true (V 2) h.time, numD1 false (V 3) h.size with
  | some u, some g, some t, some s => ({ h with name := textD1 (V 4) h.name, link := textD1 (V 5) h.link, uid := u, gid := g, time := t, size := s }, 0)
  | _, _, _, _ => (zeroH, 4)
def applyD (F : List UInt8 → Option (List UInt8)) (own : RecL) (h : HeadV) : HeadV × Int := applyV (fun i => valueD F own (keyT i)) h
theorem wholeD_lt {l : List UInt8} {n : Nat} (h : wholeD l = some n) : n < 1000000000000000000 := by
  unfold wholeD at h
  split at h
  · cases h
  · split at h
    · rename_i h1 h2
      cases h
      have h3 := valL_lt l (by simpa using h2)
      have : 10 ^ l.length ≤ 10 ^ 18 := Nat.pow_le_pow_right (by omega) (by omega)
      omega
    · cases h
/-- no other key than the six counts -/
theorem applyD_congr {F G : List UInt8 → Option (List UInt8)} {a b : RecL} (h : HeadV) (hk : ∀ i, i < 6 → valueD F a (keyT i) = valueD G b (keyT i)) : applyD F a h = applyD G b h := by
  unfold applyD applyV
  simp only [hk 0 (by omega), hk 1 (by omega), hk 2 (by omega), hk 3 (by omega), hk 4 (by omega), hk 5 (by omega)]
theorem applyD_empty {F : List UInt8 → Option (List UInt8)} {a : RecL} (h : HeadV) (hk : ∀ i, i < 6 → valueD F a (keyT i) = []) : applyD F a h = (h, 0) := by
  unfold applyD applyV
  simp only [hk 0 (by omega), hk 1 (by omega), hk 2 (by omega), hk 3 (by omega), hk 4 (by omega), hk 5 (by omega), numD1, textD1, if_true]
/-- decimal digits, as the library reads them -/
theorem decFrom_dig (l : List UInt8) (h : ∀ b ∈ l, isDig b = true) : ∀ acc, decFrom acc l = some (l.foldl (fun n b => n * 10 + (b.toNat - 48)) acc) := by
  induction l with
  | nil => intro acc; rfl
  | cons c l ih =>
    intro acc
    have hc := h c (List.mem_cons_self ..)
    simp only [isDig, decide_eq_true_eq] at hc
    have hd : digitVal c = some (c.toNat - 48) := by
      simp [digitVal]
      omega
    rw [decFrom, hd]
    exact ih (fun b hb => h b (List.mem_cons_of_mem _ hb)) _
theorem atoi_dig (l : List UInt8) (h0 : l ≠ []) (h : ∀ b ∈ l, isDig b = true) : atoi l = some (valL l : Int) := by
  cases l with
  | nil => exact absurd rfl h0
  | cons c l =>
    have hc := h c (List.mem_cons_self ..)
    simp only [isDig, decide_eq_true_eq] at hc
    have h45 : (c == 45) = false := beq_eq_false_iff_ne.2 fun e => by subst e; exact absurd hc.1 (by decide)
    have h43 : (c == 43) = false := beq_eq_false_iff_ne.2 fun e => by subst e; exact absurd hc.1 (by decide)
    unfold atoi
    simp only [h45, h43, decNat, List.isEmpty_cons, decFrom_dig _ h]
    rfl
/-- what stays where digits are cut off at both ends -/
theorem trim_dig (l : List UInt8) : (trimS l [48, 49, 50, 51, 52, 53, 54, 55, 56, 57] = []) ↔ ∀ b ∈ l, isDig b = true := by
  have hd : ∀ b : UInt8, ([48, 49, 50, 51, 52, 53, 54, 55, 56, 57] : List UInt8).contains b = isDig b := fun b => by
    rw [Bool.eq_iff_iff]
    simp only [List.contains_iff_mem, isDig, decide_eq_true_eq, List.mem_cons, List.not_mem_nil, or_false]
    constructor
    · rintro (rfl | rfl | rfl | rfl | rfl | rfl | rfl | rfl | rfl | rfl) <;> decide
    · intro h
      have e : ∀ n : Nat, b.toNat = n → b = UInt8.ofNat n := fun n hn => by rw [← hn]; simp
      have : b.toNat = 48 ∨ b.toNat = 49 ∨ b.toNat = 50 ∨ b.toNat = 51 ∨ b.toNat = 52 ∨ b.toNat = 53 ∨ b.toNat = 54 ∨ b.toNat = 55 ∨ b.toNat = 56 ∨ b.toNat = 57 := by omega
      rcases this with h | h | h | h | h | h | h | h | h | h <;> (have := e _ h; subst this; decide)
  have e1 : ∀ l : List UInt8, l.dropWhile (([48, 49, 50, 51, 52, 53, 54, 55, 56, 57] : List UInt8).contains ·) = [] ↔ ∀ b ∈ l, isDig b = true := fun l => by
    induction l with
    | nil => simp
    | cons c l ih =>
      rw [List.dropWhile_cons]
      by_cases hc : isDig c = true
      · rw [if_pos (by rw [hd]; exact hc), ih]
        simp [hc]
      · rw [if_neg (by rw [hd]; exact hc)]
        simp [hc]
  have e2 : ∀ l : List UInt8, (∃ b ∈ l, isDig b = false) → ∃ b ∈ trimRightS l [48, 49, 50, 51, 52, 53, 54, 55, 56, 57], isDig b = false := fun l h => by
    unfold trimRightS
    obtain ⟨b, hb, hbd⟩ := h
    have : ∀ m : List UInt8, b ∈ m → b ∈ m.dropWhile (([48, 49, 50, 51, 52, 53, 54, 55, 56, 57] : List UInt8).contains ·) := fun m => by
      induction m with
      | nil => intro h; exact h
      | cons c m ih =>
        intro hm
        rw [List.dropWhile_cons]
        by_cases hc : isDig c = true
        · rw [if_pos (by rw [hd]; exact hc)]
          rcases List.mem_cons.1 hm with rfl | hm
          · rw [hbd] at hc; cases hc
          · exact ih hm
        · rw [if_neg (by rw [hd]; exact hc)]
          exact hm
    exact ⟨b, List.mem_reverse.2 (this _ (List.mem_reverse.2 hb)), hbd⟩
  unfold trimS trimLeftS
  rw [e1]
  constructor
  · intro h b hb
    cases hbd : isDig b with
    | true => rfl
    | false =>
      obtain ⟨c, hc, hcd⟩ := e2 l ⟨b, hb, hbd⟩
      rw [h c hc] at hcd
      cases hcd
  · intro h b hb
    refine h b ?_
    unfold trimRightS at hb
    exact List.mem_reverse.1 ((List.dropWhile_suffix _).subset (List.mem_reverse.1 hb))
end Go.Proofs.YtdjedimjhogdoaaGreatDoor.Attr
end
section
namespace Go.Proofs.YtdjedimjhogdoaaGreatDoor.Mem
open Go.Lib Go.Proofs.YtdjedimjhogdoaaGreatDoor.Fp Go.Proofs.YtdjedimjhogdoaaGreatDoor.Hp Go.Proofs.YtdjedimjhogdoaaGreatDoor.Path Go.Proofs.YtdjedimjhogdoaaGreatDoor.Rec Go.Proofs.YtdjedimjhogdoaaGreatDoor.Attr
set_option linter.unusedVariables false

structure MemV where
  path : List UInt8
  target : List UInt8
  kind : UInt8
  mode : Int
  uid : Int
  gid : Int
  time : Int
  body : List UInt8
deriving instance DecidableEq for MemV
def metaOk (mode uid gid time : Int) : Bool := decide (0 ≤ mode ∧ mode ≤ 4095 ∧ 0 ≤ uid ∧ uid < 2147483648 ∧ 0 ≤ gid ∧ gid < 2147483648 ∧ 0 ≤ time ∧ time ≤ 1099511627776)
/-- a path that is its own clean -/
def cleanOk (l : List UInt8) : Bool := decide (cleanD 9 6 l = (l, 0))
/-- P8.1: a member that may be -/
def goodD (m : MemV) : Bool :=
  cleanOk m.path && metaOk m.mode m.uid m.gid m.time && decide (m.body.length ≤ 1048576) && (m.kind == 48 || m.body == []) &&
    (if m.kind = 48 ∨ m.kind = 53 then m.target == [] else if m.kind = 49 then cleanOk m.target else if m.kind = 50 then decide (targetD 9 6 m.target = 0) else false)
/-! ### reading -/
/-- what stands between two headers -/
structure RS where
  out : List MemV
  glob : RecL
  own : RecL
  name : Option (List UInt8)
  link : Option (List UInt8)
  hasX : Bool
inductive Step where
  | fault (e : Int)
  | done
  | next (k : Nat) (s : RS)
/-- whole blocks of n bytes -/
def blocksOf (n : Nat) : Nat := (n + 511) / 512 * 512
/-- the body behind a header, and where what follows begins -/
def bodyN (l : List UInt8) (n : Int) : Option (List UInt8 × Nat) :=
  if 2097152 < n ∨ l.length - 512 < blocksOf n.toNat then none else some ((l.drop 512).take n.toNat, 512 + blocksOf n.toNat)
def extD (l : List UInt8) (h : HeadV) (s : RS) : Step :=
  if (h.kind = 120 ∧ s.hasX = true) ∨ (h.kind = 76 ∧ s.name.isSome = true) ∨ (h.kind = 75 ∧ s.link.isSome = true) then .fault 5
  else if 1048576 < h.size then .fault 10
  else match bodyN l h.size with
    | none => .fault 2
    | some (t, k) =>
      if h.kind = 76 then .next k { s with name := some (untilB t) }
      else if h.kind = 75 then .next k { s with link := some (untilB t) }
      else if (recsD 5 9 t).2 ≠ 0 then .fault (recsD 5 9 t).2
      else if h.kind = 103 then .next k { s with glob := s.glob ++ (recsD 5 9 t).1 }
      else .next k { s with hasX := true, own := (recsD 5 9 t).1 }
/-- the member that a header says, but for its body; how many bytes that has; or the error -/
def memOf (h : HeadV) (s : RS) : Except Int (MemV × Int) :=
  let a := applyD (lastD s.glob) s.own { h with name := s.name.getD h.name, link := s.link.getD h.link }
  let c := cleanD 9 6 a.1.name
  let d := cleanD 9 6 a.1.link
  let t := targetD 9 6 a.1.link
  if a.2 ≠ 0 then .error a.2
  else if c.2 ≠ 0 then .error c.2
  else if metaOk a.1.mode a.1.uid a.1.gid a.1.time = false then .error 4
  else if a.1.kind = 49 ∧ d.2 ≠ 0 then .error d.2
  else if a.1.kind = 50 ∧ t ≠ 0 then .error t
  else if a.1.kind ≠ 48 ∧ a.1.size ≠ 0 then .error 4
  else if 1048576 < a.1.size then .error 10
  else .ok (⟨c.1, if a.1.kind = 49 then d.1 else if a.1.kind = 50 then a.1.link else [], a.1.kind, a.1.mode, a.1.uid, a.1.gid, a.1.time, []⟩, a.1.size)
def memD (l : List UInt8) (h : HeadV) (s : RS) : Step :=
  if 4096 ≤ s.out.length then .fault 10
  else if h.kind ≠ 48 ∧ h.kind ≠ 49 ∧ h.kind ≠ 50 ∧ h.kind ≠ 53 then .fault 8
  else match memOf h s with
    | .error e => .fault e
    | .ok (m, n) => match bodyN l n with
      | none => .fault 2
      | some (t, k) => .next k { s with out := s.out ++ [{ m with body := t }], own := [], name := none, link := none, hasX := false }
def zeroB (l : List UInt8) : Bool := l.all (· == 0)
def isExt (k : UInt8) : Bool := k == 120 || k == 103 || k == 76 || k == 75
/-- one header -/
def stepD (l : List UInt8) (s : RS) : Step :=
  if l.length < 512 then .fault 2
  else if zeroB (l.take 512) then
    if l.length - 512 < 512 then .fault 2
    else if zeroB (l.drop 512) = false then .fault 9
    else if s.hasX = true ∨ s.name.isSome = true ∨ s.link.isSome = true then .fault 5
    else .done
  else if (headR (l.take 512)).2 ≠ 0 then .fault (headR (l.take 512)).2
  else if isExt (headR (l.take 512)).1.kind then extD l (headR (l.take 512)).1 s
  else memD l (headR (l.take 512)).1 s
def readGo : Nat → List UInt8 → Nat → RS → List MemV × Int × Nat
  | 0, _, _, _ => ([], 2, 0)
  | f + 1, l, at_, s => match stepD l s with
    | .fault e => ([], e, at_)
    | .done => (s.out, 0, 0)
    | .next k s' => readGo f (l.drop k) (at_ + k) s'
/-- from a place on -/
def readFrom (l : List UInt8) (at_ : Nat) (s : RS) : List MemV × Int × Nat := readGo (l.length + 1) l at_ s
def startS : RS := ⟨[], [], [], none, none, false⟩
/-- P8.2: the members of any bytes, or the fault -/
def membersD (b : List UInt8) : List MemV × Int × Nat := readFrom b 0 startS
theorem bodyN_spec {l t : List UInt8} {n : Int} {k : Nat} (h : bodyN l n = some (t, k)) : k = 512 + blocksOf n.toNat ∧ blocksOf n.toNat ≤ l.length - 512 ∧ t = (l.drop 512).take n.toNat ∧ n ≤ 2097152 := by
  unfold bodyN at h
  split at h
  · cases h
  · cases h
    exact ⟨rfl, by omega, rfl, by omega⟩
theorem step_next {l : List UInt8} {s s' : RS} {k : Nat} (h : stepD l s = .next k s') : 512 ≤ k ∧ k ≤ l.length := by
  unfold stepD at h
  split at h
  · cases h
  · rename_i h512
    split at h
    · split at h
      · cases h
      · split at h
        · cases h
        · split at h <;> cases h
    · split at h
      · cases h
      · split at h
        · unfold extD at h
          split at h
          · cases h
          · split at h
            · cases h
            · split at h
              · cases h
              · rename_i t k' hb
                obtain ⟨h1, h2, _, _⟩ := bodyN_spec hb
                have hk : k = k' := by
                  split at h
                  · cases h; rfl
                  · split at h
                    · cases h; rfl
                    · split at h
                      · cases h
                      · split at h <;> (cases h; rfl)
                omega
        · unfold memD at h
          split at h
          · cases h
          · split at h
            · cases h
            · split at h
              · cases h
              · split at h
                · cases h
                · rename_i t k' hb
                  obtain ⟨h1, h2, _, _⟩ := bodyN_spec hb
                  cases h
                  omega
theorem readGo_fuel (n : Nat) : ∀ m l at_ s, l.length < n → l.length < m → readGo n l at_ s = readGo m l at_ s := by
  induction n with
  | zero => intro m l at_ s h; omega
  | succ n ih =>
    intro m l at_ s h1 h2
    cases m with
    | zero => omega
    | succ m =>
      rw [readGo, readGo]
      cases hs : stepD l s with
      | fault e => rfl
      | done => rfl
      | next k s' =>
        obtain ⟨g1, g2⟩ := step_next hs
        exact ih m _ _ _ (by rw [List.length_drop]; omega) (by rw [List.length_drop]; omega)
theorem readFrom_step (l : List UInt8) (at_ : Nat) (s : RS) : readFrom l at_ s = match stepD l s with
    | .fault e => ([], e, at_)
    | .done => (s.out, 0, 0)
    | .next k s' => readFrom (l.drop k) (at_ + k) s' := by
  unfold readFrom
  rw [readGo]
  cases hs : stepD l s with
  | fault e => rfl
  | done => rfl
  | next k s' =>
    obtain ⟨g1, g2⟩ := step_next hs
    exact readGo_fuel _ _ _ _ _ (by rw [List.length_drop]; omega) (by omega)
theorem readFrom_fault {l : List UInt8} {s : RS} {e : Int} (h : stepD l s = .fault e) (at_ : Nat) : readFrom l at_ s = ([], e, at_) := by rw [readFrom_step, h]
theorem readFrom_done {l : List UInt8} {s : RS} (h : stepD l s = .done) (at_ : Nat) : readFrom l at_ s = (s.out, 0, 0) := by rw [readFrom_step, h]
theorem readFrom_next {l : List UInt8} {s s' : RS} {k : Nat} (h : stepD l s = .next k s') (at_ : Nat) : readFrom l at_ s = readFrom (l.drop k) (at_ + k) s' := by rw [readFrom_step, h]
/-! ### writing -/
def fitsD (l : List UInt8) : Bool := l.all fun b => decide (b.toNat ≤ 127)
def longN : List UInt8 := [64, 108, 111, 110, 103]
def paxN : List UInt8 := [64, 112, 97, 120]
def paxH (n : Nat) : HeadV := ⟨paxN, [], 120, 0, 0, 0, 0, (n : Int), false⟩
def longP (m : MemV) : Bool := (cutR m.path).isNone || !fitsD m.path
def longL (m : MemV) : Bool := decide (100 < m.target.length) || !fitsD m.target
def headM (m : MemV) : HeadV :=
  ⟨if longP m then longN else m.path, if longL m then longN else m.target, m.kind, m.mode, if 2097151 < m.uid then 0 else m.uid, if 2097151 < m.gid then 0 else m.gid, if 8589934591 < m.time then 0 else m.time, (m.body.length : Int), false⟩
/-- the records that a member wants -/
def recsM (m : MemV) : RecL :=
  (if longP m then [(keyT 4, m.path)] else []) ++ (if longL m then [(keyT 5, m.target)] else []) ++ (if 2097151 < m.uid then [(keyT 0, decL m.uid.toNat)] else []) ++
    (if 2097151 < m.gid then [(keyT 1, decL m.gid.toNat)] else []) ++ (if 8589934591 < m.time then [(keyT 2, decL m.time.toNat)] else [])
def padB (l : List UInt8) : List UInt8 := l ++ List.replicate (blocksOf l.length - l.length) 0
def putM (m : MemV) : List UInt8 :=
  (if linesD (recsM m) = [] then [] else (putR (paxH (linesD (recsM m)).length)).getD [] ++ padB (linesD (recsM m))) ++ ((putR (headM m)).getD [] ++ padB m.body)
def archD (ms : List MemV) : List UInt8 := (ms.map putM).flatten ++ List.replicate 1024 0
theorem blocks_ge (n : Nat) : n ≤ blocksOf n ∧ blocksOf n < n + 512 := by unfold blocksOf; omega
theorem padB_length (l : List UInt8) : (padB l).length = blocksOf l.length := by
  have := (blocks_ge l.length).1
  simp only [padB, List.length_append, List.length_replicate]; omega
theorem bodyN_pad (H body rest : List UInt8) (hH : H.length = 512) (hb : body.length ≤ 2097152) : bodyN (H ++ (padB body ++ rest)) (body.length : Int) = some (body, 512 + blocksOf body.length) := by
  unfold bodyN
  have hp := padB_length body
  rw [if_neg (by simp only [List.length_append, hH, hp, Int.toNat_natCast]; omega), Int.toNat_natCast]
  congr 2
  rw [← hH, List.drop_left, padB, List.append_assoc, List.take_left']
  rfl
theorem drop_pad (H body rest : List UInt8) (hH : H.length = 512) : (H ++ (padB body ++ rest)).drop (512 + blocksOf body.length) = rest := by
  rw [← hH, ← padB_length, List.drop_append, List.drop_append]
  simp
end Go.Proofs.YtdjedimjhogdoaaGreatDoor.Mem
end
section
namespace Go.Proofs.YtdjedimjhogdoaaGreatDoor.Byt
open Go.ChangeShapes Go.WideShapes Go.ChangeAt Go.RowKit Go.Proofs.YtdjedimjhogdoaaGreatDoor.Base Go.Lib
set_option linter.unusedVariables false

/-- bytes as numbers -/
def nums (bs : List UInt8) : List Int := bs.map fun x => (x.toNat : Int)
theorem nums_length (bs : List UInt8) : (nums bs).length = bs.length := by simp [nums]
theorem nums_bd (bs : List UInt8) : ∀ x ∈ nums bs, 0 ≤ x ∧ x < 256 := fun x hx => by
  obtain ⟨y, _, rfl⟩ := List.mem_map.1 hx
  have := y.toNat_lt
  omega
theorem bytesOf_nums (bs : List UInt8) : bytesOf (nums bs) = bs := by
  unfold bytesOf nums
  rw [List.map_map]
  conv => rhs; rw [← List.map_id bs]
  apply List.map_congr_left
  intro x _
  simp
theorem nums_getElem (bs : List UInt8) (j : Nat) (hj : j < bs.length) : ((nums bs).map (Value.int .u8))[j]? = some (.int .u8 (bs.getD j 0).toNat) := by
  simp [nums, List.getD, hj]
theorem append_bytes {P : Program} {w : World} {ops : Array Oper} {rest : List Oper} {o : Oper} {a : Act} {Q : Exit → Act → World → Prop} (hgd : o.guard = none) (s x : Operand) (t : TypeId)
    (ho : o.op = .call { callee := .builtin .append, args := #[s, x], argTypes := #[t, t] })
    (base : Nat) (e : TypeId) (i : TypeInfo) (ht : P.underlying t = some (.slice e)) (hi : P.info? e = some i) (hz : i.zero = some (.int .u8 0)) (hsize : i.size = 1) (hby : i.bytes = 1)
    (v : Value) (n : Nat) (xs : List Int) (hs : a.eval s = v) (hown : w.ownsRow base e 1 v n (xs.map (Value.int .u8)))
    (p : Option Addr) (m c : Nat) (bs : List UInt8) (hx : a.eval x = .slice p m c) (hb : BAt w p m bs) (hl : bs.length = m) (hsum : n + m ≤ 140737488351232) (hbase : base ≤ w.heap.size)
    (h : ∀ v' w', w'.ownsRow base e 1 v' (n + m) ((xs ++ nums bs).map (Value.int .u8)) → w.grownBy w' v.ownBlock → wpList P ops Q rest (a.put o.dst v') w') : wpList P ops Q (o :: rest) a w := by
  rcases p with _ | ad
  · have hm : m = 0 := by
      rcases Nat.eq_zero_or_pos m with h0 | h0
      · exact h0
      · obtain ⟨_, _, he, _⟩ := hb h0
        cases he
    subst hm
    obtain rfl : bs = [] := List.eq_nil_of_length_eq_zero hl
    have hrun : (Builtin.append_ #[t, t] o.type #[v, .slice none 0 c]).run P w = .ok v w := by
      rcases hown.2 with ⟨rfl, rfl⟩ | ⟨g, cap, cur, rfl, _, _, hnc, _⟩
      · simp [Builtin.append_, run_underlying ht, sizeOf, typeInfo, hi, Builtin.lenOf, Builtin.firstCells]
      · simp [Builtin.append_, run_underlying ht, sizeOf, typeInfo, hi, Builtin.lenOf, Builtin.firstCells, hnc, storeCells]
    refine wpList_plain hgd fun K hK => ?_
    unfold Oper.wp
    simp [execOp, ho, resolve, invoke, builtin, hs, hx, hrun, Result.andThen]
    exact hK _ _ (h v w (by simpa [nums] using hown) (World.grownBy.refl w _))
  · refine wpList_append_own w hgd s x t ho base e i (.int .u8 0) 1 1 ht hi hz hsize hby rfl (by decide) v n (xs.map (Value.int .u8)) hs hown ad m c ((nums bs).map (Value.int .u8)) hx (by rw [List.length_map, nums_length, hl]; omega) ?_ (ints_oneCell .u8 _) (by unfold maxLen; omega) (by omega) hbase ?_
    · intro j u hj
      have hjl : j < m := by
        have := (List.getElem?_eq_some_iff.1 hj).1
        rw [List.length_map, nums_length, hl] at this
        exact this
      obtain ⟨b, off, he, hc⟩ := hb (by omega)
      cases he
      rw [nums_getElem bs j (by omega)] at hj
      cases hj
      rw [add_plain]
      exact hc j hjl
    · intro v' w' h1 h2 _
      rw [← List.map_append] at h1
      exact h v' w' h1 h2
end Go.Proofs.YtdjedimjhogdoaaGreatDoor.Byt
end
section
namespace Go.Proofs.YtdjedimjhogdoaaGreatDoor.Byt
open Go.ChangeShapes Go.WideShapes Go.ChangeAt Go.RowKit Go.Proofs.YtdjedimjhogdoaaGreatDoor.Base Go.Lib
set_option linter.unusedVariables false

/-- all that was there is as it was, but the blocks of S -/
structure Kept (S : Nat → Prop) (w w' : World) : Prop where
  os : w'.os = w.os
  tape : w'.tape = w.tape
  output : w'.output = w.output
  size : w.heap.size ≤ w'.heap.size
  block : ∀ k, k < w.heap.size → ¬ S k → w'.heap[k]? = w.heap[k]?
def noneB : Nat → Prop := fun _ => False
def oneB (g : Nat) : Nat → Prop := fun k => k = g
def twoB (g : Nat) (o : Option Nat) : Nat → Prop := fun k => k = g ∨ some k = o
section
variable {S T : Nat → Prop} {w w' w'' : World}
theorem Kept.refl (S : Nat → Prop) (w : World) : Kept S w w := ⟨rfl, rfl, rfl, Nat.le_refl _, fun _ _ _ => rfl⟩
theorem Kept.trans (h : Kept S w w') (k : Kept S w' w'') : Kept S w w'' :=
  ⟨k.os.trans h.os, k.tape.trans h.tape, k.output.trans h.output, Nat.le_trans h.size k.size, fun i hi hn => (k.block i (Nat.lt_of_lt_of_le hi h.size) hn).trans (h.block i hi hn)⟩
theorem Kept.mono (h : Kept S w w') (hs : ∀ k, S k → T k) : Kept T w w' := ⟨h.os, h.tape, h.output, h.size, fun k hk hn => h.block k hk fun hh => hn (hs k hh)⟩
theorem Kept.of_none (h : Kept noneB w w') (S : Nat → Prop) : Kept S w w' := h.mono fun _ hh => hh.elim
theorem Kept.drewN (h : Kept S w w') (n : Nat) : Kept S w (w'.drewN n) := h.trans ⟨rfl, rfl, rfl, Nat.le_refl _, fun _ _ _ => rfl⟩
theorem Kept.drew (h : Kept S w w') : Kept S w w'.drew := h.trans ⟨rfl, rfl, rfl, Nat.le_refl _, fun _ _ _ => rfl⟩
theorem Kept.alloc (h : Kept S w w') (o : Obj) : Kept S w (w'.alloc o) := h.trans ⟨rfl, rfl, rfl, by simp, fun k hk _ => Below.heap_alloc _ _ _ hk⟩
theorem Kept.setCell (h : Kept S w w') {a : Addr} (ha : w.heap.size ≤ a.block ∨ S a.block) (v : Value) : Kept S w (w'.setCell a v) :=
  ⟨h.os, h.tape, h.output, by simpa using h.size, fun k hk hn => by
    rw [Below.heap_setCell _ _ _ _ (fun e => by rcases ha with ha | ha; · omega
                                                · exact hn (e ▸ ha))]
    exact h.block k hk hn⟩
theorem Kept.below (h : Kept S w w') {B : Nat} (hB : B ≤ w.heap.size) (hs : ∀ k, S k → B ≤ k) : Below B w w' :=
  ⟨h.os, h.tape, h.output, h.size, fun k hk => h.block k (by omega) fun hh => by have := hs k hh; omega⟩
theorem Kept.of_below (h : Below w.heap.size w w') (S : Nat → Prop) : Kept S w w' := ⟨h.os, h.tape, h.output, h.size, fun k hk _ => h.block k hk⟩
theorem Kept.grown (h : Kept S w w') {row : Option Nat} (hg : w'.grownBy w'' row) (hr : ∀ k, row = some k → w.heap.size ≤ k ∨ S k) : Kept S w w'' :=
  ⟨hg.os.trans h.os, hg.tape.trans h.tape, hg.output.trans h.output, Nat.le_trans h.size hg.size, fun k hk hn => by
    rw [hg.block k (Nat.lt_of_lt_of_le hk h.size) (fun e => by rcases hr k e.symm with h1 | h1; · omega
                                                               · exact hn h1)]
    exact h.block k hk hn⟩
/-- what is added behind: a step that keeps all but blocks of its own, and of S -/
theorem Kept.then (h : Kept S w w') (k : Kept T w' w'') (hs : ∀ i, T i → w.heap.size ≤ i ∨ S i) : Kept S w w'' :=
  ⟨k.os.trans h.os, k.tape.trans h.tape, k.output.trans h.output, Nat.le_trans h.size k.size, fun i hi hn => by
    rw [k.block i (Nat.lt_of_lt_of_le hi h.size) (fun hh => by rcases hs i hh with h1 | h1; · omega
                                                               · exact hn h1)]
    exact h.block i hi hn⟩
theorem Kept.at (h : Kept S w w') {k : Nat} (hk : k < w.heap.size) (hn : ¬ S k) : w'.heap[k]? = w.heap[k]? := h.block k hk hn
theorem Kept.some_ (h : Kept S w w') {k : Nat} {o : Obj} (hk : w.heap[k]? = some o) (hn : ¬ S k) : w'.heap[k]? = some o :=
  (h.block k (Array.getElem?_eq_some_iff.1 hk).1 hn).trans hk

/-- the blocks of a slice of bytes that is read are none of S -/
theorem BAt.kept {p : Option Addr} {n : Nat} {bs : List UInt8} (h : BAt w p n bs) (hk : Kept S w w') (hn : 0 < n → ∀ a, p = some a → ¬ S a.block) : BAt w' p n bs := fun h0 => by
  obtain ⟨b, o, rfl, hbw, hc⟩ := h.cell h0
  exact ⟨b, o, rfl, fun i hi => by rw [World.cell?_of_block (hk.block b hbw (hn h0 _ rfl))]; exact hc i hi⟩
theorem ownsRow_kept {base : Nat} {e : TypeId} {size : Nat} {v : Value} {n : Nat} {xs : List Value} (h : w.ownsRow base e size v n xs) (hk : Kept S w w') (hn : ∀ k, v.ownBlock = some k → ¬ S k) : w'.ownsRow base e size v n xs :=
  ⟨h.1, h.2.imp id fun ⟨g, cap, cur, h1, h2, h3, h4⟩ => ⟨g, cap, cur, h1, h2, hk.some_ h3 (hn g (by rw [h1]; rfl)), h4⟩⟩

/-- the m numbers at q are zs -/
def IAt (w : World) (p : Option Addr) (n : Nat) (zs : List Int) : Prop :=
  0 < n → ∃ b o, p = some ⟨b, o, none⟩ ∧ b < w.heap.size ∧ ∀ i, i < n → w.cell? ⟨b, o + i, none⟩ = some (.int .i64 (zs.getD i 0))
theorem IAt.kept {p : Option Addr} {n : Nat} {zs : List Int} (h : IAt w p n zs) (hk : Kept S w w') (hn : 0 < n → ∀ a, p = some a → ¬ S a.block) : IAt w' p n zs := fun h0 => by
  obtain ⟨b, o, rfl, hbw, hc⟩ := h h0
  exact ⟨b, o, rfl, Nat.lt_of_lt_of_le hbw hk.size, fun i hi => by rw [World.cell?_of_block (hk.block b hbw (hn h0 _ rfl))]; exact hc i hi⟩
theorem iat_of_row {a : Option Addr} {len cap : Nat} {zs : List Int} (h : IsRow .i64 w a len cap zs) : IAt w a len (zs.take len) ∧ (zs.take len).length = len ∧ len ≤ cap ∧ cap ≤ maxLen := by
  refine ⟨fun h0 => ?_, ?_⟩
  · obtain ⟨b, off, rfl, _, _, _, hb, h5, _⟩ := row_at h h0
    exact ⟨b, off, rfl, hb, h5⟩
  · rcases h with ⟨_, rfl, rfl, rfl⟩ | ⟨_, _, h1, h2, h3, _, _⟩
    · exact ⟨rfl, by omega, by omega⟩
    · exact ⟨by rw [List.length_take]; omega, h1, h2⟩
/-- a row of the call's own, read as numbers -/
theorem iat_of_own {base : Nat} {e : TypeId} {v : Value} {n : Nat} {zs : List Int} (h : w.ownsRow base e 1 v n (zs.map (Value.int .i64))) :
    ∃ p c, v = .slice p n c ∧ n ≤ c ∧ c ≤ maxLen ∧ IAt w p n zs ∧ zs.length = n ∧ (∀ a, p = some a → base ≤ a.block ∧ v.ownBlock = some a.block) := by
  have hl : zs.length = n := by have := h.1; simpa using this
  have hlt := h.lt
  have h' := h
  rcases h.2 with ⟨rfl, rfl⟩ | ⟨g, cap, cur, rfl, hg, _, h1, h2, _⟩
  · exact ⟨none, 0, rfl, by omega, by omega, fun h => absurd h (by omega), hl, fun a h => by cases h⟩
  · refine ⟨some ⟨g, 0, none⟩, cap, rfl, h1, h2, fun h0 => ⟨g, 0, rfl, (hlt g rfl).2, fun i hi => ?_⟩, hl, fun a h => by cases h; exact ⟨hg, rfl⟩⟩
    rw [Nat.zero_add, h'.cellAt i (by omega), List.getElem?_map, List.getElem?_eq_getElem (by omega)]
    simp [List.getD, hl, hi]
theorem own_block {base : Nat} {e : TypeId} {size : Nat} {v : Value} {n : Nat} {xs : List Value} (h : w.ownsRow base e size v n xs) {p : Option Addr} {m c : Nat} (hv : v = .slice p m c) : ∀ a, p = some a → base ≤ a.block ∧ a.block < w.heap.size ∧ v.ownBlock = some a.block := fun a ha => by
  subst ha hv
  exact ⟨(h.lt _ rfl).1, (h.lt _ rfl).2, rfl⟩
/-- append of a slice of numbers onto a row of the call's own: the source nil, empty or not. -/
theorem append_ints {P : Program} {w : World} {ops : Array Oper} {rest : List Oper} {o : Oper} {a : Act} {Q : Exit → Act → World → Prop} (hgd : o.guard = none) (s x : Operand) (t : TypeId)
    (ho : o.op = .call { callee := .builtin .append, args := #[s, x], argTypes := #[t, t] })
    (base : Nat) (e : TypeId) (i : TypeInfo) (ht : P.underlying t = some (.slice e)) (hi : P.info? e = some i) (hz : i.zero = some (.int .i64 0)) (hsize : i.size = 1) (hby : i.bytes = 8)
    (v : Value) (n : Nat) (xs : List Int) (hs : a.eval s = v) (hown : w.ownsRow base e 1 v n (xs.map (Value.int .i64)))
    (p : Option Addr) (m c : Nat) (zs : List Int) (hx : a.eval x = .slice p m c) (hb : IAt w p m zs) (hl : zs.length = m) (hsum : (n + m) * 8 ≤ 140737488351232) (hbase : base ≤ w.heap.size)
    (h : ∀ v' w', w'.ownsRow base e 1 v' (n + m) ((xs ++ zs).map (Value.int .i64)) → w.grownBy w' v.ownBlock → wpList P ops Q rest (a.put o.dst v') w') : wpList P ops Q (o :: rest) a w := by
  rcases p with _ | ad
  · have hm : m = 0 := by
      rcases Nat.eq_zero_or_pos m with h0 | h0
      · exact h0
      · obtain ⟨_, _, he, _⟩ := hb h0
        cases he
    subst hm
    obtain rfl : zs = [] := List.eq_nil_of_length_eq_zero hl
    have hrun : (Builtin.append_ #[t, t] o.type #[v, .slice none 0 c]).run P w = .ok v w := by
      rcases hown.2 with ⟨rfl, rfl⟩ | ⟨g, cap, cur, rfl, _, _, hnc, _⟩
      · simp [Builtin.append_, run_underlying ht, sizeOf, typeInfo, hi, Builtin.lenOf, Builtin.firstCells]
      · simp [Builtin.append_, run_underlying ht, sizeOf, typeInfo, hi, Builtin.lenOf, Builtin.firstCells, hnc, storeCells]
    refine wpList_plain hgd fun K hK => ?_
    unfold Oper.wp
    simp [execOp, ho, resolve, invoke, builtin, hs, hx, hrun, Result.andThen]
    exact hK _ _ (h v w (by simpa using hown) (World.grownBy.refl w _))
  · refine wpList_append_own w hgd s x t ho base e i (.int .i64 0) 1 8 ht hi hz hsize hby rfl (by decide) v n (xs.map (Value.int .i64)) hs hown ad m c (zs.map (Value.int .i64)) hx (by rw [List.length_map, hl]; omega) ?_ (ints_oneCell .i64 _) (by unfold maxLen; omega) (by omega) hbase ?_
    · intro j u hj
      have hjl : j < m := by
        have := (List.getElem?_eq_some_iff.1 hj).1
        rw [List.length_map, hl] at this
        exact this
      obtain ⟨b, off, he, _, hc⟩ := hb (by omega)
      cases he
      rw [List.getElem?_map, List.getElem?_eq_getElem (by omega)] at hj
      cases hj
      rw [add_plain, hc j hjl]
      simp [List.getD, List.getElem?_eq_getElem (show j < zs.length by omega)]
    · intro v' w' h1 h2 _
      rw [← List.map_append] at h1
      exact h v' w' h1 h2
end
theorem infoU8 : (Tryz.prog.info? 5).map (fun i => (i.zero, i.size, i.bytes)) = some (some (.int .u8 0), 1, 1) := by kernel_rfl
theorem infoI64 : (Tryz.prog.info? 3).map (fun i => (i.zero, i.size, i.bytes)) = some (some (.int .i64 0), 1, 8) := by kernel_rfl
end Go.Proofs.YtdjedimjhogdoaaGreatDoor.Byt
end
section
namespace Go.Proofs.YtdjedimjhogdoaaGreatDoor.Bk
open Go.ChangeShapes Go.WideShapes Go.ChangeAt Go.RowKit Go.Proofs.YtdjedimjhogdoaaGreatDoor.Base Go.Proofs.YtdjedimjhogdoaaGreatDoor.Byt
set_option linter.unusedVariables false

/-- block b has these cells, and no others -/
def Blk (W : World) (b : Nat) (t : TypeId) (cs : Array Value) : Prop := W.heap[b]? = some (.cells cs t (0, 0))
section
variable {W W' : World} {b : Nat} {t : TypeId} {cs : Array Value}
theorem Blk.lt (h : Blk W b t cs) : b < W.heap.size := (Array.getElem?_eq_some_iff.1 h).1
theorem Blk.cell (h : Blk W b t cs) (i : Nat) : W.cell? ⟨b, i, none⟩ = cs[i]? := by simp [World.cell?, show W.heap[b]? = _ from h]
theorem Blk.frozen (h : Blk W b t cs) (i : Nat) : W.frozen? ⟨b, i, none⟩ = false := by simp [World.frozen?, show W.heap[b]? = _ from h]
theorem Blk.new (W : World) (t : TypeId) (cs : Array Value) : Blk (W.alloc (.cells cs t)) W.heap.size t cs := World.alloc_heap_new W _
theorem Blk.kept (h : Blk W b t cs) {row : Option Nat} (hg : W.grownBy W' row) (hr : ∀ r, row = some r → ∃ o : Obj, W.heap[r]? = some o ∧ o.isCells = false) : Blk W' b t cs :=
  (grownBy_keeps_cells hg hr h rfl).trans h
theorem Blk.alloc (h : Blk W b t cs) (o : Obj) : Blk (W.alloc o) b t cs := h.kept (World.grownBy_alloc W o none) (fun r e => by cases e)
theorem Blk.drewN (h : Blk W b t cs) (n : Nat) : Blk (W.drewN n) b t cs := h
theorem Blk.drew (h : Blk W b t cs) : Blk W.drew b t cs := h
theorem Blk.below (h : Blk W b t cs) {n : Nat} (hb : Below n W W') (hn : b < n) : Blk W' b t cs := (hb.block b hn).trans h
theorem Blk.keptS {S : Nat → Prop} (h : Blk W b t cs) (hk : Kept S W W') (hn : ¬ S b) : Blk W' b t cs := hk.some_ h hn
theorem Blk.set (h : Blk W b t cs) (i : Nat) (v : Value) (hi : i < cs.size) : Blk (W.setCell ⟨b, i, none⟩ v) b t (cs.set i v hi) := by
  obtain ⟨hl, he⟩ := Array.getElem?_eq_some_iff.1 h
  unfold Blk World.setCell
  refine Array.getElem?_eq_some_iff.2 ⟨by simpa using hl, ?_⟩
  rw [Array.getElem_modify, if_pos rfl, he]
  simp [Array.setIfInBounds, hi]
theorem Blk.other (h : Blk W b t cs) {b' i : Nat} (hne : b' ≠ b) (v : Value) : Blk (W.setCell ⟨b', i, none⟩ v) b t cs := by
  unfold Blk
  rw [Below.heap_setCell _ _ _ _ (fun e => hne (by simpa using e.symm))]
  exact h
theorem blk_own {β : Type} (b : Nat) (t : TypeId) (f : β → Array Value) : Own (fun s W => Blk W b t (f s)) := fun s X Y row hs hg hr => hs.kept hg hr
end
end Go.Proofs.YtdjedimjhogdoaaGreatDoor.Bk
end
section
namespace Go.Proofs.YtdjedimjhogdoaaGreatDoor.Block
open Go.ChangeShapes Go.WideShapes Go.ChangeAt Go.RowKit Go.Proofs.YtdjedimjhogdoaaGreatDoor.Base Go.Proofs.YtdjedimjhogdoaaGreatDoor.Byt Go.Lib
set_option linter.unusedVariables false

/-- what stays of a source: its bytes, its chunks -/
structure Sv where
  p : Option Addr
  n : Nat
  c : Nat
  bs : List UInt8
  q : Option Addr
  m : Nat
  d : Nat
  zs : List Int

/-- block g is a source of which a bytes were read; chunk t is next -/
structure Src (w : World) (g : Nat) (S : Sv) (a t : Nat) : Prop where
  blk : w.heap[g]? = some (.cells #[.slice S.p S.n S.c, .int .i64 a, .slice S.q S.m S.d, .int .i64 t] 100 (0, 0))
  bat : BAt w S.p S.n S.bs
  len : S.bs.length = S.n
  nc : S.n ≤ S.c
  cm : S.c ≤ maxLen
  big : S.n ≤ 140737488351232
  le : a ≤ S.n
  iat : IAt w S.q S.m S.zs
  zlen : S.zs.length = S.m
  md : S.m ≤ S.d
  dm : S.d ≤ maxLen
  turn : 0 < S.m → t < S.m
  turn0 : S.m = 0 → t = 0

theorem cells_at {w : World} {g : Nat} {cs : Array Value} {e : TypeId} (h : w.heap[g]? = some (.cells cs e (0, 0))) (i : Nat) : w.cell? ⟨g, i, none⟩ = cs[i]? := by
  simp [World.cell?, h]
theorem cells_frozen {w : World} {g : Nat} {cs : Array Value} {e : TypeId} (h : w.heap[g]? = some (.cells cs e (0, 0))) (i : Nat) : w.frozen? ⟨g, i, none⟩ = false := by
  simp [World.frozen?, h]
theorem cells_set {w : World} {g : Nat} {cs : Array Value} {e : TypeId} (h : w.heap[g]? = some (.cells cs e (0, 0))) (i : Nat) (v : Value) (hi : i < cs.size) : (w.setCell ⟨g, i, none⟩ v).heap[g]? = some (.cells (cs.set i v hi) e (0, 0)) := by
  simp only [World.setCell, Array.getElem?_modify, if_true, h]
  simp [Array.setIfInBounds, hi]
section
variable {w w' : World} {g a t : Nat} {S : Sv}
theorem Src.lt (h : Src w g S a t) : g < w.heap.size := (Array.getElem?_eq_some_iff.1 h.blk).1
theorem Src.c0 (h : Src w g S a t) : w.cell? ⟨g, 0, none⟩ = some (.slice S.p S.n S.c) := cells_at h.blk 0
theorem Src.c1 (h : Src w g S a t) : w.cell? ⟨g, 1, none⟩ = some (.int .i64 a) := cells_at h.blk 1
theorem Src.c2 (h : Src w g S a t) : w.cell? ⟨g, 2, none⟩ = some (.slice S.q S.m S.d) := cells_at h.blk 2
theorem Src.c3 (h : Src w g S a t) : w.cell? ⟨g, 3, none⟩ = some (.int .i64 t) := cells_at h.blk 3
/-- its bytes and its numbers lie elsewhere -/
theorem Src.offp (h : Src w g S a t) : 0 < S.n → ∀ x, S.p = some x → x.block ≠ g := fun h0 x hx e => by
  obtain ⟨b, o, hp, hc⟩ := h.bat h0
  rw [hp] at hx; cases hx
  have h1 := hc 0 h0
  change b = g at e
  subst e
  rw [cells_at h.blk] at h1
  match o, h1 with
  | 0, h1 => simp at h1
  | 1, h1 => simp at h1
  | 2, h1 => simp at h1
  | 3, h1 => simp at h1
  | o + 4, h1 => simp at h1
/-- it is a source yet, where its block and what it leads to were kept -/
theorem Src.kept {T : Nat → Prop} (h : Src w g S a t) (hk : Kept T w w') (hg : ¬ T g) (hp : 0 < S.n → ∀ x, S.p = some x → ¬ T x.block) (hq : 0 < S.m → ∀ x, S.q = some x → ¬ T x.block) : Src w' g S a t :=
  ⟨hk.some_ h.blk hg, h.bat.kept hk hp, h.len, h.nc, h.cm, h.big, h.le, h.iat.kept hk hq, h.zlen, h.md, h.dm, h.turn, h.turn0⟩
theorem Src.kept0 (h : Src w g S a t) (hk : Kept noneB w w') : Src w' g S a t := h.kept hk id (fun _ _ _ => id) (fun _ _ _ => id)
end
/-- its numbers lie elsewhere -/
def Sv.off (S : Sv) (g : Nat) : Prop := 0 < S.m → ∀ x, S.q = some x → x.block ≠ g
section
variable {w w' : World} {g a t : Nat} {S : Sv}
theorem Src.at_ (h : Src w g S a t) (ho : S.off g) (b : Nat) (hb : b ≤ S.n) : Src (w.setCell ⟨g, 1, none⟩ (.int .i64 b)) g S b t := by
  have hk : Kept (oneB g) w (w.setCell ⟨g, 1, none⟩ (.int .i64 b)) := (Kept.refl (oneB g) w).setCell (Or.inr (show oneB g g from rfl)) _
  exact ⟨cells_set h.blk 1 _ (by simp), h.bat.kept hk h.offp, h.len, h.nc, h.cm, h.big, hb, h.iat.kept hk ho, h.zlen, h.md, h.dm, h.turn, h.turn0⟩
theorem Src.turn_ (h : Src w g S a t) (ho : S.off g) (b : Nat) (h1 : 0 < S.m → b < S.m) (h2 : S.m = 0 → b = 0) : Src (w.setCell ⟨g, 3, none⟩ (.int .i64 b)) g S a b := by
  have hk : Kept (oneB g) w (w.setCell ⟨g, 3, none⟩ (.int .i64 b)) := (Kept.refl (oneB g) w).setCell (Or.inr (show oneB g g from rfl)) _
  exact ⟨cells_set h.blk 3 _ (by simp), h.bat.kept hk h.offp, h.len, h.nc, h.cm, h.big, h.le, h.iat.kept hk ho, h.zlen, h.md, h.dm, h1, h2⟩
end

/-- what is left, as a value -/
def leftVal (S : Sv) (a : Nat) : Value := .slice (if S.c = a then S.p else S.p.map (·.add a)) (S.n - a) (S.c - a)
theorem left_any (w : World) (g a t : Nat) (S : Sv) (h : Src w g S a t) :
    Calls Tryz.prog 68 #[.pointer (some ⟨g, 0, none⟩)] w fun e w' => e = .returned (leftVal S a) ∧ Src w' g S a t ∧ Kept noneB w w' := by
  have h0 := h.c0
  have h1 := h.c1
  have hm := h.cm
  have hnc := h.nc
  have hle := h.le
  unfold maxLen at hm
  have H := Lib.hid h
  unfold leftVal
  clear h
  obtain ⟨p, n, c, bs, q, m, d, zs⟩ := S
  dsimp only at h0 hm hnc hle ⊢
  by_cases hca : c = a
  · subst hca
    go_enter Tryz.func68, Tryz.ntmps68
    go_wp2
    go_quiet (fail)
    go_wp2
    go_ret
    exact ⟨rfl, H.out.kept0 ((Kept.refl _ _).drewN _), (Kept.refl _ _).drewN _⟩
  · go_enter Tryz.func68, Tryz.ntmps68
    go_wp2
    go_quiet (fail)
    go_wp2
    go_ret
    exact ⟨rfl, H.out.kept0 ((Kept.refl _ _).drewN _), (Kept.refl _ _).drewN _⟩
end Go.Proofs.YtdjedimjhogdoaaGreatDoor.Block
end
section
namespace Go.Proofs.YtdjedimjhogdoaaGreatDoor.Block
open Go.ChangeShapes Go.WideShapes Go.ChangeAt Go.RowKit Go.Proofs.YtdjedimjhogdoaaGreatDoor.Base Go.Proofs.YtdjedimjhogdoaaGreatDoor.Byt Go.Lib
set_option linter.unusedVariables false

theorem chunk_none (w : World) (g a t : Nat) (S : Sv) (h : Src w g S a t) (hm0 : S.m = 0) (n : Int) :
    Calls Tryz.prog 113 #[.pointer (some ⟨g, 0, none⟩), .int .i64 n] w fun e w' => e = .returned (.int .i64 n) ∧ w = w' := by
  have h2 := h.c2
  rw [hm0] at h2
  clear h hm0
  go_enter Tryz.func113, Tryz.ntmps113
  go_wp2
  go_ret
  exact ⟨rfl, rfl⟩
def ChunkPost (w : World) (g a : Nat) (S : Sv) (n : Int) (e : Ending) (w' : World) : Prop :=
  ∃ (k : Int) (t' : Nat), e = .returned (.int .i64 k) ∧ 1 ≤ k ∧ k ≤ n ∧ Src w' g S a t' ∧ Kept (oneB g) w w'
theorem chunkPost_end {w : World} {g a t m : Nat} {S : Sv} {n k : Int} (H : Src w g S a t) (HO : S.off g) (hm : S.m = m) (hm0 : 0 < m) (h1 : 1 ≤ k) (h2 : k ≤ n) :
    ChunkPost w g a S n (.returned (.int .i64 k)) (w.setCell ⟨g, 3, none⟩ (.int .i64 (((t : Int) + 1) % (m : Int)))).drew.drew := by
  have e : (((t : Int) + 1) % (m : Int)) = (((t + 1) % m : Nat) : Int) := by simp
  rw [e]
  refine ⟨k, (t + 1) % m, rfl, h1, h2, ?_, ?_⟩
  · exact (H.turn_ HO _ (fun _ => by rw [hm]; exact Nat.mod_lt _ hm0) (fun h => by omega)).kept0 (((Kept.refl _ _).drew).drew)
  · exact (((Kept.refl (oneB g) w).setCell (Or.inr (show oneB g g from rfl)) _).drew).drew
set_option maxHeartbeats 800000 in
theorem chunk_some (w : World) (g a t : Nat) (S : Sv) (h : Src w g S a t) (ho : S.off g) (hm0 : 0 < S.m) (n : Int) (hn : 1 ≤ n) :
    Calls Tryz.prog 113 #[.pointer (some ⟨g, 0, none⟩), .int .i64 n] w (ChunkPost w g a S n) := by
  have h2 := h.c2
  have h3 := h.c3
  have f3 := cells_frozen h.blk 3
  obtain ⟨b, o, hq, hb, hc⟩ := h.iat hm0
  have ht := h.turn hm0
  have hcell := hc t ht
  have hdm := h.dm
  have hmd := h.md
  unfold maxLen at hdm
  obtain ⟨z, hz⟩ : ∃ z, z = S.zs.getD t 0 := ⟨_, rfl⟩
  rw [← hz] at hcell
  rw [hq] at h2
  have H := Lib.hid h
  have HO := Lib.hid ho
  have HM := Lib.hid hm0
  obtain ⟨m, hm⟩ : ∃ m, S.m = m := ⟨_, rfl⟩
  have HMM := Lib.hid hm
  rw [hm] at h2 ht hmd hm0
  clear h ho hc hb hz hq hm
  go_enter Tryz.func113, Tryz.ntmps113
  go_wp2
  go_region
  all_goals go_wp2
  all_goals go_region
  all_goals go_wp2
  all_goals go_ret
  all_goals exact chunkPost_end H.out HO.out HMM.out hm0 (by omega) (by omega)
theorem chunk_any (w : World) (g a t : Nat) (S : Sv) (h : Src w g S a t) (ho : S.off g) (n : Int) (hn : 1 ≤ n) :
    Calls Tryz.prog 113 #[.pointer (some ⟨g, 0, none⟩), .int .i64 n] w (ChunkPost w g a S n) := by
  rcases Nat.eq_zero_or_pos S.m with h0 | h0
  · refine (chunk_none w g a t S h h0 n).mono ?_
    rintro e w' ⟨rfl, rfl⟩
    exact ⟨n, t, rfl, hn, Int.le_refl _, h, Kept.refl _ _⟩
  · exact chunk_some w g a t S h ho h0 n hn

def PiecePost (w : World) (g a : Nat) (S : Sv) (n : Int) (e : Ending) (w' : World) : Prop :=
  ∃ (p : Option Addr) (k c t' : Nat), e = .returned (.slice p k c) ∧ a + k ≤ S.n ∧ (k : Int) ≤ n ∧ (a < S.n → 0 < k) ∧ k ≤ c ∧ BAt w' p k ((S.bs.drop a).take k) ∧ Src w' g S (a + k) t' ∧ Kept (oneB g) w w'
theorem left_bat {w : World} {g a t : Nat} {S : Sv} (h : Src w g S a t) : ∃ p, leftVal S a = .slice p (S.n - a) (S.c - a) ∧ BAt w p (S.n - a) (S.bs.drop a) ∧ (0 < S.n - a → ∀ x, p = some x → x.block ≠ g) :=
  ⟨_, rfl, h.bat.drop h.le h.nc h.len, fun h0 x hx => by
    rw [if_neg (by have := h.nc; omega)] at hx
    obtain ⟨y, hy, rfl⟩ := Option.map_eq_some_iff.1 hx
    have := h.offp (by omega) y hy
    unfold Addr.add
    split <;> exact this⟩
set_option maxHeartbeats 800000 in
theorem piece_any (w : World) (g a t : Nat) (S : Sv) (h : Src w g S a t) (ho : S.off g) (n : Int) (hn : 1 ≤ n) :
    Calls Tryz.prog 93 #[.pointer (some ⟨g, 0, none⟩), .int .i64 n] w (PiecePost w g a S n) := by
  have hle := h.le
  have hnc := h.nc
  have hcm := h.cm
  unfold maxLen at hcm
  obtain ⟨l, hl⟩ : ∃ l, l = S.n - a := ⟨_, rfl⟩
  obtain ⟨d, hd⟩ : ∃ d, d = S.c - a := ⟨_, rfl⟩
  have hld : l ≤ d := by omega
  have hdm : d ≤ 9223372036854775807 := by omega
  have hlm : a + l ≤ 9223372036854775807 := by omega
  have HL := Lib.hid hl
  have HD := Lib.hid hd
  have H := Lib.hid h
  have HO := Lib.hid ho
  have HLE := Lib.hid hle
  clear h ho hl hd hle hnc hcm
  go_enter Tryz.func93, Tryz.ntmps93
  go_wp2_with fail
  refine (left_any _ g a t S H.out).mono ?_
  rintro e w1 ⟨rfl, hs1, hk1⟩
  obtain ⟨p, hp, hb1, hoff⟩ := left_bat hs1
  have HOFF := Lib.hid hoff
  rw [hp, ← HL.out, ← HD.out]
  rw [← HL.out] at hb1
  have HS1 := Lib.hid hs1
  have HK1 := Lib.hid hk1
  have HB1 := Lib.hid hb1
  clear hs1 hk1 hb1 hp hoff
  go_wp2_with fail
  refine (chunk_any _ g a t S HS1.out HO.out n hn).mono ?_
  rintro e w2 ⟨k, t2, rfl, hk, hkn, hs2, hk2⟩
  have c1 := hs2.c1
  have f1 := cells_frozen hs2.blk 1
  have HS2 := Lib.hid hs2
  have HK2 := Lib.hid hk2
  clear hs2 hk2
  obtain ⟨m, rfl⟩ : ∃ m : Nat, k = m := ⟨k.toNat, by omega⟩
  have fin : ∀ j : Nat, 1 ≤ m → j ≤ l → (j : Int) ≤ n → (0 < l → 0 < j) → PiecePost w g a S n (.returned (.slice p j d)) (w2.setCell ⟨g, 1, none⟩ (.int .i64 ((a : Int) + (j : Int)))) := by
    intro j _ hj hjn hj0
    have e : ((a : Int) + (j : Int)) = ((a + j : Nat) : Int) := by simp
    rw [e]
    have hoff : 0 < j → ∀ x, p = some x → x.block ≠ g := fun h0 => HOFF.out (by have := HL.out; omega)
    have HLo := HL.out
    have hb2 := (HB1.out.take hj).kept HK2.out hoff
    have hk3 : Kept (oneB g) w2 (w2.setCell ⟨g, 1, none⟩ (.int .i64 ((a + j : Nat) : Int))) := (Kept.refl (oneB g) w2).setCell (Or.inr (show oneB g g from rfl)) _
    refine ⟨p, j, d, t2, rfl, ?_, hjn, fun h0 => hj0 (by omega), by omega, hb2.kept hk3 hoff, HS2.out.at_ HO.out _ ?_, ((HK1.out.of_none _).trans HK2.out).trans hk3⟩
    · have := HLE.out; omega
    · have := HLE.out; omega
  have FIN := Lib.hid fin
  clear fin
  go_wp2
  all_goals go_ret
  · exact FIN.out l (by omega) (Nat.le_refl _) (by omega) (fun h => h)
  · exact FIN.out m (by omega) (by omega) (by omega) (by omega)
end Go.Proofs.YtdjedimjhogdoaaGreatDoor.Block
end
section
namespace Go.Proofs.YtdjedimjhogdoaaGreatDoor.Block
open Go.ChangeShapes Go.WideShapes Go.ChangeAt Go.RowKit Go.Proofs.YtdjedimjhogdoaaGreatDoor.Base Go.Proofs.YtdjedimjhogdoaaGreatDoor.Byt Go.Lib
set_option linter.unusedVariables false

/-- a slice's length: for a measure -/
def lenV : Value → Nat | .slice _ n _ => n | _ => 0
/-- the value v holds the bytes bs in a row of its own, from block B on -/
def OwnB (w : World) (B : Nat) (v : Value) (n : Nat) (bs : List UInt8) : Prop := w.ownsRow B 5 1 v n ((nums bs).map (Value.int .u8))
theorem OwnB.kept {T : Nat → Prop} {w w' : World} {B : Nat} {v : Value} {n : Nat} {bs : List UInt8} (h : OwnB w B v n bs) (hk : Kept T w w') (hn : ∀ k, v.ownBlock = some k → ¬ T k) : OwnB w' B v n bs := ownsRow_kept h hk hn
theorem OwnB.slice {w : World} {B : Nat} {v : Value} {n : Nat} {bs : List UInt8} (h : OwnB w B v n bs) : ∃ p c, v = .slice p n c ∧ n ≤ c ∧ c ≤ maxLen ∧ BAt w p n bs ∧ bs.length = n ∧ ∀ x, p = some x → B ≤ x.block ∧ x.block < w.heap.size ∧ v.ownBlock = some x.block := by
  obtain ⟨p, c, hv, h1, h2, h3, h4⟩ := bat_of_own h (nums_bd bs)
  rw [bytesOf_nums] at h3 h4
  exact ⟨p, c, hv, h1, h2, h3, h4, own_block h hv⟩
theorem OwnB.lt {w : World} {B : Nat} {v : Value} {n : Nat} {bs : List UInt8} (h : OwnB w B v n bs) : ∀ k, v.ownBlock = some k → B ≤ k ∧ k < w.heap.size := World.ownsRow.lt h
theorem OwnB.mono {w : World} {B B' : Nat} {v : Value} {n : Nat} {bs : List UInt8} (h : OwnB w B v n bs) (hb : B' ≤ B) : OwnB w B' v n bs :=
  ⟨h.1, h.2.imp id fun ⟨g, cap, cur, h1, h2, h3⟩ => ⟨g, cap, cur, h1, Nat.le_trans hb h2, h3⟩⟩

/-- what a source leads to was there before: it is kept by what is written to rows made since -/
theorem Src.since {w0 w w' : World} {g a0 t0 a t : Nat} {S : Sv} (h0 : Src w0 g S a0 t0) (h : Src w g S a t) {T : Nat → Prop} (hk : Kept T w w') (hT : ∀ k, T k → w0.heap.size ≤ k) : Src w' g S a t :=
  h.kept hk (fun hh => by have := hT g hh; have := h0.lt; omega)
    (fun hn x hx hh => by
      obtain ⟨b, o, hp, hb, _⟩ := h0.bat.cell hn
      rw [hp] at hx; cases hx
      have := hT b hh
      omega)
    (fun hn x hx hh => by
      obtain ⟨b, o, hp, hb, _⟩ := h0.iat hn
      rw [hp] at hx; cases hx
      have := hT b hh
      omega)

def ReadPost (w : World) (g a : Nat) (S : Sv) (N : Nat) (e : Ending) (w' : World) : Prop :=
  (a + N ≤ S.n ∧ ∃ v, e = .returned (.tuple #[v, .int .i64 0]) ∧ OwnB w' w.heap.size v N ((S.bs.drop a).take N) ∧ (∃ t', Src w' g S (a + N) t') ∧ Kept (oneB g) w w') ∨
  (S.n < a + N ∧ e = .returned (.tuple #[.slice none 0 0, .int .i64 2]) ∧ (∃ t', Src w' g S S.n t') ∧ Kept (oneB g) w w')

/-- the loop's relation: j bytes were read -/
structure RInv (w : World) (g a : Nat) (S : Sv) (L N j : Nat) (v : Value) (wr : World) : Prop where
  own : OwnB wr w.heap.size v j ((S.bs.drop a).take j)
  src : ∃ t', Src wr g S (a + j) t'
  kept : Kept (oneB g) w wr
  jn : j ≤ N
  jl : j ≤ L
set_option maxHeartbeats 1600000 in
theorem srcRead_any (w : World) (g a t : Nat) (S : Sv) (h : Src w g S a t) (ho : S.off g) (N : Nat) (hN : N ≤ 9223372036854775807) :
    Calls Tryz.prog 69 #[.pointer (some ⟨g, 0, none⟩), .int .i64 (N : Int)] w (ReadPost w g a S N) := by
  obtain ⟨i0, hi, hz0, hz1, hz2⟩ := info_parts infoU8
  obtain ⟨L, hL⟩ : ∃ L, L = S.n - a := ⟨_, rfl⟩
  obtain ⟨C, hC1, hC2⟩ : ∃ C : Nat, (if (L : Int) < (N : Int) then (L : Int) else (N : Int)) = (C : Int) ∧ C ≤ L := by
    by_cases h : (L : Int) < (N : Int)
    · exact ⟨L, if_pos h, Nat.le_refl _⟩
    · exact ⟨N, if_neg h, by omega⟩
  have hC3 : (if L < N then (L : Int) else (N : Int)) = (C : Int) := by
    rw [← hC1]
    by_cases h : L < N
    · rw [if_pos h, if_pos (by omega)]
    · rw [if_neg h, if_neg (by omega)]
  have HI := Lib.hid hi
  have HZ0 := Lib.hid hz0
  have HZ1 := Lib.hid hz1
  have HZ2 := Lib.hid hz2
  have HL := Lib.hid hL
  have HCL := Lib.hid hC2
  have H := Lib.hid h
  have HO := Lib.hid ho
  clear hi hz0 hz1 hz2 hL hC2 h ho
  go_enter Tryz.func69, Tryz.ntmps69
  go_wp2_with fail
  refine (left_any _ g a t S H.out).mono ?_
  rintro e w1 ⟨rfl, hs1, hk1⟩
  obtain ⟨p, hp, hb1, hoff⟩ := left_bat hs1
  rw [hp, ← HL.out]
  have HS1 := Lib.hid hs1
  have HK1 := Lib.hid hk1
  clear hs1 hk1 hb1 hp hoff
  go_wp2_with (at_make; refine wpList_make_own _ rfl _ _ 22 rfl w1.heap.size 5 i0 (.int .u8 0) 1 Tryz.underlying22 HI.out HZ0.out HZ1.out .i64 .i64 (C : Int) C rfl rfl rfl ?b1 ?b2 (Nat.le_refl _) ?_)
  case b1 => rw [HZ2.out]; have := HS1.out.big; have := HL.out; have := HCL.out; omega
  case b2 => unfold maxLen; have := HS1.out.big; have := HL.out; have := HCL.out; omega
  intro w2 hown hgrow
  have hk2 : Kept (oneB g) w w2 := (HK1.out.of_none _).grown hgrow (by intro k hk; cases hk)
  have HR : RInv w g a S L N 0 (.slice (some ⟨w1.heap.size, 0, none⟩) 0 C) w2 := ⟨OwnB.mono (bs := []) hown HK1.out.size, ⟨t, by
    have := H.out.since HS1.out (T := noneB) ((Kept.refl noneB w1).grown hgrow (by intro k hk; cases hk)) (fun _ h => h.elim)
    simpa using this⟩, hk2, Nat.zero_le _, Nat.zero_le _⟩
  have HRH := Lib.hid HR
  clear hown hgrow hk2 HR hC1 hC3
  go_wp2
  go_loopw [6] (fun v wr => ∃ (j : Nat) (p : Option Addr) (c : Nat), j ≤ N ∧ v = .slice p j c ∧ Hid (RInv w g a S L N j v wr)) (fun v _ => N - lenV v)
  case atStart => exact ⟨0, _, C, Nat.zero_le _, rfl, HRH⟩
  case round =>
    obtain ⟨j, p, c, hjN, rfl, HRI⟩ := hrel
    obtain ⟨t3, hs3⟩ := HRI.out.src
    have HS3 := Lib.hid hs3
    clear hs3
    by_cases hlt : j < N
    · go_wp2_with fail
      refine (piece_any _ g (a + j) t3 S HS3.out HO.out ((N : Int) - (j : Int)) (by omega)).mono ?_
      rintro e w4 ⟨p', k, c', t4, rfl, hk1, hk2, hk3, hk4, hb, hs4, hkk⟩
      have hkn : j + k ≤ N := by omega
      have HB := Lib.hid hb
      have HS4 := Lib.hid hs4
      have HKK := Lib.hid hkk
      have HK1' := Lib.hid hk1
      have HK3' := Lib.hid hk3
      clear hb hs4 hkk hk1 hk3
      by_cases hk0 : k = 0
      · subst hk0
        have E : Hid (a + j = S.n) := Lib.hid (by have := HK1'.out; have := HK3'.out; omega)
        go_wp2
        go_ret2
        exact Or.inr ⟨by have := E.out; omega, rfl, ⟨t4, by have := HS4.out; rw [← E.out]; simpa using this⟩, HRI.out.kept.trans HKK.out⟩
      · have hko : ((k : Int) == 0) = false := by simpa using hk0
        have own4 : OwnB w4 w.heap.size (.slice p j c) j ((S.bs.drop a).take j) := HRI.out.own.kept HKK.out (fun x hx hg => by
          have := HRI.out.own.lt x hx
          have := H.out.lt
          have : x = g := hg
          omega)
        have OWN4 := Lib.hid own4
        clear own4
        go_wp2_with (at_builtin; refine append_bytes rfl _ _ 22 rfl w.heap.size 5 i0 Tryz.underlying22 HI.out HZ0.out HZ1.out HZ2.out _ j _ rfl OWN4.out p' k c' _ rfl HB.out ?d1 ?d2 ?d3 ?_)
        case d1 => have := HK1'.out; rw [List.length_take, List.length_drop, H.out.len]; omega
        case d2 => have := HK1'.out; have := H.out.big; omega
        case d3 => exact (HRI.out.kept.trans HKK.out).size
        intro v' w5 hown5 hgrow5
        have R5 : Hid (RInv w g a S L N (j + k) v' w5) := Lib.hid (by
          refine ⟨?_, ⟨t4, ?_⟩, ?_, hkn, ?_⟩
          · unfold OwnB
            have e : (S.bs.drop a).take (j + k) = (S.bs.drop a).take j ++ ((S.bs.drop (a + j)).take k) := by
              rw [List.take_add, List.drop_drop]
            rw [e]
            unfold nums at hown5 ⊢
            rw [List.map_append, List.map_append]
            exact hown5
          · have := H.out.since HS4.out (T := fun x => some x = (Value.slice p j c).ownBlock) ((Kept.refl _ w4).grown hgrow5 (fun x hx => Or.inr hx.symm)) (fun x hx => (OWN4.out.lt x hx.symm).1)
            rw [← Nat.add_assoc]
            exact this
          · exact (HRI.out.kept.trans HKK.out).grown hgrow5 (fun x hx => Or.inl (OWN4.out.lt x hx).1)
          · have := HK1'.out; have := HL.out; have := H.out.le; omega)
        obtain ⟨p5, c5, hv5, hrest⟩ := (show OwnB w5 w.heap.size v' (j + k) _ from R5.out.own).slice
        clear hrest hown5 hgrow5
        subst hv5
        go_wp2
        go_roundw
        case rel => exact ⟨j + k, _, c5, hkn, rfl, R5⟩
        case measure => simp [lenV]; omega
    · obtain rfl : j = N := by omega
      go_wp2
      go_ret2
      exact Or.inl ⟨by have := HRI.out.jl; have := HL.out; have := H.out.le; omega, _, rfl, HRI.out.own, ⟨t3, HS3.out⟩, HRI.out.kept⟩
end Go.Proofs.YtdjedimjhogdoaaGreatDoor.Block
end
section
namespace Go.Proofs.YtdjedimjhogdoaaGreatDoor.Byt
open Go.ChangeShapes Go.WideShapes Go.ChangeAt Go.RowKit Go.Proofs.YtdjedimjhogdoaaGreatDoor.Base Go.Lib
set_option linter.unusedVariables false

/-- the row of v' is the row of v, or new -/
def NewOr (w : World) (v v' : Value) : Prop := ∀ k, v'.ownBlock = some k → v.ownBlock = some k ∨ w.heap.size ≤ k
theorem NewOr.refl (w : World) (v : Value) : NewOr w v v := fun _ h => Or.inl h
theorem NewOr.trans {w w' : World} {v v' v'' : Value} (h : NewOr w v v') (h' : NewOr w' v' v'') (hs : w.heap.size ≤ w'.heap.size) : NewOr w v v'' := fun k hk => by
  rcases h' k hk with h1 | h1
  · exact h k h1
  · exact Or.inr (by omega)
theorem run_append_new {P : Program} {w : World} (base : Nat) (t ty e : TypeId) (i : TypeInfo) (z : Value) (bytes : Nat) (ht : P.underlying t = some (.slice e)) (hi : P.info? e = some i) (hz : i.zero = some z)
    (hsize : i.size = 1) (hby : i.bytes = bytes) (hzs : z.cells.size = 1)
    (v : Value) (n : Nat) (xs : List Value) (hown : w.ownsRow base e 1 v n xs)
    (a : Addr) (m c : Nat) (news : List Value) (hl : news.length = m * 1) (hnews : ∀ j u, news[j]? = some u → w.cell? (a.add j) = some u) (h1 : ∀ u ∈ news, u.oneCell' = true)
    (h63 : n + m ≤ maxLen) (hbytes : (n + m) * bytes ≤ 140737488355328) (hbase : base ≤ w.heap.size) :
    ∃ v' w', (Builtin.append_ #[t, t] ty #[v, .slice (some a) m c]).run P w = .ok v' w' ∧ w'.ownsRow base e 1 v' (n + m) (xs ++ news) ∧ w.grownBy w' v.ownBlock ∧ NewOr w v v' := by
  obtain ⟨v', w', hr, h2, h3, h4⟩ := run_append_own (P := P) w base t ty e i z 1 bytes ht hi hz hsize hby hzs (by decide) v n xs hown a m c news hl hnews h1 h63 hbytes hbase
  refine ⟨v', w', hr, h2, h3, ?_⟩
  have hown' := hown
  rcases hown.2 with ⟨rfl, rfl⟩ | ⟨g, cap, cur, rfl, hbg, hg, hnc, hcm, hcs, htake⟩
  · have hx : xs = [] := List.eq_nil_of_length_eq_zero (by simpa using hown.1)
    subst hx
    obtain ⟨v2, w2, hr2, h22, _, _⟩ := run_append_own (P := P) w w.heap.size t ty e i z 1 bytes ht hi hz hsize hby hzs (by decide) _ 0 [] (World.ownsRow_nil w w.heap.size e 1) a m c news hl hnews h1 h63 hbytes (Nat.le_refl _)
    rw [hr] at hr2
    cases hr2
    exact fun k hk => Or.inr (h22.lt k hk).1
  · by_cases hroom : n + m ≤ cap
    · obtain ⟨w2, hr2, _, _⟩ := run_append_own_spare (P := P) w base t ty e i 1 ht hi hsize g n cap xs hown' a m c news hl hnews h1 hroom
      rw [hr] at hr2
      cases hr2
      exact fun k hk => Or.inl hk
    · have holds : ∀ j u, xs[j]? = some u → w.cell? ((⟨g, 0, none⟩ : Addr).add j) = some u := hown'.cells (g := g) rfl
      have hr2 := run_append_grow (P := P) w t ty e i z ht hi hz ⟨g, 0, none⟩ n cap xs (by rw [hsize]; exact hown'.1) holds a m c news (by rw [hsize]; exact hl) hnews (by omega) (by unfold maxLen at h63; omega) (growslice_fits (by omega) (by rw [hby]; exact hbytes))
      rw [hr] at hr2
      cases hr2
      exact fun k hk => Or.inr (by simp [Value.ownBlock] at hk; omega)
theorem append_bytes_new {P : Program} {w : World} {ops : Array Oper} {rest : List Oper} {o : Oper} {a : Act} {Q : Exit → Act → World → Prop} (hgd : o.guard = none) (s x : Operand) (t : TypeId)
    (ho : o.op = .call { callee := .builtin .append, args := #[s, x], argTypes := #[t, t] })
    (base : Nat) (e : TypeId) (i : TypeInfo) (ht : P.underlying t = some (.slice e)) (hi : P.info? e = some i) (hz : i.zero = some (.int .u8 0)) (hsize : i.size = 1) (hby : i.bytes = 1)
    (v : Value) (n : Nat) (xs : List Int) (hs : a.eval s = v) (hown : w.ownsRow base e 1 v n (xs.map (Value.int .u8)))
    (p : Option Addr) (m c : Nat) (bs : List UInt8) (hx : a.eval x = .slice p m c) (hb : BAt w p m bs) (hl : bs.length = m) (hsum : n + m ≤ 140737488351232) (hbase : base ≤ w.heap.size)
    (h : ∀ v' w', w'.ownsRow base e 1 v' (n + m) ((xs ++ nums bs).map (Value.int .u8)) → w.grownBy w' v.ownBlock → NewOr w v v' → wpList P ops Q rest (a.put o.dst v') w') : wpList P ops Q (o :: rest) a w := by
  rcases p with _ | ad
  · have hm : m = 0 := by
      rcases Nat.eq_zero_or_pos m with h0 | h0
      · exact h0
      · obtain ⟨_, _, he, _⟩ := hb h0
        cases he
    subst hm
    obtain rfl : bs = [] := List.eq_nil_of_length_eq_zero hl
    have hrun : (Builtin.append_ #[t, t] o.type #[v, .slice none 0 c]).run P w = .ok v w := by
      rcases hown.2 with ⟨rfl, rfl⟩ | ⟨g, cap, cur, rfl, _, _, hnc, _⟩
      · simp [Builtin.append_, run_underlying ht, sizeOf, typeInfo, hi, Builtin.lenOf, Builtin.firstCells]
      · simp [Builtin.append_, run_underlying ht, sizeOf, typeInfo, hi, Builtin.lenOf, Builtin.firstCells, hnc, storeCells]
    refine wpList_plain hgd fun K hK => ?_
    unfold Oper.wp
    simp [execOp, ho, resolve, invoke, builtin, hs, hx, hrun, Result.andThen]
    exact hK _ _ (h v w (by simpa [nums] using hown) (World.grownBy.refl w _) (NewOr.refl w v))
  · obtain ⟨v', w', hr, h2, h3, h4⟩ := run_append_new (P := P) base t o.type e i (.int .u8 0) 1 ht hi hz hsize hby rfl v n (xs.map (Value.int .u8)) hown ad m c ((nums bs).map (Value.int .u8)) (by rw [List.length_map, nums_length, hl]; omega) (by
      intro j u hj
      have hjl : j < m := by
        have := (List.getElem?_eq_some_iff.1 hj).1
        rw [List.length_map, nums_length, hl] at this
        exact this
      obtain ⟨b, off, he, hc⟩ := hb (by omega)
      cases he
      rw [nums_getElem bs j (by omega)] at hj
      cases hj
      rw [add_plain]
      exact hc j hjl) (ints_oneCell .u8 _) (by unfold maxLen; omega) (by omega) hbase
    refine wpList_plain hgd fun K hK => ?_
    unfold Oper.wp
    simp [execOp, ho, resolve, invoke, builtin, hs, hx, hr, Result.andThen]
    rw [← List.map_append] at h2
    exact hK _ _ (h v' w' h2 h3 h4)
theorem made_u8 (n : Nat) : (madeCells #[Value.int .u8 0] n).toList = (nums (List.replicate n 0)).map (Value.int .u8) := by
  rw [toList_madeCells_one, nums, List.map_replicate, List.map_replicate]
  rfl
end Go.Proofs.YtdjedimjhogdoaaGreatDoor.Byt
end
section
namespace Go.Proofs.YtdjedimjhogdoaaGreatDoor.Mem
open Go.ChangeShapes Go.WideShapes Go.ChangeAt Go.RowKit Go.Proofs.YtdjedimjhogdoaaGreatDoor.Base Go.Proofs.YtdjedimjhogdoaaGreatDoor.Byt Go.Proofs.YtdjedimjhogdoaaGreatDoor.Txt Go.Proofs.YtdjedimjhogdoaaGreatDoor.Bk Go.Lib
set_option linter.unusedVariables false
set_option maxRecDepth 100000

/-- a member, and where its body is -/
structure MP where
  m : MemV
  p : Option Addr
  c : Nat
def zeroM : MemV := ⟨[], [], 0, 0, 0, 0, 0, []⟩
def zeroP : MP := ⟨zeroM, none, 0⟩
def memC (m : MemV) (p : Option Addr) (c : Nat) : Array Value := #[.string (str m.path), .string (str m.target), .int .u8 (m.kind.toNat : Int), .int .i64 m.mode, .int .i64 m.uid, .int .i64 m.gid, .int .i64 m.time, .slice p m.body.length c]
def MP.cs (x : MP) : Array Value := memC x.m x.p x.c
theorem MP.cs_list (x : MP) : x.cs.toList = [.string (str x.m.path), .string (str x.m.target), .int .u8 (x.m.kind.toNat : Int), .int .i64 x.m.mode, .int .i64 x.m.uid, .int .i64 x.m.gid, .int .i64 x.m.time, .slice x.p x.m.body.length x.c] := rfl
/-- its body is there -/
structure BodyAt (w : World) (x : MP) : Prop where
  bat : BAt w x.p x.m.body.length x.m.body
  le : x.m.body.length ≤ x.c
  mx : x.c ≤ maxLen
theorem BodyAt.kept {S : Nat → Prop} {w w' : World} {x : MP} (h : BodyAt w x) (hk : Kept S w w') (hn : 0 < x.m.body.length → ∀ a, x.p = some a → ¬ S a.block) : BodyAt w' x := ⟨h.bat.kept hk hn, h.le, h.mx⟩
theorem BodyAt.below {w w' : World} {x : MP} (h : BodyAt w x) (hb : Below w.heap.size w w') : BodyAt w' x := ⟨h.bat.below hb, h.le, h.mx⟩
def flatM (xs : List MP) : List Value := xs.flatMap fun x => x.cs.toList
theorem flatM_cons (x : MP) (xs : List MP) : flatM (x :: xs) = x.cs.toList ++ flatM xs := rfl
theorem flatM_length (xs : List MP) : (flatM xs).length = 8 * xs.length := by
  induction xs with
  | nil => rfl
  | cons x xs ih => rw [flatM_cons, List.length_append, ih, MP.cs_list, List.length_cons]; simp only [List.length_cons, List.length_nil]; omega
theorem flatM_snoc (xs : List MP) (x : MP) : flatM (xs ++ [x]) = flatM xs ++ x.cs.toList := by simp [flatM]
theorem flatM_app (a b : List MP) : flatM (a ++ b) = flatM a ++ flatM b := by simp [flatM]
theorem flatM_get (xs : List MP) : ∀ i, i < xs.length → ∀ j, j < 8 → (flatM xs)[8 * i + j]? = (xs.getD i zeroP).cs[j]? := by
  induction xs with
  | nil => intro i h; simp at h
  | cons x xs ih =>
    intro i h j hj
    rw [flatM_cons]
    have hl : x.cs.toList.length = 8 := rfl
    cases i with
    | zero => rw [List.getElem?_append_left (by omega), show 8 * 0 + j = j by omega, Array.getElem?_toList]; rfl
    | succ i =>
      rw [List.getElem?_append_right (by omega), hl, show 8 * (i + 1) + j - 8 = 8 * i + j by omega, ih i (by simpa using h) j hj]
      rfl
theorem flatM_one (xs : List MP) : ∀ u ∈ flatM xs, u.oneCell' = true := by
  intro u hu
  obtain ⟨x, _, hr⟩ := List.mem_flatMap.1 hu
  rw [MP.cs_list] at hr
  simp only [List.mem_cons, List.not_mem_nil, or_false] at hr
  rcases hr with rfl | rfl | rfl | rfl | rfl | rfl | rfl | rfl <;> rfl
/-- the n members at p are xs -/
def MemsAt (w : World) (p : Option Addr) (n : Nat) (xs : List MP) : Prop :=
  xs.length = n ∧ (∀ x ∈ xs, BodyAt w x) ∧ (0 < n → ∃ b o, p = some ⟨b, o, none⟩ ∧ b < w.heap.size ∧ ∀ i, i < n → ∀ j, j < 8 → w.cell? ⟨b, o + 8 * i + j, none⟩ = (xs.getD i zeroP).cs[j]?)
theorem MemsAt.below {w w' : World} {p : Option Addr} {n : Nat} {xs : List MP} (h : MemsAt w p n xs) (hb : Below w.heap.size w w') : MemsAt w' p n xs := by
  refine ⟨h.1, fun x hx => (h.2.1 x hx).below hb, fun h0 => ?_⟩
  obtain ⟨b, o, rfl, hbw, hc⟩ := h.2.2 h0
  refine ⟨b, o, rfl, Nat.lt_of_lt_of_le hbw hb.size, fun i hi j hj => ?_⟩
  rw [hb.cell (p := ⟨b, o + 8 * i + j, none⟩) hbw]
  exact hc i hi j hj
theorem mems_nil (w : World) (p : Option Addr) : MemsAt w p 0 [] := ⟨rfl, fun x hx => by simp at hx, fun h => by omega⟩
/-- what the call made itself -/
theorem mems_own {w : World} {base : Nat} {e : TypeId} {v : Value} {xs : List MP} (h : w.ownsRow base e 8 v xs.length (flatM xs)) (hx : ∀ x ∈ xs, BodyAt w x) : ∃ p c, v = .slice p xs.length c ∧ xs.length ≤ c ∧ c ≤ maxLen ∧ MemsAt w p xs.length xs := by
  rcases h.2 with ⟨rfl, h0⟩ | ⟨g, cap, cur, rfl, hb, hg, hn, hc, hs, ht⟩
  · exact ⟨none, 0, by rw [h0], by omega, by decide, rfl, hx, fun h => by omega⟩
  · refine ⟨some ⟨g, 0, none⟩, cap, rfl, hn, hc, rfl, hx, fun h0 => ⟨g, 0, rfl, (Array.getElem?_eq_some_iff.1 hg).1, fun i hi j hj => ?_⟩⟩
    have get : ∀ j, j < 8 * xs.length → w.cell? ⟨g, j, none⟩ = (flatM xs)[j]? := fun j hj => by
      unfold World.cell?
      rw [hg, ← ht, List.getElem?_take, if_pos (by omega)]
      simp
    rw [Nat.zero_add, get _ (by omega)]
    exact flatM_get xs i hi j hj
/-- the cells of one of them -/
theorem MemsAt.cells {w : World} {p : Option Addr} {n : Nat} {xs : List MP} (h : MemsAt w p n xs) {i : Nat} (hi : i < n) : ∃ b o, p = some ⟨b, o, none⟩ ∧ b < w.heap.size ∧ BodyAt w (xs.getD i zeroP) ∧
    w.cell? ⟨b, o + 8 * i, none⟩ = some (.string (str (xs.getD i zeroP).m.path)) ∧ w.cell? ⟨b, o + 8 * i + 1, none⟩ = some (.string (str (xs.getD i zeroP).m.target)) ∧
    w.cell? ⟨b, o + 8 * i + 2, none⟩ = some (.int .u8 ((xs.getD i zeroP).m.kind.toNat : Int)) ∧ w.cell? ⟨b, o + 8 * i + 3, none⟩ = some (.int .i64 (xs.getD i zeroP).m.mode) ∧
    w.cell? ⟨b, o + 8 * i + 4, none⟩ = some (.int .i64 (xs.getD i zeroP).m.uid) ∧ w.cell? ⟨b, o + 8 * i + 5, none⟩ = some (.int .i64 (xs.getD i zeroP).m.gid) ∧
    w.cell? ⟨b, o + 8 * i + 6, none⟩ = some (.int .i64 (xs.getD i zeroP).m.time) ∧ w.cell? ⟨b, o + 8 * i + 7, none⟩ = some (.slice (xs.getD i zeroP).p (xs.getD i zeroP).m.body.length (xs.getD i zeroP).c) := by
  obtain ⟨b, o, rfl, hbw, hc⟩ := h.2.2 (by omega)
  have hb : BodyAt w (xs.getD i zeroP) := h.2.1 _ (by
    have hl : i < xs.length := by rw [h.1]; exact hi
    rw [List.getD, List.getElem?_eq_getElem hl]
    exact List.getElem_mem hl)
  exact ⟨b, o, rfl, hbw, hb, hc i hi 0 (by omega), hc i hi 1 (by omega), hc i hi 2 (by omega), hc i hi 3 (by omega), hc i hi 4 (by omega), hc i hi 5 (by omega), hc i hi 6 (by omega), hc i hi 7 (by omega)⟩
/-- rows that agree so far -/
theorem mems_same (xs ys : List MP) (hl : xs.length = ys.length) (h : ∀ j, j < xs.length → (xs.getD j zeroP).m = (ys.getD j zeroP).m) : xs.map MP.m = ys.map MP.m := by
  apply List.ext_getElem (by simpa using hl)
  intro i h1 h2
  simp only [List.length_map] at h1 h2
  have := h i h1
  rw [List.getD, List.getD, List.getElem?_eq_getElem h1, List.getElem?_eq_getElem h2] at this
  simpa using this
theorem mems_differ (xs ys : List MP) (j : Nat) (hj : j < xs.length) (hj2 : j < ys.length) (h : (xs.getD j zeroP).m ≠ (ys.getD j zeroP).m) : ¬ xs.map MP.m = ys.map MP.m := fun he => h (by
  have := congrArg (fun l => l[j]?) he
  simp only [List.getElem?_map, List.getElem?_eq_getElem hj, List.getElem?_eq_getElem hj2, Option.map_some, Option.some.injEq] at this
  rw [List.getD, List.getD, List.getElem?_eq_getElem hj, List.getElem?_eq_getElem hj2]
  simpa using this)
theorem infoMem : (Tryz.prog.info? 37).map (fun i => (i.zero, i.size, i.bytes)) = some (some (.agg #[.string ⟨#[]⟩, .string ⟨#[]⟩, .int .u8 0, .int .i64 0, .int .i64 0, .int .i64 0, .int .i64 0, .slice none 0 0]), 8, 96) := by kernel_rfl
/-! ### append, with where the row lies behind it -/
theorem run_append_newS {P : Program} {w : World} (base : Nat) (t ty e : TypeId) (i : TypeInfo) (z : Value) (size bytes : Nat) (ht : P.underlying t = some (.slice e)) (hi : P.info? e = some i) (hz : i.zero = some z)
    (hsize : i.size = size) (hby : i.bytes = bytes) (hzs : z.cells.size = size) (hsz : 0 < size)
    (v : Value) (n : Nat) (xs : List Value) (hown : w.ownsRow base e size v n xs)
    (a : Addr) (m c : Nat) (news : List Value) (hl : news.length = m * size) (hnews : ∀ j u, news[j]? = some u → w.cell? (a.add j) = some u) (h1 : ∀ u ∈ news, u.oneCell' = true)
    (h63 : n + m ≤ maxLen) (hbytes : (n + m) * bytes ≤ 140737488355328) (hbase : base ≤ w.heap.size) :
    ∃ v' w', (Builtin.append_ #[t, t] ty #[v, .slice (some a) m c]).run P w = .ok v' w' ∧ w'.ownsRow base e size v' (n + m) (xs ++ news) ∧ w.grownBy w' v.ownBlock ∧ NewOr w v v' := by
  obtain ⟨v', w', hr, h2, h3, h4⟩ := run_append_own (P := P) w base t ty e i z size bytes ht hi hz hsize hby hzs hsz v n xs hown a m c news hl hnews h1 h63 hbytes hbase
  refine ⟨v', w', hr, h2, h3, ?_⟩
  have hown' := hown
  rcases hown.2 with ⟨rfl, rfl⟩ | ⟨g, cap, cur, rfl, hbg, hg, hnc, hcm, hcs, htake⟩
  · have hx : xs = [] := List.eq_nil_of_length_eq_zero (by simpa using hown.1)
    subst hx
    obtain ⟨v2, w2, hr2, h22, _, _⟩ := run_append_own (P := P) w w.heap.size t ty e i z size bytes ht hi hz hsize hby hzs hsz _ 0 [] (World.ownsRow_nil w w.heap.size e size) a m c news hl hnews h1 h63 hbytes (Nat.le_refl _)
    rw [hr] at hr2
    cases hr2
    exact fun k hk => Or.inr (h22.lt k hk).1
  · by_cases hroom : n + m ≤ cap
    · obtain ⟨w2, hr2, _, _⟩ := run_append_own_spare (P := P) w base t ty e i size ht hi hsize g n cap xs hown' a m c news hl hnews h1 hroom
      rw [hr] at hr2
      cases hr2
      exact fun k hk => Or.inl hk
    · have holds : ∀ j u, xs[j]? = some u → w.cell? ((⟨g, 0, none⟩ : Addr).add j) = some u := hown'.cells (g := g) rfl
      have hr2 := run_append_grow (P := P) w t ty e i z ht hi hz ⟨g, 0, none⟩ n cap xs (by rw [hsize]; exact hown'.1) holds a m c news (by rw [hsize]; exact hl) hnews (by omega) (by unfold maxLen at h63; omega) (growslice_fits (by omega) (by rw [hby]; exact hbytes))
      rw [hr] at hr2
      cases hr2
      exact fun k hk => Or.inr (by simp [Value.ownBlock] at hk; omega)
theorem append_member {w : World} {ops : Array Oper} {rest : List Oper} {o : Oper} {a : Act} {Q : Exit → Act → World → Prop} (hgd : o.guard = none) (s x : Operand)
    (ho : o.op = .call { callee := .builtin .append, args := #[s, x], argTypes := #[25, 25] })
    (base : Nat) (v : Value) (xs : List MP) (hs : a.eval s = v) (hown : w.ownsRow base 37 8 v xs.length (flatM xs))
    (b : Nat) (c : Nat) (y : MP) (hx : a.eval x = .slice (some ⟨b, 0, none⟩) 1 c) (hb : Blk w b 37 y.cs) (hsum : xs.length ≤ 1000000) (hbase : base ≤ w.heap.size)
    (h : ∀ v' w', w'.ownsRow base 37 8 v' (xs ++ [y]).length (flatM (xs ++ [y])) → w.grownBy w' v.ownBlock → NewOr w v v' → wpList Tryz.prog ops Q rest (a.put o.dst v') w') : wpList Tryz.prog ops Q (o :: rest) a w := by
  obtain ⟨i0, hi, hz0, hz1, hz2⟩ := info_parts infoMem
  obtain ⟨v', w', hr, h2, h3, h4⟩ := run_append_newS (P := Tryz.prog) base 25 o.type 37 i0 _ 8 96 Tryz.underlying25 hi hz0 hz1 hz2 rfl (by decide) v xs.length (flatM xs) hown ⟨b, 0, none⟩ 1 c y.cs.toList rfl (by
    intro j u hj
    rw [add_plain, Nat.zero_add, hb.cell, ← Array.getElem?_toList]
    exact hj) (fun u hu => flatM_one [y] u (by simpa [flatM] using hu)) (by unfold maxLen; omega) (by omega) hbase
  refine wpList_plain hgd fun K hK => ?_
  unfold Oper.wp
  simp [execOp, ho, resolve, invoke, builtin, hs, hx, hr, Result.andThen]
  rw [← flatM_snoc, show xs.length + 1 = (xs ++ [y]).length by simp] at h2
  exact hK _ _ (h v' w' h2 h3 h4)
end Go.Proofs.YtdjedimjhogdoaaGreatDoor.Mem
end
section
namespace Go.Proofs.YtdjedimjhogdoaaGreatDoor.Mem
open Go.Lib Go.Proofs.YtdjedimjhogdoaaGreatDoor.Fp Go.Proofs.YtdjedimjhogdoaaGreatDoor.Hp Go.Proofs.YtdjedimjhogdoaaGreatDoor.Path Go.Proofs.YtdjedimjhogdoaaGreatDoor.Rec Go.Proofs.YtdjedimjhogdoaaGreatDoor.Attr
set_option linter.unusedVariables false

theorem restD_zero (base : Int) (hb : 0 < base) : ∀ (k : Nat) (n : Int), 0 ≤ n → n < base ^ k → restD base k n = 0
  | 0, n, h0, h1 => by simp only [Int.pow_zero] at h1; simp only [restD]; omega
  | k + 1, n, h0, h1 => by
    rw [restD]
    refine restD_zero base hb k _ (Int.ediv_nonneg h0 (by omega)) (Int.ediv_lt_of_lt_mul hb ?_)
    rwa [Int.pow_succ] at h1
theorem putF8 {n : Int} (h0 : 0 ≤ n) (h1 : n < 2097152) : (putF n 8).isSome = true := by
  rw [putF_fits h0 (by omega) (by omega) (by omega) (restD_zero 8 (by omega) _ n h0 (by simpa using h1))]; rfl
theorem putF12 {n : Int} (h0 : 0 ≤ n) (h1 : n < 8589934592) : (putF n 12).isSome = true := by
  rw [putF_fits h0 (by omega) (by omega) (by omega) (restD_zero 8 (by omega) _ n h0 (by simpa using h1))]; rfl
theorem putR_is {h : HeadV} (hc : (cutR h.name).isSome = true) (hb : badH h = false) (hn : numsOk h = true) : ∃ H, putR h = some H ∧ H.length = 512 ∧ headR H = (h, 0) := by
  obtain ⟨ps, hps⟩ := Option.isSome_iff_exists.1 hc
  have e : putR h = some (blockA (own2 h ps.1 ps.2)) := by
    unfold putR
    rw [hps]
    simp [hb, hn]
  exact ⟨_, e, blockA_length _, headR_put e⟩
theorem ascii_text (l : List UInt8) (h : ∀ b ∈ l, 0 < b.toNat ∧ b.toNat < 128) : textD l = true := by
  induction l with
  | nil => exact textD_nil
  | cons c l ih =>
    obtain ⟨h1, h2⟩ := head_one c (h c (List.mem_cons_self ..)) l
    rw [textD_step _ (by simp), if_pos h1, h2]
    exact ih fun b hb => h b (List.mem_cons_of_mem _ hb)
theorem text_nozero {l : List UInt8} (h : textD l = true) : ∀ x ∈ l, x ≠ 0 := by
  rw [text_valid, Bool.and_eq_true, Bool.not_eq_true'] at h
  intro x hx e
  subst e
  have := h.2
  rw [List.contains_eq_mem, decide_eq_false_iff_not] at this
  exact this hx
theorem dec_text (n : Nat) : textD (decL n) = true := ascii_text _ fun b hb => by
  have := decL_dig n b hb
  simp only [isDig, decide_eq_true_eq] at this
  omega
theorem dec_ne (n : Nat) : decL n ≠ [] := List.length_pos_iff.1 (decL_pos n)
theorem whole_dec {n : Nat} (h : n < 10 ^ 18) : wholeD (decL n) = some n := by
  have h1 := decL_pos n
  have h2 := dec_le n 18 (by omega) h
  have h3 : (decL n).all isDig = true := List.all_eq_true.2 (decL_dig n)
  rw [wholeD, if_neg (by omega), if_pos h3, valL_dec]
theorem index_none (l : List UInt8) (c : UInt8) (h : c ∉ l) : indexByte l c = -1 := by
  induction l with
  | nil => rfl
  | cons b l ih =>
    have hb : (b == c) = false := beq_eq_false_iff_ne.2 fun e => h (by rw [e]; exact List.mem_cons_self ..)
    have hi := ih fun hc => h (List.mem_cons_of_mem _ hc)
    simp [indexByte, hb, hi]
theorem sec_dec {n : Nat} (h : n < 10 ^ 18) : secD (decL n) = some n := by
  have : indexByte (decL n) 46 = -1 := index_none _ _ fun hc => by
    have := decL_dig n 46 hc
    exact absurd this (by decide)
  rw [secD, this, if_neg (by omega), whole_dec h]
/-! ### what is known of a good member -/
structure GoodM (m : MemV) : Prop where
  path : cleanD 9 6 m.path = (m.path, 0)
  pathT : textD m.path = true
  pathN : m.path ≠ []
  pathL : m.path.length ≤ 200
  mode : 0 ≤ m.mode ∧ m.mode ≤ 4095
  uid : 0 ≤ m.uid ∧ m.uid < 2147483648
  gid : 0 ≤ m.gid ∧ m.gid < 2147483648
  time : 0 ≤ m.time ∧ m.time ≤ 1099511627776
  body : m.body.length ≤ 1048576
  file : m.kind ≠ 48 → m.body = []
  kind : m.kind = 48 ∨ m.kind = 49 ∨ m.kind = 50 ∨ m.kind = 53
  none : m.kind = 48 ∨ m.kind = 53 → m.target = []
  hard : m.kind = 49 → cleanD 9 6 m.target = (m.target, 0)
  sym : m.kind = 50 → targetD 9 6 m.target = 0
  targT : textD m.target = true
  targL : m.target.length ≤ 200
theorem clean_facts {l : List UInt8} (h : cleanD 9 6 l = (l, 0)) : textD l = true ∧ l ≠ [] ∧ l.length ≤ 200 := by
  have h1 := (clean_ok 9 6 (by omega) (by omega) l l).1 h
  have h2 := clean_self 9 6 (by omega) (by omega) l l h
  exact ⟨h1.1, h2.2.1, h2.2.2.2⟩
theorem target_facts {l : List UInt8} (h : targetD 9 6 l = 0) : textD l = true ∧ l ≠ [] ∧ l.length ≤ 200 := by
  unfold targetD at h
  split at h
  · omega
  · rename_i h1
    split at h
    · omega
    · rename_i h2
      simp only [not_or] at h2
      exact ⟨by simpa using h1, h2.1, by omega⟩
theorem good_facts {m : MemV} (h : goodD m = true) : GoodM m := by
  simp only [goodD, Bool.and_eq_true, cleanOk, metaOk, decide_eq_true_eq, Bool.or_eq_true, beq_iff_eq] at h
  obtain ⟨⟨⟨⟨h1, h2⟩, h3⟩, h4⟩, h5⟩ := h
  obtain ⟨p1, p2, p3⟩ := clean_facts h1
  have hk : (m.kind = 48 ∨ m.kind = 49 ∨ m.kind = 50 ∨ m.kind = 53) ∧ ((m.kind = 48 ∨ m.kind = 53) → m.target = []) ∧ (m.kind = 49 → cleanD 9 6 m.target = (m.target, 0)) ∧ (m.kind = 50 → targetD 9 6 m.target = 0) := by
    split at h5
    · rename_i hk
      refine ⟨by rcases hk with e | e <;> simp [e], fun _ => by simpa using h5, fun e => ?_, fun e => ?_⟩ <;> (rw [e] at hk; exact absurd hk (by decide))
    · rename_i hk
      split at h5
      · rename_i hk2
        refine ⟨by simp [hk2], fun e => absurd e hk, fun _ => by simpa using h5, fun e => ?_⟩
        rw [hk2] at e; exact absurd e (by decide)
      · rename_i hk2
        split at h5
        · rename_i hk3
          exact ⟨by simp [hk3], fun e => absurd e hk, fun e => absurd e hk2, fun _ => by simpa using h5⟩
        · cases h5
  obtain ⟨k1, k2, k3, k4⟩ := hk
  have ht : textD m.target = true ∧ m.target.length ≤ 200 := by
    rcases k1 with e | e | e | e
    · rw [k2 (.inl e)]; exact ⟨textD_nil, by simp⟩
    · have := clean_facts (k3 e); exact ⟨this.1, this.2.2⟩
    · have := target_facts (k4 e); exact ⟨this.1, this.2.2⟩
    · rw [k2 (.inr e)]; exact ⟨textD_nil, by simp⟩
  exact ⟨h1, p1, p2, p3, by omega, by omega, by omega, by omega, h3, fun hn => h4.resolve_left hn, k1, k2, k3, k4, ht.1, ht.2⟩
/-! ### its header and its records -/
theorem headM_put {m : MemV} (h : GoodM m) : ∃ H, putR (headM m) = some H ∧ H.length = 512 ∧ headR H = (headM m, 0) := by
  refine putR_is ?_ ?_ ?_
  · show (cutR (if longP m then longN else m.path)).isSome = true
    split
    · rfl
    · rename_i hp
      simp only [longP, Bool.or_eq_true, not_or, Bool.not_eq_true, Option.isNone_eq_false_iff] at hp
      exact hp.1
  · have hz1 : (headM m).name.contains 0 = false := by
      show (if longP m then longN else m.path).contains 0 = false
      split
      · decide
      · rw [List.contains_eq_mem, decide_eq_false_iff_not]
        exact fun hx => text_nozero h.pathT 0 hx rfl
    have hz2 : (headM m).link.contains 0 = false := by
      show (if longL m then longN else m.target).contains 0 = false
      split
      · decide
      · rw [List.contains_eq_mem, decide_eq_false_iff_not]
        exact fun hx => text_nozero h.targT 0 hx rfl
    have hl : (headM m).link.length ≤ 100 := by
      show (if longL m then longN else m.target).length ≤ 100
      split
      · decide
      · rename_i hp
        simp only [longL, Bool.or_eq_true, not_or, Bool.not_eq_true, decide_eq_false_iff_not] at hp
        omega
    have hk : (m.kind == 0) = false := by rcases h.kind with e | e | e | e <;> rw [e] <;> decide
    have hk' : ((headM m).kind == 0) = false := hk
    have hg : (headM m).gnu = false := rfl
    have hl' : decide (100 < (headM m).link.length) = false := decide_eq_false (by omega)
    simp only [badH, hz1, hz2, hk', hg, hl', Bool.or_false]
  · refine numsOk_iff.2 fun i h1 h2 => ?_
    have hm := h.mode
    have hu := h.uid
    have hg := h.gid
    have ht := h.time
    have hb := h.body
    obtain rfl | rfl | rfl | rfl | rfl : i = 1 ∨ i = 2 ∨ i = 3 ∨ i = 4 ∨ i = 5 := by omega
    · exact putF8 (n := m.mode) hm.1 (by omega)
    · show (putF (if 2097151 < m.uid then 0 else m.uid) 8).isSome = true
      split
      · exact putF8 (by omega) (by omega)
      · exact putF8 hu.1 (by omega)
    · show (putF (if 2097151 < m.gid then 0 else m.gid) 8).isSome = true
      split
      · exact putF8 (by omega) (by omega)
      · exact putF8 hg.1 (by omega)
    · exact putF12 (n := (m.body.length : Int)) (by omega) (by omega)
    · show (putF (if 8589934591 < m.time then 0 else m.time) 12).isSome = true
      split
      · exact putF12 (by omega) (by omega)
      · exact putF12 ht.1 (by omega)
theorem ext_put (name : List UInt8) (hn : name.length ≤ 100) (hz : name.contains 0 = false) (k : UInt8) (hk : k ≠ 0) (n : Nat) (hs : n ≤ 1048576) : ∃ H, putR ⟨name, [], k, 0, 0, 0, 0, (n : Int), false⟩ = some H ∧ H.length = 512 ∧ headR H = (⟨name, [], k, 0, 0, 0, 0, (n : Int), false⟩, 0) := by
  refine putR_is (by rw [cutR_short hn]; rfl) ?_ (numsOk_iff.2 fun i h1 h2 => ?_)
  · have : (k == 0) = false := beq_eq_false_iff_ne.2 hk
    simp only [badH, hz, this, List.length_nil, List.contains_nil, Bool.or_false]
    rfl
  · obtain rfl | rfl | rfl | rfl | rfl : i = 1 ∨ i = 2 ∨ i = 3 ∨ i = 4 ∨ i = 5 := by omega
    · exact putF8 (n := 0) (by omega) (by omega)
    · exact putF8 (n := 0) (by omega) (by omega)
    · exact putF8 (n := 0) (by omega) (by omega)
    · exact putF12 (n := (n : Int)) (by omega) (by omega)
    · exact putF12 (n := 0) (by omega) (by omega)
theorem paxH_put {n : Nat} (hs : n ≤ 1048576) : ∃ H, putR (paxH n) = some H ∧ H.length = 512 ∧ headR H = (paxH n, 0) := ext_put paxN (by decide) (by decide) 120 (by decide) n hs
theorem may_key (i : Nat) (hi : i < 6) {v : List UInt8} (h1 : textD v = true) (h2 : v.length ≤ 200) : mayD (keyT i) v = true := by
  have hk : (keyT i).contains 61 = false ∧ (keyT i).isEmpty = false ∧ textD (keyT i) = true ∧ (keyT i).length ≤ 8 := by
    obtain rfl | rfl | rfl | rfl | rfl | rfl : i = 0 ∨ i = 1 ∨ i = 2 ∨ i = 3 ∨ i = 4 ∨ i = 5 := by omega
    all_goals exact ⟨by decide, by decide, ascii_text _ (by decide), by decide⟩
  obtain ⟨k1, k2, k3, k4⟩ := hk
  simp only [mayD, k1, k2, k3, h1, Bool.not_false, Bool.true_and, decide_eq_true_eq]
  omega
theorem dec_len {n : Int} (h0 : 0 ≤ n) (h : n ≤ 1099511627776) : (decL n.toNat).length ≤ 18 := dec_le _ 18 (by omega) (by omega)
theorem recsM_may {m : MemV} (h : GoodM m) : ∀ r ∈ recsM m, mayD r.1 r.2 = true := by
  intro r hr
  have hu := h.uid
  have hg := h.gid
  have ht := h.time
  simp only [recsM, List.mem_append] at hr
  have d : ∀ (c : Prop) [Decidable c] (k v : List UInt8), r ∈ (if c then [(k, v)] else []) → r = (k, v) := fun c _ k v hr => by
    split at hr
    · exact List.mem_singleton.1 hr
    · cases hr
  rcases hr with (((hr | hr) | hr) | hr) | hr <;> (have e := d _ _ _ hr; subst e)
  · exact may_key 4 (by omega) h.pathT h.pathL
  · exact may_key 5 (by omega) h.targT h.targL
  · exact may_key 0 (by omega) (dec_text _) (by have := dec_len hu.1 (by omega); show (decL _).length ≤ 200; omega)
  · exact may_key 1 (by omega) (dec_text _) (by have := dec_len hg.1 (by omega); show (decL _).length ≤ 200; omega)
  · exact may_key 2 (by omega) (dec_text _) (by have := dec_len ht.1 (by omega); show (decL _).length ≤ 200; omega)
theorem recs_may_back {l : RecL} (h : ∀ r ∈ l, mayD r.1 r.2 = true) : recsD 5 9 (linesD l) = (l, 0) := by
  have := recs_lines 5 9 l [] [] h
  rw [List.append_nil, List.nil_append, recsFrom_nil] at this
  exact this
theorem lines_le {n : Nat} : ∀ {l : RecL}, (∀ r ∈ l, mayD r.1 r.2 = true ∧ r.1.length + r.2.length ≤ n) → (linesD l).length ≤ l.length * (n + 10)
  | [], _ => by simp [linesD]
  | r :: l, h => by
    have ih := lines_le fun x hx => h x (List.mem_cons_of_mem _ hx)
    obtain ⟨h1, h2⟩ := h r (List.mem_cons_self ..)
    obtain ⟨d, _, _, _, _, hd7, _, hlen⟩ := line_parts h1
    have e : linesD (r :: l) = lineD r.1 r.2 ++ linesD l := by simp [linesD]
    rw [e, List.length_append, hlen, List.length_cons, Nat.succ_mul]
    omega
end Go.Proofs.YtdjedimjhogdoaaGreatDoor.Mem
end
section
namespace Go.Proofs.YtdjedimjhogdoaaGreatDoor.Mem
open Go.Lib Go.Proofs.YtdjedimjhogdoaaGreatDoor.Fp Go.Proofs.YtdjedimjhogdoaaGreatDoor.Hp Go.Proofs.YtdjedimjhogdoaaGreatDoor.Path Go.Proofs.YtdjedimjhogdoaaGreatDoor.Rec Go.Proofs.YtdjedimjhogdoaaGreatDoor.Attr
set_option linter.unusedVariables false

/-! ### what records make of a good member's header -/
theorem lastD_if (c : Prop) [Decidable c] (k v q : List UInt8) : lastD (if c then [(k, v)] else []) q = if c ∧ k = q then some v else none := by
  by_cases h : c
  · by_cases hk : k = q <;> simp [lastD, h, hk]
  · simp [lastD, h]
theorem recsM_last (m : MemV) : lastD (recsM m) (keyT 0) = (if 2097151 < m.uid then some (decL m.uid.toNat) else none) ∧ lastD (recsM m) (keyT 1) = (if 2097151 < m.gid then some (decL m.gid.toNat) else none) ∧
    lastD (recsM m) (keyT 2) = (if 8589934591 < m.time then some (decL m.time.toNat) else none) ∧ lastD (recsM m) (keyT 3) = none ∧ lastD (recsM m) (keyT 4) = (if longP m = true then some m.path else none) ∧
    lastD (recsM m) (keyT 5) = (if longL m = true then some m.target else none) := by
  unfold recsM
  simp only [lastD_app, lastD_if]
  have e10 : ¬ keyT 1 = keyT 0 := by decide
  have e20 : ¬ keyT 2 = keyT 0 := by decide
  have e40 : ¬ keyT 4 = keyT 0 := by decide
  have e50 : ¬ keyT 5 = keyT 0 := by decide
  have e01 : ¬ keyT 0 = keyT 1 := by decide
  have e21 : ¬ keyT 2 = keyT 1 := by decide
  have e41 : ¬ keyT 4 = keyT 1 := by decide
  have e51 : ¬ keyT 5 = keyT 1 := by decide
  have e02 : ¬ keyT 0 = keyT 2 := by decide
  have e12 : ¬ keyT 1 = keyT 2 := by decide
  have e42 : ¬ keyT 4 = keyT 2 := by decide
  have e52 : ¬ keyT 5 = keyT 2 := by decide
  have e03 : ¬ keyT 0 = keyT 3 := by decide
  have e13 : ¬ keyT 1 = keyT 3 := by decide
  have e23 : ¬ keyT 2 = keyT 3 := by decide
  have e43 : ¬ keyT 4 = keyT 3 := by decide
  have e53 : ¬ keyT 5 = keyT 3 := by decide
  have e04 : ¬ keyT 0 = keyT 4 := by decide
  have e14 : ¬ keyT 1 = keyT 4 := by decide
  have e24 : ¬ keyT 2 = keyT 4 := by decide
  have e54 : ¬ keyT 5 = keyT 4 := by decide
  have e05 : ¬ keyT 0 = keyT 5 := by decide
  have e15 : ¬ keyT 1 = keyT 5 := by decide
  have e25 : ¬ keyT 2 = keyT 5 := by decide
  have e45 : ¬ keyT 4 = keyT 5 := by decide
  simp only [e10, e20, e40, e50, e01, e21, e41, e51, e02, e12, e42, e52, e03, e13, e23, e43, e53, e04, e14, e24, e54, e05, e15, e25, e45, and_true, and_false, if_false]
  refine ⟨?_, ?_, ?_, ?_, ?_, ?_⟩
  · by_cases h : 2097151 < m.uid <;> simp [h]
  · by_cases h : 2097151 < m.gid <;> simp [h]
  · by_cases h : 8589934591 < m.time <;> simp [h]
  · simp
  · simp
  · by_cases h : longL m = true <;> simp [h]
/-- what is global changes a user at most -/
def goodF (F : List UInt8 → Option (List UInt8)) : Prop :=
  (∀ i, 1 ≤ i → i < 6 → (F (keyT i)).getD [] = []) ∧ ((F (keyT 0)).getD [] = [] ∨ ∃ n, wholeD ((F (keyT 0)).getD []) = some n ∧ n < 2147483648)
theorem goodF_nil : goodF (lastD []) := ⟨fun i _ _ => rfl, .inl rfl⟩
/-- a member's user, where something is global -/
def uidG (F : List UInt8 → Option (List UInt8)) (m : MemV) : Int :=
  if 2097151 < m.uid then m.uid else if (F (keyT 0)).getD [] = [] then m.uid else (((wholeD ((F (keyT 0)).getD [])).getD 0 : Nat) : Int)
def withG (F : List UInt8 → Option (List UInt8)) (m : MemV) : MemV := { m with uid := uidG F m }
theorem withG_nil (m : MemV) : withG (lastD []) m = m := by
  have : uidG (lastD []) m = m.uid := by
    unfold uidG
    split
    · rfl
    · exact if_pos rfl
  unfold withG
  rw [this]
theorem uidG_ok {F : List UInt8 → Option (List UInt8)} {m : MemV} (hF : goodF F) (h : GoodM m) : 0 ≤ uidG F m ∧ uidG F m < 2147483648 := by
  unfold uidG
  have := h.uid
  split
  · exact this
  · split
    · exact this
    · rename_i h1 h2
      obtain ⟨n, hn, hl⟩ := hF.2.resolve_left h2
      rw [hn]
      simp only [Option.getD_some]
      omega
theorem apply_headM {F : List UInt8 → Option (List UInt8)} {m : MemV} (hF : goodF F) (h : GoodM m) :
    applyD F (recsM m) (headM m) = (⟨m.path, m.target, m.kind, m.mode, uidG F m, m.gid, m.time, (m.body.length : Int), false⟩, 0) := by
  obtain ⟨l0, l1, l2, l3, l4, l5⟩ := recsM_last m
  obtain ⟨f, f0⟩ := hF
  have hu := h.uid
  have hg := h.gid
  have ht := h.time
  have n0 : numD1 false (valueD F (recsM m) (keyT 0)) (headM m).uid = some (uidG F m) := by
    have e : (headM m).uid = if 2097151 < m.uid then 0 else m.uid := rfl
    unfold valueD uidG
    rw [l0, e]
    by_cases hc : 2097151 < m.uid
    · simp only [if_pos hc]
      unfold numD1
      rw [if_neg (dec_ne _)]
      simp only [Bool.false_eq_true, if_false]
      rw [whole_dec (by omega)]
      simp only [Option.map_some]
      congr 1
      show ((m.uid.toNat : Nat) : Int) = m.uid
      omega
    · simp only [if_neg hc]
      unfold numD1
      by_cases hz : (F (keyT 0)).getD [] = []
      · rw [if_pos hz, if_pos hz]
      · rw [if_neg hz, if_neg hz]
        obtain ⟨n, hn, _⟩ := f0.resolve_left hz
        simp only [Bool.false_eq_true, if_false]
        rw [hn]
        rfl
  have n1 : numD1 false (valueD F (recsM m) (keyT 1)) (headM m).gid = some m.gid := by
    have e : (headM m).gid = if 2097151 < m.gid then 0 else m.gid := rfl
    unfold valueD
    rw [l1, e]
    by_cases hc : 2097151 < m.gid
    · simp only [if_pos hc]
      unfold numD1
      rw [if_neg (dec_ne _)]
      simp only [Bool.false_eq_true, if_false]
      rw [whole_dec (by omega)]
      simp only [Option.map_some]
      congr 1
      show ((m.gid.toNat : Nat) : Int) = m.gid
      omega
    · simp only [if_neg hc]
      unfold numD1
      rw [if_pos (f 1 (by omega) (by omega))]
  have n2 : numD1 true (valueD F (recsM m) (keyT 2)) (headM m).time = some m.time := by
    have e : (headM m).time = if 8589934591 < m.time then 0 else m.time := rfl
    unfold valueD
    rw [l2, e]
    by_cases hc : 8589934591 < m.time
    · simp only [if_pos hc]
      unfold numD1
      rw [if_neg (dec_ne _)]
      simp only [if_true]
      rw [sec_dec (by omega)]
      simp only [Option.map_some]
      congr 1
      show ((m.time.toNat : Nat) : Int) = m.time
      omega
    · simp only [if_neg hc]
      unfold numD1
      rw [if_pos (f 2 (by omega) (by omega))]
  have n3 : numD1 false (valueD F (recsM m) (keyT 3)) (headM m).size = some (m.body.length : Int) := by
    unfold valueD
    rw [l3]
    unfold numD1
    rw [if_pos (f 3 (by omega) (by omega))]
    rfl
  have n4 : textD1 (valueD F (recsM m) (keyT 4)) (headM m).name = m.path := by
    have e : (headM m).name = if longP m then longN else m.path := rfl
    unfold valueD
    rw [l4, e]
    by_cases hc : longP m = true
    · simp only [if_pos hc]
      unfold textD1
      rw [if_neg h.pathN]
    · simp only [if_neg hc]
      unfold textD1
      rw [if_pos (f 4 (by omega) (by omega))]
  have n5 : textD1 (valueD F (recsM m) (keyT 5)) (headM m).link = m.target := by
    have e : (headM m).link = if longL m then longN else m.target := rfl
    unfold valueD
    rw [l5, e]
    by_cases hc : longL m = true
    · simp only [if_pos hc]
      unfold textD1
      rw [if_neg]
      intro e
      rw [longL, e] at hc
      simp [fitsD] at hc
    · simp only [if_neg hc]
      unfold textD1
      rw [if_pos (f 5 (by omega) (by omega))]
  unfold applyD applyV
  simp only [n0, n1, n2, n3, n4, n5]
  rfl
/-- what a good member's header says of it -/
theorem memOf_headM {m : MemV} (h : GoodM m) {s : RS} (hF : goodF (lastD s.glob)) (ho : s.own = recsM m) (hn : s.name = none) (hl : s.link = none) :
    memOf (headM m) s = .ok ({ withG (lastD s.glob) m with body := [] }, (m.body.length : Int)) := by
  have ha := apply_headM hF h
  have e : ({ headM m with name := s.name.getD (headM m).name, link := s.link.getD (headM m).link } : HeadV) = headM m := by rw [hn, hl]; rfl
  have hu := uidG_ok hF h
  have hm : metaOk m.mode (uidG (lastD s.glob) m) m.gid m.time = true := by
    have h1 := h.mode
    have h2 := h.gid
    have h3 := h.time
    simp only [metaOk, decide_eq_true_eq]
    omega
  unfold memOf
  simp only [ho, e, ha]
  rw [if_neg (by simp), h.path, if_neg (by simp), hm, if_neg (by simp), if_neg (by rintro ⟨hk, hd⟩; rw [h.hard hk] at hd; exact hd rfl), if_neg (by rintro ⟨hk, hd⟩; exact hd (h.sym hk)),
    if_neg (by rintro ⟨hk, hd⟩; rw [h.file hk] at hd; exact hd rfl), if_neg (by have := h.body; omega)]
  have ht : (if m.kind = 49 then (cleanD 9 6 m.target).1 else if m.kind = 50 then m.target else []) = m.target := by
    split
    · rename_i hk
      rw [h.hard hk]
    · rename_i hk
      split
      · rfl
      · rename_i hk2
        exact (h.none (by rcases h.kind with e | e | e | e <;> simp_all)).symm
  rw [ht]
  rfl
/-! ### steps -/
theorem head_known {H : List UInt8} {h : HeadV} (hr : headR H = (h, 0)) : fieldB H 9 = ustarB ∨ fieldB H 9 = gnuB := by
  unfold headR at hr
  split at hr
  · cases (Prod.mk.inj hr).2
  · split at hr
    · cases (Prod.mk.inj hr).2
    · split at hr
      · cases (Prod.mk.inj hr).2
      · rename_i _ _ h9
        by_cases h1 : fieldB H 9 = ustarB
        · exact .inl h1
        · by_cases h2 : fieldB H 9 = gnuB
          · exact .inr h2
          · exact absurd ⟨h1, h2⟩ h9
theorem head_notzero {H : List UInt8} {h : HeadV} (hr : headR H = (h, 0)) : zeroB H = false := by
  cases hz : zeroB H with
  | false => rfl
  | true =>
    have hm : (117 : UInt8) ∈ fieldB H 9 ∨ (117 : UInt8) ∈ fieldB H 9 := by
      rcases head_known hr with e | e <;> rw [e] <;> simp [ustarB, gnuB]
    have hm : (117 : UInt8) ∈ H := List.mem_of_mem_drop (List.mem_of_mem_take (hm.elim id id))
    rw [zeroB, List.all_eq_true] at hz
    exact absurd (hz 117 hm) (by decide)
theorem step_known {L H : List UInt8} {h : HeadV} (hL : 512 ≤ L.length) (hH : L.take 512 = H) (hr : headR H = (h, 0)) (s : RS) : stepD L s = if isExt h.kind then extD L h s else memD L h s := by
  unfold stepD
  rw [if_neg (by omega), hH, head_notzero hr, if_neg (by simp), hr, if_neg (by simp)]
theorem take_head {H X : List UInt8} (hH : H.length = 512) : (H ++ X).take 512 = H := by rw [← hH, List.take_left']; rfl
/-- records of one member -/
theorem step_x {H : List UInt8} {h : HeadV} (hH : H.length = 512) (hr : headR H = (h, 0)) (hk : h.kind = 120) {body : List UInt8} (hz : h.size = (body.length : Int)) (hb : body.length ≤ 1048576) {rs : RecL} (hrs : recsD 5 9 body = (rs, 0)) (rest : List UInt8) (s : RS) (hx : s.hasX = false) :
    stepD (H ++ (padB body ++ rest)) s = .next (512 + blocksOf body.length) { s with hasX := true, own := rs } := by
  rw [step_known (by rw [List.length_append]; omega) (take_head hH) hr, hk, if_pos (by decide), extD, hk, if_neg (by simp [hx]), hz, if_neg (by omega), bodyN_pad H body rest hH (by omega)]
  simp only [hrs]
  rfl
/-- records of all that come -/
theorem step_g {H : List UInt8} {h : HeadV} (hH : H.length = 512) (hr : headR H = (h, 0)) (hk : h.kind = 103) {body : List UInt8} (hz : h.size = (body.length : Int)) (hb : body.length ≤ 1048576) {rs : RecL} (hrs : recsD 5 9 body = (rs, 0)) (rest : List UInt8) (s : RS) :
    stepD (H ++ (padB body ++ rest)) s = .next (512 + blocksOf body.length) { s with glob := s.glob ++ rs } := by
  rw [step_known (by rw [List.length_append]; omega) (take_head hH) hr, hk, if_pos (by decide), extD, hk, if_neg (by simp), hz, if_neg (by omega), bodyN_pad H body rest hH (by omega)]
  simp only [hrs]
  rfl
theorem step_n {H : List UInt8} {h : HeadV} (hH : H.length = 512) (hr : headR H = (h, 0)) (hk : h.kind = 76) {body : List UInt8} (hz : h.size = (body.length : Int)) (hb : body.length ≤ 1048576) (rest : List UInt8) (s : RS) (hx : s.name = none) :
    stepD (H ++ (padB body ++ rest)) s = .next (512 + blocksOf body.length) { s with name := some (untilB body) } := by
  rw [step_known (by rw [List.length_append]; omega) (take_head hH) hr, hk, if_pos (by decide), extD, hk, if_neg (by simp [hx]), hz, if_neg (by omega), bodyN_pad H body rest hH (by omega)]
  rfl
theorem step_l {H : List UInt8} {h : HeadV} (hH : H.length = 512) (hr : headR H = (h, 0)) (hk : h.kind = 75) {body : List UInt8} (hz : h.size = (body.length : Int)) (hb : body.length ≤ 1048576) (rest : List UInt8) (s : RS) (hx : s.link = none) :
    stepD (H ++ (padB body ++ rest)) s = .next (512 + blocksOf body.length) { s with link := some (untilB body) } := by
  rw [step_known (by rw [List.length_append]; omega) (take_head hH) hr, hk, if_pos (by decide), extD, hk, if_neg (by simp [hx]), hz, if_neg (by omega), bodyN_pad H body rest hH (by omega)]
  rfl
theorem memK {k : UInt8} (h : k = 48 ∨ k = 49 ∨ k = 50 ∨ k = 53) : isExt k = false ∧ ¬ (k ≠ 48 ∧ k ≠ 49 ∧ k ≠ 50 ∧ k ≠ 53) := by
  rcases h with e | e | e | e <;> rw [e] <;> exact ⟨by decide, by decide⟩
/-- a member -/
theorem step_m {H : List UInt8} {h : HeadV} (hH : H.length = 512) (hr : headR H = (h, 0)) (hk : h.kind = 48 ∨ h.kind = 49 ∨ h.kind = 50 ∨ h.kind = 53) {body : List UInt8} {m : MemV} {s : RS} (hm : memOf h s = .ok (m, (body.length : Int))) (hb : body.length ≤ 1048576) (rest : List UInt8) (ho : s.out.length < 4096) :
    stepD (H ++ (padB body ++ rest)) s = .next (512 + blocksOf body.length) { s with out := s.out ++ [{ m with body := body }], own := [], name := none, link := none, hasX := false } := by
  obtain ⟨k1, k2⟩ := memK hk
  rw [step_known (by rw [List.length_append]; omega) (take_head hH) hr, k1, if_neg (by simp), memD, if_neg (by omega), if_neg k2, hm]
  simp only
  rw [bodyN_pad H body rest hH (by omega)]
/-! ### what is cut -/
theorem bodyN_short {L : List UInt8} {n : Nat} (h : L.length < 512 + blocksOf n) (h0 : 512 ≤ L.length) : bodyN L (n : Int) = none := by
  unfold bodyN
  rw [if_pos (.inr (by rw [Int.toNat_natCast]; omega))]
theorem step_less {L : List UInt8} (h : L.length < 512) (s : RS) : stepD L s = .fault 2 := by
  unfold stepD
  rw [if_pos h]
theorem take_take_head {H X : List UInt8} (hH : H.length = 512) {k : Nat} (hk : 512 ≤ k) : ((H ++ X).take k).take 512 = H := by
  rw [List.take_take, Nat.min_eq_left hk, take_head hH]
theorem step_cut_x {H : List UInt8} {h : HeadV} (hH : H.length = 512) (hr : headR H = (h, 0)) (hk : h.kind = 120) {n : Nat} (hz : h.size = (n : Int)) (hb : n ≤ 1048576) (X : List UInt8) (s : RS) (hx : s.hasX = false) {k : Nat} (h1 : k < 512 + blocksOf n) : stepD ((H ++ X).take k) s = .fault 2 := by
  by_cases hl : ((H ++ X).take k).length < 512
  · exact step_less hl s
  · have hlk : ((H ++ X).take k).length ≤ k := by rw [List.length_take]; omega
    rw [step_known (by omega) (take_take_head hH (by omega)) hr, hk, if_pos (by decide), extD, hk, if_neg (by simp [hx]), hz, if_neg (by omega), bodyN_short (by omega) (by omega)]
theorem step_cut_m {H : List UInt8} {h : HeadV} (hH : H.length = 512) (hr : headR H = (h, 0)) (hk : h.kind = 48 ∨ h.kind = 49 ∨ h.kind = 50 ∨ h.kind = 53) {n : Nat} {m : MemV} {s : RS} (hm : memOf h s = .ok (m, (n : Int))) (X : List UInt8) (ho : s.out.length < 4096) {k : Nat} (h1 : k < 512 + blocksOf n) : stepD ((H ++ X).take k) s = .fault 2 := by
  by_cases hl : ((H ++ X).take k).length < 512
  · exact step_less hl s
  · have hlk : ((H ++ X).take k).length ≤ k := by rw [List.length_take]; omega
    obtain ⟨k1, k2⟩ := memK hk
    rw [step_known (by omega) (take_take_head hH (by omega)) hr, k1, if_neg (by simp), memD, if_neg (by omega), if_neg k2, hm]
    simp only
    rw [bodyN_short (by omega) (by omega)]
end Go.Proofs.YtdjedimjhogdoaaGreatDoor.Mem
end
section
namespace Go.Proofs.YtdjedimjhogdoaaGreatDoor.Mem
open Go.Lib Go.Proofs.YtdjedimjhogdoaaGreatDoor.Fp Go.Proofs.YtdjedimjhogdoaaGreatDoor.Hp Go.Proofs.YtdjedimjhogdoaaGreatDoor.Path Go.Proofs.YtdjedimjhogdoaaGreatDoor.Rec Go.Proofs.YtdjedimjhogdoaaGreatDoor.Attr
set_option linter.unusedVariables false

/-- nothing is kept for the member that comes -/
structure Bare (s : RS) : Prop where
  own : s.own = []
  name : s.name = none
  link : s.link = none
  hasX : s.hasX = false
theorem start_bare : Bare startS := ⟨rfl, rfl, rfl, rfl⟩
/-- a member more -/
def moreS (s : RS) (ms : List MemV) : RS := { s with out := s.out ++ ms }
theorem moreS_bare {s : RS} (h : Bare s) (ms : List MemV) : Bare (moreS s ms) := ⟨h.own, h.name, h.link, h.hasX⟩
theorem bare_again {s : RS} (h : Bare s) (ms : List MemV) : ({ s with out := s.out ++ ms, own := [], name := none, link := none, hasX := false } : RS) = moreS s ms := by
  obtain ⟨h1, h2, h3, h4⟩ := h
  cases s
  simp only at h1 h2 h3 h4
  subst h1; subst h2; subst h3; subst h4
  rfl
theorem withG_body (F : List UInt8 → Option (List UInt8)) (m : MemV) : ({ ({ withG F m with body := [] } : MemV) with body := m.body } : MemV) = withG F m := rfl
theorem lines_nil {l : RecL} (hm : ∀ r ∈ l, mayD r.1 r.2 = true) (h : linesD l = []) : l = [] := by
  have h1 := recs_may_back hm
  rw [h] at h1
  have h2 : recsD 5 9 [] = ([], 0) := rfl
  rw [h2] at h1
  exact (Prod.mk.inj h1).1.symm
theorem linesM_le {m : MemV} (h : GoodM m) : (linesD (recsM m)).length ≤ 1048576 := by
  have h1 := recsM_may h
  have h2 : (recsM m).length ≤ 5 := by
    have d : ∀ (c : Prop) [Decidable c] (k v : List UInt8), (if c then [(k, v)] else []).length ≤ 1 := fun c _ k v => by split <;> simp
    simp only [recsM, List.length_append]
    have d1 := d (longP m = true) (keyT 4) m.path
    have d2 := d (longL m = true) (keyT 5) m.target
    have d3 := d (2097151 < m.uid) (keyT 0) (decL m.uid.toNat)
    have d4 := d (2097151 < m.gid) (keyT 1) (decL m.gid.toNat)
    have d5 := d (8589934591 < m.time) (keyT 2) (decL m.time.toNat)
    omega
  have h3 := lines_le (n := 100000) fun r hr => ⟨h1 r hr, (mayD_spec (h1 r hr)).2.2.2.2⟩
  have h4 : (recsM m).length * (100000 + 10) ≤ 5 * (100000 + 10) := Nat.mul_le_mul_right _ h2
  omega
/-- how a good member is laid: a header and what it holds, ahead of it another one for records, if there are any -/
theorem put_laid {m : MemV} (h : GoodM m) : ∃ H, putR (headM m) = some H ∧ H.length = 512 ∧ headR H = (headM m, 0) ∧
    ((recsM m = [] ∧ putM m = H ++ padB m.body) ∨ ∃ X, putR (paxH (linesD (recsM m)).length) = some X ∧ X.length = 512 ∧ headR X = (paxH (linesD (recsM m)).length, 0) ∧ putM m = X ++ padB (linesD (recsM m)) ++ (H ++ padB m.body)) := by
  obtain ⟨H, h1, h2, h3⟩ := headM_put h
  refine ⟨H, h1, h2, h3, ?_⟩
  by_cases hl : linesD (recsM m) = []
  · refine .inl ⟨lines_nil (recsM_may h) hl, ?_⟩
    rw [putM, if_pos hl, h1]
    rfl
  · obtain ⟨X, x1, x2, x3⟩ := paxH_put (linesM_le h)
    refine .inr ⟨X, x1, x2, x3, ?_⟩
    rw [putM, if_neg hl, h1, x1]
    rfl
/-- a header and what it holds: the member's own -/
theorem read_head {m : MemV} (h : GoodM m) {H : List UInt8} (hH : H.length = 512) (hr : headR H = (headM m, 0)) {s : RS} (hF : goodF (lastD s.glob)) (ho : s.own = recsM m) (hn : s.name = none) (hl : s.link = none) (hs : s.out.length < 4096) (rest : List UInt8) (at_ : Nat) :
    readFrom (H ++ (padB m.body ++ rest)) at_ s = readFrom rest (at_ + (512 + blocksOf m.body.length)) { s with out := s.out ++ [withG (lastD s.glob) m], own := [], name := none, link := none, hasX := false } := by
  rw [readFrom_next (step_m hH hr h.kind (memOf_headM h hF ho hn hl) h.body rest hs), drop_pad H m.body rest hH, withG_body]
/-- a good member is read again -/
theorem read_one {m : MemV} (h : GoodM m) {s : RS} (hs : Bare s) (hF : goodF (lastD s.glob)) (ho : s.out.length < 4096) (rest : List UInt8) (at_ : Nat) :
    readFrom (putM m ++ rest) at_ s = readFrom rest (at_ + (putM m).length) (moreS s [withG (lastD s.glob) m]) := by
  obtain ⟨H, _, h2, h3, hl⟩ := put_laid h
  rcases hl with ⟨hr, e⟩ | ⟨X, _, x2, x3, e⟩
  · have hlen : (putM m).length = 512 + blocksOf m.body.length := by rw [e, List.length_append, h2, padB_length]
    rw [hlen, e, List.append_assoc, read_head h h2 h3 hF (by rw [hs.own, hr]) hs.name hs.link ho, bare_again hs]
  · have hlen : (putM m).length = 512 + blocksOf (linesD (recsM m)).length + (512 + blocksOf m.body.length) := by
      rw [e, List.length_append, List.length_append, List.length_append, h2, x2, padB_length, padB_length]
    rw [hlen, e, List.append_assoc, List.append_assoc, readFrom_next (step_x x2 x3 rfl rfl (linesM_le h) (recs_may_back (recsM_may h)) _ s hs.hasX), drop_pad X _ _ x2, List.append_assoc,
      read_head (s := { s with hasX := true, own := recsM m }) h h2 h3 hF rfl hs.name hs.link ho, Nat.add_assoc]
    congr 1
    exact bare_again hs _
def putAllM (ms : List MemV) : List UInt8 := (ms.map putM).flatten
theorem putAllM_cons (m : MemV) (ms : List MemV) : putAllM (m :: ms) = putM m ++ putAllM ms := by simp [putAllM]
theorem putAllM_app (a b : List MemV) : putAllM (a ++ b) = putAllM a ++ putAllM b := by simp [putAllM]
theorem archD_eq (ms : List MemV) : archD ms = putAllM ms ++ List.replicate 1024 0 := rfl
theorem moreS_more (s : RS) (a b : List MemV) : moreS (moreS s a) b = moreS s (a ++ b) := by simp [moreS]
theorem moreS_glob (s : RS) (a : List MemV) : (moreS s a).glob = s.glob := rfl
theorem moreS_out (s : RS) (a : List MemV) : (moreS s a).out = s.out ++ a := rfl
/-- good members are read again -/
theorem read_all : ∀ (ms : List MemV) {s : RS} (hs : Bare s) (hF : goodF (lastD s.glob)) (h : ∀ m ∈ ms, GoodM m) (ho : s.out.length + ms.length ≤ 4096) (rest : List UInt8) (at_ : Nat),
    readFrom (putAllM ms ++ rest) at_ s = readFrom rest (at_ + (putAllM ms).length) (moreS s (ms.map (withG (lastD s.glob))))
  | [], s, hs, hF, h, ho, rest, at_ => by simp [putAllM, moreS]
  | m :: ms, s, hs, hF, h, ho, rest, at_ => by
    have hl : s.out.length + (ms.length + 1) ≤ 4096 := ho
    rw [putAllM_cons, List.append_assoc, read_one (h m (List.mem_cons_self ..)) hs hF (by omega),
      read_all ms (moreS_bare hs _) (by rw [moreS_glob]; exact hF) (fun x hx => h x (List.mem_cons_of_mem _ hx)) (by rw [moreS_out, List.length_append]; simp only [List.length_cons, List.length_nil]; omega),
      moreS_more, moreS_glob, List.length_append, Nat.add_assoc]
    rfl
/-! ### the end -/
theorem zeroB_zeros (n : Nat) : zeroB (List.replicate n 0) = true := by
  rw [zeroB, List.all_eq_true]
  intro x hx
  rw [(List.mem_replicate.1 hx).2]
  rfl
theorem end_ok {s : RS} (hs : Bare s) (n : Nat) (hn : 1024 ≤ n) (at_ : Nat) : readFrom (List.replicate n 0) at_ s = (s.out, 0, 0) := by
  refine readFrom_done ?_ at_
  unfold stepD
  rw [if_neg (by rw [List.length_replicate]; omega), List.take_replicate, zeroB_zeros, if_pos rfl, if_neg (by rw [List.length_replicate]; omega), List.drop_replicate, zeroB_zeros, if_neg (by simp),
    if_neg (by rw [hs.hasX, hs.name, hs.link]; simp)]
theorem end_cut (s : RS) (n : Nat) (hn : n < 1024) (at_ : Nat) : readFrom (List.replicate n 0) at_ s = ([], 2, at_) := by
  refine readFrom_fault ?_ at_
  unfold stepD
  by_cases h : n < 512
  · rw [if_pos (by rw [List.length_replicate]; exact h)]
  · rw [if_neg (by rw [List.length_replicate]; omega), List.take_replicate, zeroB_zeros, if_pos rfl, if_pos (by rw [List.length_replicate]; omega)]
theorem end_bad (s : RS) (n : Nat) (hn : 1024 ≤ n) {by_ : UInt8} (hb : by_ ≠ 0) (at_ : Nat) : readFrom (List.replicate n 0 ++ [by_]) at_ s = ([], 9, at_) := by
  refine readFrom_fault ?_ at_
  have h1 : zeroB ((List.replicate n 0 ++ [by_]).drop 512) = false := by
    cases hz : zeroB ((List.replicate n 0 ++ [by_]).drop 512) with
    | false => rfl
    | true =>
      rw [zeroB, List.all_eq_true, List.drop_append_of_le_length (by rw [List.length_replicate]; omega)] at hz
      have := hz by_ (by simp)
      exact absurd (by simpa using this) hb
  have h2 : (List.replicate n (0 : UInt8) ++ [by_]).take 512 = List.replicate 512 0 := by
    rw [List.take_append_of_le_length (by rw [List.length_replicate]; omega), List.take_replicate, Nat.min_eq_left (by omega)]
  unfold stepD
  rw [if_neg (by rw [List.length_append, List.length_replicate]; omega), h2, zeroB_zeros, if_pos rfl, if_neg (by rw [List.length_append, List.length_replicate]; omega), h1, if_pos rfl]
theorem map_withG_nil (ms : List MemV) : ms.map (withG (lastD [])) = ms := by
  have : withG (lastD []) = id := funext withG_nil
  rw [this, List.map_id]
/-- an archive is read again, with more bytes 0 behind it, too -/
theorem read_arch {ms : List MemV} (h : ∀ m ∈ ms, GoodM m) (hl : ms.length ≤ 4096) (n : Nat) : membersD (archD ms ++ List.replicate n 0) = (ms, 0, 0) := by
  rw [membersD, archD_eq, List.append_assoc, List.replicate_append_replicate, read_all ms start_bare goodF_nil h (by show 0 + ms.length ≤ 4096; omega), end_ok (moreS_bare start_bare _) _ (by omega), moreS_out]
  show ([] ++ ms.map (withG (lastD [])), (0 : Int), 0) = _
  rw [map_withG_nil, List.nil_append]
theorem read_bad {ms : List MemV} (h : ∀ m ∈ ms, GoodM m) (hl : ms.length ≤ 4096) (n : Nat) {by_ : UInt8} (hb : by_ ≠ 0) : ∃ a, membersD (archD ms ++ (List.replicate n 0 ++ [by_])) = ([], 9, a) := by
  rw [membersD, archD_eq, List.append_assoc, ← List.append_assoc (List.replicate 1024 0), List.replicate_append_replicate, read_all ms start_bare goodF_nil h (by show 0 + ms.length ≤ 4096; omega)]
  exact ⟨_, end_bad _ _ (by omega) hb _⟩
/-! ### what is cut -/
theorem cut_one {m : MemV} (h : GoodM m) {s : RS} (hs : Bare s) (hF : goodF (lastD s.glob)) (ho : s.out.length < 4096) (rest : List UInt8) {k : Nat} (hk : k < (putM m).length) (at_ : Nat) : ∃ a, readFrom ((putM m ++ rest).take k) at_ s = ([], 2, a) := by
  obtain ⟨H, _, h2, h3, hl⟩ := put_laid h
  rcases hl with ⟨hr, e⟩ | ⟨X, _, x2, x3, e⟩
  · have hlen : (putM m).length = 512 + blocksOf m.body.length := by rw [e, List.length_append, h2, padB_length]
    rw [e, List.append_assoc]
    exact ⟨_, readFrom_fault (step_cut_m h2 h3 h.kind (memOf_headM h hF (by rw [hs.own, hr]) hs.name hs.link) _ ho (by omega)) at_⟩
  · have hlen : (putM m).length = 512 + blocksOf (linesD (recsM m)).length + (512 + blocksOf m.body.length) := by
      rw [e, List.length_append, List.length_append, List.length_append, h2, x2, padB_length, padB_length]
    rw [e, List.append_assoc, List.append_assoc]
    by_cases hc : k < 512 + blocksOf (linesD (recsM m)).length
    · exact ⟨_, readFrom_fault (step_cut_x x2 x3 rfl rfl (linesM_le h) _ s hs.hasX hc) at_⟩
    · have e1 : ∀ Y : List UInt8, (X ++ (padB (linesD (recsM m)) ++ Y)).take k = X ++ (padB (linesD (recsM m)) ++ Y.take (k - (512 + blocksOf (linesD (recsM m)).length))) := fun Y => by
        have hx : (X ++ padB (linesD (recsM m))).length = 512 + blocksOf (linesD (recsM m)).length := by rw [List.length_append, x2, padB_length]
        rw [← List.append_assoc, List.take_append, List.take_of_length_le (by omega), hx, List.append_assoc]
      rw [e1, readFrom_next (step_x x2 x3 rfl rfl (linesM_le h) (recs_may_back (recsM_may h)) _ s hs.hasX), drop_pad X _ _ x2, List.append_assoc]
      exact ⟨_, readFrom_fault (step_cut_m h2 h3 h.kind (memOf_headM (s := { s with hasX := true, own := recsM m }) h hF rfl hs.name hs.link) _ ho (by omega)) _⟩
theorem cut_all : ∀ (ms : List MemV) {s : RS} (hs : Bare s) (hF : goodF (lastD s.glob)) (h : ∀ m ∈ ms, GoodM m) (ho : s.out.length + ms.length ≤ 4096) {k : Nat} (hk : k < (putAllM ms).length + 1024) (at_ : Nat),
    ∃ a, readFrom ((putAllM ms ++ List.replicate 1024 0).take k) at_ s = ([], 2, a)
  | [], s, hs, hF, h, ho, k, hk, at_ => by
    have hk' : k < 1024 := by simpa [putAllM] using hk
    have e : (putAllM [] ++ List.replicate 1024 (0 : UInt8)).take k = List.replicate k 0 := by
      show (List.replicate 1024 (0 : UInt8)).take k = _
      rw [List.take_replicate, Nat.min_eq_left (by omega)]
    rw [e]
    exact ⟨_, end_cut s k hk' at_⟩
  | m :: ms, s, hs, hF, h, ho, k, hk, at_ => by
    have hl : s.out.length + (ms.length + 1) ≤ 4096 := ho
    have hm := h m (List.mem_cons_self ..)
    rw [putAllM_cons, List.length_append] at hk
    rw [putAllM_cons, List.append_assoc]
    by_cases hc : k < (putM m).length
    · exact cut_one hm hs hF (by omega) _ hc at_
    · rw [List.take_append, List.take_of_length_le (by omega), read_one hm hs hF (by omega)]
      exact cut_all ms (moreS_bare hs _) (by rw [moreS_glob]; exact hF) (fun x hx => h x (List.mem_cons_of_mem _ hx)) (by rw [moreS_out, List.length_append]; simp only [List.length_cons, List.length_nil]; omega) (by omega) _
/-- an archive that is cut is too short -/
theorem read_cut {ms : List MemV} (h : ∀ m ∈ ms, GoodM m) (hl : ms.length ≤ 4096) {k : Nat} (hk : k < (archD ms).length) : ∃ a, membersD ((archD ms).take k) = ([], 2, a) :=
  cut_all ms start_bare goodF_nil h (by show 0 + ms.length ≤ 4096; omega) (by rw [archD_eq, List.length_append, List.length_replicate] at hk; exact hk) 0
end Go.Proofs.YtdjedimjhogdoaaGreatDoor.Mem
end
