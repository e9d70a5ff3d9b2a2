/- Layer record's count, by contract: how many bytes a line has, in digits; strconv.Itoa laid at this dump. -/
import Derived.Test.YtodlkjlcihcciaaDoorRecNeed
import Derived.Test.YtodlkjlcihcciaaDoorRecIt
namespace Go.Proofs.YtodlkjlcihcciaaDoor.Rec
open Go.ChangeShapes Go.WideShapes Go.ChangeAt Go.RowKit Go.Shelf Go.Proofs.YtodlkjlcihcciaaDoor.Base Go.Proofs.YtodlkjlcihcciaaDoor.Byt Go.Proofs.YtodlkjlcihcciaaDoor.Txt Go.Proofs.YtodlkjlcihcciaaDoor.Path Go.Lib
set_option linter.unusedVariables false
set_option maxRecDepth 100000

theorem below_grow (w : World) (k : Nat) (os : Array Obj) : Below w.heap.size w (Sort.grow (w.drewN k) os) :=
  ⟨rfl, rfl, rfl, by rw [Sort.size_grow]; show w.heap.size ≤ w.heap.size + os.size; omega, fun j hj => by
    show (w.heap ++ os)[j]? = w.heap[j]?
    rw [Array.getElem?_append_left hj]⟩
theorem itoa_any (m : Nat) (w : World) (hm : m ≤ 9223372036854775807) (hN : Need w) :
    Calls Tryd.prog 31 #[.int .i64 (m : Int)] w fun e w' => e = .returned (.string (str (decL m))) ∧ Below w.heap.size w w' := by
  refine (Any.strconv_Itoa Tryd.laysItoa (m : Int) (by omega) (by omega) w hN.2.2).mono ?_
  rintro e w' ⟨rfl, k, os, rfl⟩
  rw [itoa_decL]
  exact ⟨rfl, below_grow w k os⟩
theorem recCount_any (m : Nat) (w : World) (h0 : 0 < m) (hm : m ≤ 1000000000000000) (hN : Need w) :
    Calls Tryd.prog 23 #[.int .i64 (m : Int)] w fun e w' => e = .returned (.string (str (decL (lineN m)))) ∧ Below w.heap.size w w' := by
  have HL := Lib.hid (lineN_count m h0)
  have HT := Lib.hid hN
  have hD : ∀ n, n < 1000000000000000000 → (decL n).length ≤ 18 := fun n h => dec_le n 18 (by omega) h
  have HD := Lib.hid hD
  have HP := Lib.hid (decL_pos m)
  have hmi : (m : Int) ≤ 1000000000000000 := by omega
  have HM := Lib.hid hm
  clear hN hD hm h0
  go_enter Tryd.func23, Tryd.ntmps23
  go_wp2_with fail
  go_loopw [3] (fun s wr => ∃ (S : ByteArray), s = .string S ∧ S.size ≤ 18 ∧ Hid (S = str [] ∨ S = str (decL m) ∨ (S = str (decL (m + (decL m).length)) ∧ (decL (m + (decL m).length)).length ≠ (decL m).length)) ∧ Hid (Below w.heap.size w wr)) (fun s _ => match s with | .string b => (if b.size = 0 then 2 else if b.size = (decL m).length then 1 else 0) | _ => 0)
  case atStart => exact ⟨str [], rfl, by rw [str_size]; simp, Lib.hid (.inl rfl), Lib.hid (Below.refl _ _)⟩
  case round =>
    obtain ⟨S, rfl, hs18, hst, hB⟩ := hrel
    obtain ⟨d, hd⟩ : ∃ d, S.size = d := ⟨_, rfl⟩
    have hd18 : (d : Int) ≤ 18 := by omega
    obtain ⟨X, hX⟩ : ∃ X, X = str (decL (m + d)) := ⟨_, rfl⟩
    have HX := Lib.hid hX
    have HI : Hid (Calls Tryd.prog 31 #[.int .i64 ((m : Int) + (d : Int))] wr fun e w' => e = .returned (.string X) ∧ Below wr.heap.size wr w') := Lib.hid (by
      have := itoa_any (m + d) wr (by have := HM.out; omega) (HT.out.below hB.out)
      rw [hX]
      rwa [show ((m + d : Nat) : Int) = (m : Int) + (d : Int) by omega] at this)
    have HXS : Hid (X.size = (decL (m + d)).length) := Lib.hid (by rw [hX, str_size])
    have HX18 : Hid (X.size ≤ 18) := Lib.hid (by rw [HXS.out]; exact HD.out _ (by have := HM.out; omega))
    have HS := Lib.hid hd
    clear hX hs18
    by_cases hq : X.size = d
    · have hb : ((X.size : Int) == (d : Int)) = true := by rw [hq]; simp
      have HE : Hid (X = str (decL (lineN m))) := Lib.hid (by
        have hxs := HXS.out
        have hp := HP.out
        have hss := HS.out
        rw [HX.out]
        congr 2
        rcases hst.out with e | e | ⟨e, ne⟩
        · rw [e, str_size] at hss
          obtain rfl : d = 0 := by simpa using hss.symm
          rw [Nat.add_zero] at hxs
          omega
        · rw [e, str_size] at hss
          rw [hq, ← hss] at hxs
          rcases HL.out with ⟨l1, l2⟩ | ⟨l1, l2, l3⟩
          · rw [l1, ← hss]
          · exact absurd hxs.symm l2
        · rw [e, str_size] at hss
          rcases HL.out with ⟨l1, l2⟩ | ⟨l1, l2, l3⟩
          · exact absurd l2 ne
          · rw [l1, ← hss])
      clear hq
      go_wp2_with fail
      refine HI.out.mono ?_
      rintro e w1 ⟨rfl, hb1⟩
      have HB1 := Lib.hid (hB.out.trans (hb1.mono hB.out.size))
      clear hb1
      go_wp2
      go_ret
      exact ⟨by rw [HE.out]; rfl, HB1.out⟩
    · have hb : ((X.size : Int) == (d : Int)) = false := by rw [beq_eq_false_iff_ne]; omega
      have HQ := Lib.hid hq
      have HNX : Hid (S = str [] ∧ X = str (decL m) ∨ S = str (decL m) ∧ (X = str (decL (m + (decL m).length)) ∧ (decL (m + (decL m).length)).length ≠ (decL m).length)) := Lib.hid (by
        have hxs := HXS.out
        have hss := HS.out
        rcases hst.out with e | e | ⟨e, ne⟩
        · rw [e, str_size] at hss
          obtain rfl : d = 0 := by simpa using hss.symm
          exact .inl ⟨e, by rw [HX.out, Nat.add_zero]⟩
        · rw [e, str_size] at hss
          refine .inr ⟨e, by rw [HX.out, hss], ?_⟩
          rw [hss, ← hxs]
          exact HQ.out
        · rw [e, str_size] at hss
          rcases HL.out with ⟨l1, l2⟩ | ⟨l1, l2, l3⟩
          · exact absurd l2 ne
          · rw [hss] at l3
            exact absurd (hxs.trans l3) HQ.out)
      clear hq
      go_wp2_with fail
      refine HI.out.mono ?_
      rintro e w1 ⟨rfl, hb1⟩
      have HB1 := Lib.hid (hB.out.trans (hb1.mono hB.out.size))
      clear hb1
      go_wp2_with fail
      go_roundw
      case rel => exact ⟨X, rfl, HX18.out, Lib.hid (by
        rcases HNX.out with ⟨_, e⟩ | ⟨_, e⟩
        · exact .inr (.inl e)
        · exact .inr (.inr e)), HB1⟩
      case measure =>
        have hp := HP.out
        rcases HNX.out with ⟨e1, e2⟩ | ⟨e1, e2, ne⟩
        · rw [e1, e2]
          simp only [str_size, List.length_nil, if_true]
          rw [if_neg (by omega)]
          omega
        · have hgr := dec_mono (show m ≤ m + (decL m).length by omega)
          rw [e1, e2]
          simp only [str_size, if_true]
          rw [if_neg (by omega), if_neg ne, if_neg (by omega)]
          omega
end Go.Proofs.YtodlkjlcihcciaaDoor.Rec
