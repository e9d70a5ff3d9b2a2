/- Layer record's smallest functions, by contracts: right, mayBe, strings.Cut at the sign between key and value. -/
import Derived.Test.YtodlkjlcihcciaaDoorRecNeed
import Derived.Test.YtodlkjlcihcciaaDoorPathRight
import Derived.Lib.ItoaNum
import Derived.Lib.LaidTab
import Derived.Deep.Draws
import Derived.Shelf.RegionOpenPlain
namespace Go.Proofs.YtodlkjlcihcciaaDoor.Rec
open Go.ChangeShapes Go.WideShapes Go.ChangeAt Go.RowKit Go.Shelf Go.Proofs.YtodlkjlcihcciaaDoor.Base Go.Proofs.YtodlkjlcihcciaaDoor.Byt Go.Proofs.YtodlkjlcihcciaaDoor.Txt Go.Proofs.YtodlkjlcihcciaaDoor.Path Go.Lib
set_option linter.unusedVariables false
set_option maxRecDepth 100000

/-- whether a text is right, by the package's own way -/
theorem recRight_any (l : List UInt8) (w : World) (hm : l.length ≤ 1000000000000) (hT : Tabs w) :
    Calls Tryd.prog 20 #[.string (str l)] w fun e w' => e = .returned (.bool (textD l)) ∧ Below w.heap.size w w' := by
  have hT1 := target_any l w hm hT
  obtain ⟨r, hr⟩ : ∃ r, targetD 9 6 l = r := ⟨_, rfl⟩
  have hne : (r != 9) = textD l := by
    rw [← hr]
    unfold targetD
    cases textD l with
    | false => rfl
    | true =>
      rw [if_neg (by simp)]
      split <;> rfl
  rw [hr] at hT1
  clear hT hm hr
  cases ht : textD l with
  | false =>
    rw [ht] at hne
    go_enter Tryd.func20, Tryd.ntmps20
    go_wp2_with (go_at_call 29; refine hT1.mono ?_; rintro e w1 ⟨rfl, hb⟩)
    go_ret
    exact ⟨rfl, hb⟩
  | true =>
    rw [ht] at hne
    go_enter Tryd.func20, Tryd.ntmps20
    go_wp2_with (go_at_call 29; refine hT1.mono ?_; rintro e w1 ⟨rfl, hb⟩)
    go_ret
    exact ⟨rfl, hb⟩
/-- at the first sign between key and value -/
def cutQ (l : List UInt8) : List UInt8 × List UInt8 × Bool :=
  if 0 ≤ Lib.indexByte l 61 then (l.take (Lib.indexByte l 61).toNat, l.drop ((Lib.indexByte l 61).toNat + 1), true) else (l, [], false)
theorem slCutQ_any (l : List UInt8) (w : World) (hm : l.length ≤ 1000000000000) :
    Calls Tryd.prog 28 #[.string (str l), .string ⟨#[61]⟩] w fun e w' => e = .returned (.tuple #[.string (str (cutQ l).1), .string (str (cutQ l).2.1), .bool (cutQ l).2.2]) ∧ ∃ n, w' = w.drewN n := by
  have hidx := Any.stringslite_Index_one Tryd.laysIndex (str l) 61 w
  rw [str_data] at hidx
  have hs : (str l).size = l.length := str_size l
  unfold cutQ
  by_cases h : 0 ≤ Lib.indexByte l 61
  · obtain ⟨k, hk⟩ : ∃ k : Nat, Lib.indexByte l 61 = k := ⟨(Lib.indexByte l 61).toNat, by omega⟩
    have hlt := (List.getElem?_eq_some_iff.1 (Lib.indexByte_some hk).1).1
    rw [if_pos h, hk, Int.toNat_natCast]
    rw [hk] at hidx
    clear h hk
    simp only
    have e1 : (str l).extract 0 k = str (l.take k) := str_take l k
    have e2 : (str l).extract (k + 1) (str l).size = str (l.drop (k + 1)) := str_drop l (k + 1) _ hs
    rw [← e1, ← e2]
    have c1 : (0 : Int) ≤ (k : Int) := by omega
    have c2 : (k : Int) ≤ ((str l).size : Int) := by omega
    have c3 : (0 : Int) ≤ (k : Int) + 1 := by omega
    have c4 : (k : Int) + 1 ≤ ((str l).size : Int) := by omega
    have c5 : ((str l).size : Int) ≤ 1000000000000 := by omega
    clear e1 e2
    have mixed : Tryd.prog.follows .mixedOrders = true := by kernel_rfl
    go_enter Tryd.func28, Tryd.ntmps28
    go_wp2_with (go_at_call 34; refine hidx.mono ?_; rintro e w' ⟨rfl, rfl⟩)
    go_region_o
    go_wp2
    go_ret3
    exact ⟨rfl, 1, rfl⟩
  · rw [if_neg h]
    have hn : Lib.indexByte l 61 = -1 := by have := Lib.indexByte_ge l 61; omega
    rw [hn] at hidx
    clear h hn
    go_enter Tryd.func28, Tryd.ntmps28
    go_wp2_with (go_at_call 34; refine hidx.mono ?_; rintro e w' ⟨rfl, rfl⟩)
    go_ret3
    exact ⟨rfl, 0, rfl⟩
theorem cutQ_any (l : List UInt8) (w : World) (hm : l.length ≤ 1000000000000) :
    Calls Tryd.prog 19 #[.string (str l), .string ⟨#[61]⟩] w fun e w' => e = .returned (.tuple #[.string (str (cutQ l).1), .string (str (cutQ l).2.1), .bool (cutQ l).2.2]) ∧ ∃ n, w' = w.drewN n := by
  have hc := slCutQ_any l w hm
  go_enter Tryd.func19, Tryd.ntmps19
  go_wp2_with (go_at_call 28; refine hc.mono ?_; rintro e w' ⟨rfl, n, rfl⟩)
  go_ret3
  exact ⟨rfl, n, rfl⟩
/-- which records may be, by the package's own way -/
theorem recMayBe_any (k v : List UInt8) (w : World) (hk : k.length ≤ 1000000000000) (hv : v.length ≤ 1000000000000) (hN : Need w) :
    Calls Tryd.prog 22 #[.agg #[.string (str k), .string (str v)]] w fun e w' => e = .returned (.bool (mayD k v)) ∧ Below w.heap.size w w' := by
  obtain ⟨a, ha⟩ : ∃ a, a = str k := ⟨_, rfl⟩
  obtain ⟨b, hb⟩ : ∃ b, b = str v := ⟨_, rfl⟩
  have HZ : Hid (a.size = k.length ∧ b.size = v.length) := Lib.hid ⟨by rw [ha, str_size], by rw [hb, str_size]⟩
  have ha1 : (a.size : Int) ≤ 1000000000000 := by have := HZ.out; omega
  have hb1 : (b.size : Int) ≤ 1000000000000 := by have := HZ.out; omega
  obtain ⟨M, hM⟩ : ∃ M, mayD k v = M := ⟨_, rfl⟩
  have HM := Lib.hid hM
  rw [hM]
  obtain ⟨c0, c1⟩ := cells2 w 31 (.string a) (.string b)
  have HA : Hid (Below w.heap.size w (w.alloc (.cells #[.string a, .string b] 31))) := Lib.hid ((Below.refl _ _).alloc (Nat.le_refl _) _)
  have HT := Lib.hid hN.tabs
  have hC := fun w => Any.strings_Contains_one Tryd.laysConts a 61 w
  have hRa := fun w1 h => recRight_any k w1 hk h
  have hRb := fun w1 h => recRight_any v w1 hv h
  rw [← ha] at hRa
  rw [← hb] at hRb
  have hi : ∀ w, Calls Tryd.prog 30 #[.string a, .string ⟨#[61]⟩] w fun e w' => e = .returned (.bool (k.contains 61)) ∧ w' = w := by
    intro w
    have := hC w
    rwa [show a.data.toList = k by rw [ha, str_data], index_has] at this
  have HRA := Lib.hid hRa
  have HRB := Lib.hid hRb
  have HC := Lib.hid hi
  have he : a.toList.isEmpty = k.isEmpty := by rw [ha, str_toList]
  rw [← ha, ← hb]
  clear hM hN hC hi hRa hRb ha hb
  by_cases h1 : k = []
  · obtain rfl : false = M := by rw [← HM.out, h1]; rfl
    have h1b : a.toList.isEmpty = true := by rw [he, h1]; rfl
    clear h1 he hk hv
    go_enter Tryd.func22, Tryd.ntmps22
    go_wp2
    go_ret
    exact ⟨rfl, HA.out⟩
  · have hke : k.isEmpty = false := by
      cases h : k with
      | nil => exact absurd h h1
      | cons _ _ => rfl
    have h1b : a.toList.isEmpty = false := by rw [he, hke]
    cases h2 : k.contains 61 with
    | true =>
      obtain rfl : false = M := by rw [← HM.out]; unfold mayD; rw [h2]; rfl
      rw [h2] at HC
      clear h1 he hk hv hke
      go_enter Tryd.func22, Tryd.ntmps22
      go_wp2_with fail
      refine (HC.out _).mono ?_
      rintro e w' ⟨rfl, rfl⟩
      go_wp2
      go_ret
      exact ⟨rfl, HA.out⟩
    | false =>
      rw [h2] at HC
      have HMM : Hid ((textD k && textD v && decide (k.length + v.length ≤ 100000)) = M) := Lib.hid (by
        have := HM.out
        simp only [mayD, h2, hke, Bool.not_false, Bool.true_and] at this
        exact this)
      cases ht : textD k with
      | false =>
        obtain rfl : false = M := by rw [← HMM.out, ht]; rfl
        rw [ht] at HRA
        clear h1 he hk hv hke
        go_enter Tryd.func22, Tryd.ntmps22
        go_wp2_with fail
        refine (HC.out _).mono ?_
        rintro e w' ⟨rfl, rfl⟩
        go_wp2_with fail
        refine (HRA.out _ (HT.out.below HA.out)).mono ?_
        rintro e w2 ⟨rfl, hb2⟩
        have HB2 := Lib.hid (HA.out.trans (hb2.mono HA.out.size))
        clear hb2
        go_wp2
        go_ret
        exact ⟨rfl, HB2.out⟩
      | true =>
        rw [ht] at HRA
        cases ht2 : textD v with
        | false =>
          obtain rfl : false = M := by rw [← HMM.out, ht, ht2]; rfl
          rw [ht2] at HRB
          clear h1 he hk hv hke
          go_enter Tryd.func22, Tryd.ntmps22
          go_wp2_with fail
          refine (HC.out _).mono ?_
          rintro e w' ⟨rfl, rfl⟩
          go_wp2_with fail
          refine (HRA.out _ (HT.out.below HA.out)).mono ?_
          rintro e w2 ⟨rfl, hb2⟩
          have d0 := (hb2.cell (p := ⟨w.heap.size, 0, none⟩) (by rw [World.size_alloc]; exact Nat.lt_succ_self _)).trans c0
          have d1 := (hb2.cell (p := ⟨w.heap.size, 1, none⟩) (by rw [World.size_alloc]; exact Nat.lt_succ_self _)).trans c1
          have HB2 := Lib.hid (HA.out.trans (hb2.mono HA.out.size))
          clear hb2 c0 c1
          go_wp2_with fail
          refine (HRB.out _ (HT.out.below HB2.out)).mono ?_
          rintro e w3 ⟨rfl, hb3⟩
          have HB3 := Lib.hid (HB2.out.trans (hb3.mono HB2.out.size))
          clear hb3
          go_wp2
          go_ret
          exact ⟨rfl, HB3.out⟩
        | true =>
          have hML : decide ((a.size : Int) + (b.size : Int) ≤ 100000) = M := by
            rw [← HMM.out, ht, ht2, HZ.out.1, HZ.out.2]
            simp
            omega
          rw [ht2] at HRB
          clear h1 he hk hv hke
          go_enter Tryd.func22, Tryd.ntmps22
          go_wp2_with fail
          refine (HC.out _).mono ?_
          rintro e w' ⟨rfl, rfl⟩
          go_wp2_with fail
          refine (HRA.out _ (HT.out.below HA.out)).mono ?_
          rintro e w2 ⟨rfl, hb2⟩
          have d0 := (hb2.cell (p := ⟨w.heap.size, 0, none⟩) (by rw [World.size_alloc]; exact Nat.lt_succ_self _)).trans c0
          have d1 := (hb2.cell (p := ⟨w.heap.size, 1, none⟩) (by rw [World.size_alloc]; exact Nat.lt_succ_self _)).trans c1
          have HB2 := Lib.hid (HA.out.trans (hb2.mono HA.out.size))
          clear c0 c1
          go_wp2_with fail
          refine (HRB.out _ (HT.out.below HB2.out)).mono ?_
          rintro e w3 ⟨rfl, hb3⟩
          have hlt2 : w.heap.size < w2.heap.size := Nat.lt_of_lt_of_le (by rw [World.size_alloc]; exact Nat.lt_succ_self _) hb2.size
          have e0 := (hb3.cell (p := ⟨w.heap.size, 0, none⟩) hlt2).trans d0
          have e1 := (hb3.cell (p := ⟨w.heap.size, 1, none⟩) hlt2).trans d1
          have HB3 := Lib.hid (HB2.out.trans (hb3.mono HB2.out.size))
          clear hb2 hb3 d0 d1 hlt2
          go_wp2
          go_ret
          exact ⟨rfl, HB3.out⟩
end Go.Proofs.YtodlkjlcihcciaaDoor.Rec
