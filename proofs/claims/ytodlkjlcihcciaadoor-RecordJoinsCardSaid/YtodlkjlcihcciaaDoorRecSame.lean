/- The document's own SameRecords: when two rows of records are the same. -/
import Derived.Test.YtodlkjlcihcciaaDoorRecRow
import Derived.Laws.StructEq
import Derived.BigQuiet
namespace Go.Proofs.YtodlkjlcihcciaaDoor.Rec
open Go.ChangeShapes Go.WideShapes Go.ChangeAt Go.RowKit Go.Proofs.YtodlkjlcihcciaaDoor.Base Go.Proofs.YtodlkjlcihcciaaDoor.Byt Go.Proofs.YtodlkjlcihcciaaDoor.Txt Go.Proofs.YtodlkjlcihcciaaDoor.Path Go.Lib
set_option linter.unusedVariables false
set_option maxRecDepth 100000

theorem eqR_deep (a b : List UInt8 × List UInt8) (d : Nat) (w : World) : (Op.equalIn (d + 1 + 1) 31 (.agg #[.string (str a.1), .string (str a.2)]) (.agg #[.string (str b.1), .string (str b.2)])).run Tryd.prog w = .ok (decide (a = b)) w := by
  have e : decide (a = b) = (decide (a.1 = b.1) && decide (a.2 = b.2)) := by
    rw [Bool.eq_iff_iff]
    simp only [decide_eq_true_eq, Bool.and_eq_true]
    constructor
    · rintro rfl; exact ⟨rfl, rfl⟩
    · rintro ⟨h1, h2⟩
      cases a; cases b; simp_all
  have s1 : ∀ x y : List UInt8, ((str x).toList == (str y).toList) = decide (x = y) := fun x y => by
    rw [str_toList, str_toList]
    by_cases h : x = y <;> simp [h]
  have hS : Tryd.prog.underlying 31 = some (.struct (Tryd.prog.fieldsOf 31)) := by kernel_rfl
  have pS : Tryd.prog.stoodInHeld 31 = false := by kernel_rfl
  rw [run_equalIn_agg w (d + 1) _ _ _ hS pS]
  clear hS pS
  simp only [Program.fieldsOf, Tryd.underlying31]
  rw [e, ← s1, ← s1]
  clear e s1
  go_simp
  by_cases h1 : (str a.1).toList = (str b.1).toList
  · by_cases h2 : (str a.2).toList = (str b.2).toList <;> simp [h1, h2]
  · simp only [h1, if_false, beq_eq_false_iff_ne.2 h1, Bool.false_and]
/-- when two records are the same -/
theorem neR (a b : List UInt8 × List UInt8) (w : World) : (binOp .neq 31 (.agg #[.string (str a.1), .string (str a.2)]) (.agg #[.string (str b.1), .string (str b.2)])).run Tryd.prog w = .ok (.bool (!decide (a = b))) w := by
  rw [run_neq_struct, show (10000 : Nat) = 9998 + 1 + 1 from rfl, eqR_deep a b 9998 w]
  rfl
theorem eqR (a b : List UInt8 × List UInt8) (w : World) : (binOp .eql 31 (.agg #[.string (str a.1), .string (str a.2)]) (.agg #[.string (str b.1), .string (str b.2)])).run Tryd.prog w = .ok (.bool (decide (a = b))) w := by
  rw [run_eql_struct, show (10000 : Nat) = 9998 + 1 + 1 from rfl, eqR_deep a b 9998 w]
  rfl
/-- rows that agree so far -/
theorem same_of (rs ss : List (List UInt8 × List UInt8)) (hl : rs.length = ss.length) (h : ∀ j, j < rs.length → rs.getD j ([], []) = ss.getD j ([], [])) : rs = ss := by
  apply List.ext_getElem hl
  intro i h1 h2
  have := h i h1
  rwa [List.getD, List.getD, List.getElem?_eq_getElem h1, List.getElem?_eq_getElem h2] at this
set_option maxHeartbeats 4000000 in
theorem same_records_any (p q : Option Addr) (n m c d : Nat) (rs ss : List (List UInt8 × List UInt8)) (w : World) (hn : n ≤ 9223372036854775807) (h1 : RecsAt w p n rs) (h2 : RecsAt w q m ss) :
    Calls Tryd.prog 12 #[.slice p n c, .slice q m d] w fun e w' => e = .returned (.bool (decide (rs = ss))) ∧ Below w.heap.size w w' := by
  have H1 := Lib.hid h1
  have H2 := Lib.hid h2
  have HL1 := Lib.hid h1.1
  have HL2 := Lib.hid h2.1
  clear h1 h2
  go_enter Tryd.func12, Tryd.ntmps12
  by_cases hnm : n = m
  · subst hnm
    have hb : (((n : Int)) != (n : Int)) = false := by simp
    go_wp2_with fail
    go_loopw [5] (fun i wr => ∃ (k : Nat), k ≤ n ∧ i = .int .i64 (k : Int) ∧ Hid (∀ j, j < k → rs.getD j ([], []) = ss.getD j ([], [])) ∧ Hid (Below w.heap.size w wr)) (fun i _ => n - (RowKit.intOf i).toNat)
    case atStart => exact ⟨0, Nat.zero_le _, rfl, Lib.hid (fun j hj => absurd hj (by omega)), Lib.hid (Below.refl _ _)⟩
    case round =>
      obtain ⟨k, hk, rfl, hd, hB⟩ := hrel
      by_cases hlt : k < n
      · obtain ⟨b1, o1, rfl, hb1, hc1⟩ := (H1.out.below hB.out).2 (by omega)
        obtain ⟨b2, o2, rfl, hb2, hc2⟩ := (H2.out.below hB.out).2 (by omega)
        obtain ⟨x0, x1⟩ := hc1 k hlt
        obtain ⟨y0, y1⟩ := hc2 k hlt
        obtain ⟨u, hu⟩ : ∃ u, rs.getD k ([], []) = u := ⟨_, rfl⟩
        obtain ⟨v, hv⟩ : ∃ v, ss.getD k ([], []) = v := ⟨_, rfl⟩
        rw [hu, Nat.mul_comm] at x0 x1
        rw [hv, Nat.mul_comm] at y0 y1
        have HU := Lib.hid hu
        have HV := Lib.hid hv
        clear hc1 hc2 hu hv hb1 hb2
        have hltz : (k : Int) < (n : Int) := by omega
        have EQ := neR u v
        by_cases huv : u = v
        · have huv2 : decide (u = v) = true := decide_eq_true huv
          have HUV := Lib.hid huv
          clear huv
          rw [huv2] at EQ
          have HD : Hid (∀ j, j < k + 1 → rs.getD j ([], []) = ss.getD j ([], [])) := Lib.hid (fun j hj => by
            rcases Nat.lt_succ_iff_lt_or_eq.1 hj with h | rfl
            · exact hd.out j h
            · rw [HU.out, HV.out, HUV.out])
          go_wp2_with fail
          go_quiet (fail)
          have HBD := Lib.hid (below_drewN hB.out nq)
          go_wp2
          go_roundw
          case rel => exact ⟨k + 1, by omega, by go_num, HD, HBD⟩
          case measure => simp [RowKit.intOf]; omega
        · have huv2 : decide (u = v) = false := decide_eq_false huv
          have HNE : Hid (decide (rs = ss) = false) := Lib.hid (decide_eq_false (fun e => huv (by rw [← HU.out, ← HV.out, e])))
          clear huv
          rw [huv2] at EQ
          go_wp2_with fail
          go_quiet (fail)
          have HBD := Lib.hid (below_drewN hB.out nq)
          go_wp2
          go_ret
          exact ⟨by rw [HNE.out]; rfl, HBD.out⟩
      · have hks : ¬ ((k : Int) < (n : Int)) := by omega
        have HE : Hid (decide (rs = ss) = true) := Lib.hid (decide_eq_true (same_of rs ss (by rw [HL1.out, HL2.out]) (fun j hj => hd.out j (by rw [HL1.out] at hj; omega))))
        go_wp2
        go_ret
        exact ⟨by rw [HE.out]; rfl, hB.out⟩
  · have hb : (((n : Int)) != (m : Int)) = true := by simp; omega
    have HNE : Hid (decide (rs = ss) = false) := Lib.hid (decide_eq_false (fun e => hnm (by rw [← HL1.out, ← HL2.out, e])))
    go_wp2
    go_ret
    exact ⟨by rw [HNE.out]; rfl, Below.refl _ _⟩
theorem same_self (p q : Option Addr) (n c d : Nat) (rs : List (List UInt8 × List UInt8)) (w : World) (hn : n ≤ 9223372036854775807) (h1 : RecsAt w p n rs) (h2 : RecsAt w q n rs) :
    Calls Tryd.prog 12 #[.slice p n c, .slice q n d] w fun e w' => e = .returned (.bool true) ∧ Below w.heap.size w w' := by
  have := same_records_any p q n n c d rs rs w hn h1 h2
  rwa [show decide (rs = rs) = true from decide_eq_true rfl] at this
end Go.Proofs.YtodlkjlcihcciaaDoor.Rec
