/- The law PathLess, walked. The tables of unicode/utf8 lie as their initialisers lay them. Written by wip/tools/genless.py. -/
import Derived.Test.YtdnelijkhinpcaaDoorPathCleansWalk
import Derived.Deep.QuietTactic
import Derived.BigQuiet
namespace Go.Proofs.YtdnelijkhinpcaaDoor.Walk
open Go.ChangeShapes Go.WideShapes Go.ChangeAt Go.RowKit Go.Proofs.YtdnelijkhinpcaaDoor.Base Go.Proofs.YtdnelijkhinpcaaDoor.Byt Go.Proofs.YtdnelijkhinpcaaDoor.Txt Go.Proofs.YtdnelijkhinpcaaDoor.Path Go.Lib
set_option linter.unusedVariables false
set_option maxRecDepth 100000

theorem less_self (l : List UInt8) : Op.bytesLess l l = false := by
  induction l with
  | nil => rfl
  | cons b l ih => simp [Op.bytesLess, ih]
theorem less_more (l : List UInt8) (m : UInt8) : Op.bytesLess l (l ++ [m]) = true := by
  induction l with
  | nil => rfl
  | cons b l ih => simp [Op.bytesLess, ih]
theorem less_asym (a : List UInt8) : ∀ b, Op.bytesLess a b = true → Op.bytesLess b a = false := by
  induction a with
  | nil => intro b _; cases b <;> rfl
  | cons x a ih =>
    intro b h
    cases b with
    | nil => cases h
    | cons y b =>
      simp only [Op.bytesLess, Bool.or_eq_true, decide_eq_true_eq, Bool.and_eq_true, beq_iff_eq] at h
      rcases h with h | ⟨rfl, h⟩
      · have h1 : ¬ y < x := by rw [UInt8.lt_iff_toNat_lt] at h ⊢; omega
        have h2 : ¬ y = x := fun e => by subst e; rw [UInt8.lt_iff_toNat_lt] at h; omega
        simp [Op.bytesLess, h1, h2]
      · simp [Op.bytesLess, ih b h]
theorem less_drop (k : Nat) : ∀ a b : List UInt8, k ≤ a.length → k ≤ b.length → (∀ j, j < k → a.getD j 0 = b.getD j 0) → Op.bytesLess a b = Op.bytesLess (a.drop k) (b.drop k) := by
  induction k with
  | zero => intro a b _ _ _; rfl
  | succ k ih =>
    intro a b ha hb h
    cases a with
    | nil => simp at ha
    | cons x a =>
      cases b with
      | nil => simp at hb
      | cons y b =>
        obtain rfl : x = y := by simpa using h 0 (by omega)
        rw [List.drop_succ_cons, List.drop_succ_cons, ← ih a b (by simpa using ha) (by simpa using hb) (fun j hj => by simpa using h (j + 1) (by omega))]
        simp [Op.bytesLess]
theorem get_list (s : ByteArray) (k : Nat) (h : k < s.size) : s.data.toList.getD k 0 = s[k] := by
  rw [List.getD, List.getElem?_eq_getElem (show k < s.data.toList.length by rw [← size_of]; exact h)]; rfl
theorem less_at (a b : ByteArray) (k : Nat) (ha : k < a.size) (hb : k < b.size) (hne : ¬ a[k] = b[k]) (h : ∀ j, j < k → a.data.toList.getD j 0 = b.data.toList.getD j 0) :
    Op.bytesLess a.data.toList b.data.toList = decide ((a[k]).toNat < (b[k]).toNat) := by
  have ha' : k < a.data.toList.length := by rw [← size_of]; exact ha
  have hb' : k < b.data.toList.length := by rw [← size_of]; exact hb
  rw [less_drop k _ _ (by omega) (by omega) h, List.drop_eq_getElem_cons ha', List.drop_eq_getElem_cons hb']
  rw [show a.data.toList[k] = a[k] from rfl, show b.data.toList[k] = b[k] from rfl]
  simp [Op.bytesLess, hne, UInt8.lt_iff_toNat_lt]

theorem one_bat (w : World) (t : TypeId) (m : Int) (h : ((UInt8.ofNat m.toNat).toNat : Int) = m) : BAt (w.alloc (.cells #[.int .u8 m] t)) (some ⟨w.heap.size, 0, none⟩) 1 [UInt8.ofNat m.toNat] := fun _ => ⟨_, _, rfl, fun i hi => by
  obtain rfl : i = 0 := by omega
  rw [World.cell?_alloc_at _ _ _ _ rfl]
  show some (Value.int .u8 m) = some (Value.int .u8 ((UInt8.ofNat m.toNat).toNat : Int))
  rw [h]⟩
set_option maxHeartbeats 4000000 in
theorem pathLess (a b : ByteArray) (m : Int) (w : World) (b0 : a.size ≤ 140737488351232) (b1 : b.size ≤ 140737488351232) (w2 : (Lit.int .u8 m).wf = true) (hT : Tabs w) :
    Calls Tryd.prog 6 #[.string a, .string b, .int .u8 m] w fun e w' => e = .returned (.bool true) ∧ Below w.heap.size w w' := by
  have la := size_of a
  have lb := size_of b
  obtain ⟨hm0, hm1⟩ := wf8 w2
  have HA := Lib.hid (fun w hT => ans05_any w hT)
  have HT := Lib.hid hT
  have hL0 := fun w => less_any a.data.toList b.data.toList w
  have hL1 := fun w => less_of a.data.toList a.data.toList false (less_self _) w
  have hL2 := fun w => less_of a.data.toList (a.data.toList ++ [UInt8.ofNat m.toNat]) true (less_more _ _) w
  have hL3 := fun w => less_any b.data.toList a.data.toList w
  rw [← str_app, str_of, show str [UInt8.ofNat m.toNat] = (⟨#[UInt8.ofNat m.toNat]⟩ : ByteArray) from rfl] at hL2
  simp only [str_of] at hL0 hL1 hL3
  have H0 := Lib.hid hL0
  have H1 := Lib.hid hL1
  have H2 := Lib.hid hL2
  have H3 := Lib.hid hL3
  have HM : Hid (((UInt8.ofNat m.toNat).toNat : Int) = m) := Lib.hid (by rw [UInt8.toNat_ofNat']; omega)
  have HS : Hid (a.size + 1 ≤ 9223372036854775807) := Lib.hid (by omega)
  have HLA := Lib.hid la
  have HLB := Lib.hid lb
  have mixed : Tryd.prog.follows .mixedOrders = true := by kernel_rfl
  clear hL0 hL1 hL2 hL3 hT w2 la lb
  go_enter Tryd.func6, Tryd.ntmps6
  go_wp2
  go_loopw [7] (fun i wr => ∃ (k : Nat), k ≤ a.size ∧ k ≤ b.size ∧ i = .int .i64 k ∧ Hid (∀ j, j < k → a.data.toList.getD j 0 = b.data.toList.getD j 0) ∧ Hid (Below w.heap.size w wr)) (fun i _ => a.size - (RowKit.intOf i).toNat)
  case atStart => exact ⟨0, Nat.zero_le _, Nat.zero_le _, rfl, Lib.hid (fun j hj => by omega), Lib.hid (Below.refl _ _)⟩
  case round =>
    obtain ⟨k, hka, hkb, rfl, hr, hB⟩ := hrel
    by_cases h1 : k < a.size
    · have c1 : decide ((k : Int) < (a.size : Int)) = true := by simp; omega
      have c4 : ((k : Int) == (a.size : Int)) = false := by simp; omega
      by_cases h2 : k < b.size
      · have c2 : decide ((k : Int) < (b.size : Int)) = true := by simp; omega
        by_cases h3 : a[k] = b[k]
        · have c3 : (((a[k]).toNat : Int) == ((b[k]).toNat : Int)) = true := by rw [h3]; simp
          have HR : Hid (∀ j, j < k + 1 → a.data.toList.getD j 0 = b.data.toList.getD j 0) := Lib.hid (fun j hj => by
            rcases Nat.lt_succ_iff_lt_or_eq.1 hj with h | rfl
            · exact hr.out j h
            · rw [get_list a _ h1, get_list b _ h2]; exact h3)
          have HN := Lib.hid (fun nq => below_drewN hB.out nq)
          clear hr hB h3
          go_wp2_with fail
          go_quiet (fail)
          go_wp2
          exact ⟨⟨k + 1, by omega, by omega, by go_num, HR, Lib.hid (HN.out _)⟩, by simp [RowKit.intOf]; omega⟩
        · have c3 : (((a[k]).toNat : Int) == ((b[k]).toNat : Int)) = false := by
            have : ¬ (a[k]).toNat = (b[k]).toNat := fun e => h3 (UInt8.toNat_inj.1 e)
            simp; omega
          have hW0 := less_at a b k h1 h2 h3 hr.out
          by_cases h4 : (a[k]).toNat < (b[k]).toNat
          · have c5 : decide ((a[k]).toNat < (b[k]).toNat) = true := decide_eq_true h4
            have hW := hW0.trans (decide_eq_true h4)
            clear hW0 h3 h4
            have HN := Lib.hid (fun nq => below_drewN hB.out nq)
            have hV : Op.bytesLess a.data.toList b.data.toList = true := hW
            have H0' := H0.out
            rw [hV] at H0'
            have HL0 := Lib.hid H0'
            have H3' := H3.out
            rw [less_asym _ _ hV] at H3'
            have HL3 := Lib.hid H3'
            clear H3' H3
            clear hB hr hW hV H0' H0
            go_wp2_with fail
            go_quiet (fail)
            go_wp2_with fail
            go_quiet (fail)
            go_wp2_with fail
            refine (HA.out _ (HT.out.below (HN.out _))).mono ?_
            rintro e w1 ⟨rfl, hb1⟩
            have HB1 := Lib.hid (chain (HN.out _) hb1)
            clear hb1
            have hs := HS.out
            have cs : (convert 30 9 (.slice (some ⟨w1.heap.size, 0, none⟩) 1 1)).run Tryd.prog (w1.alloc (.cells #[.int .u8 m] 5)) = .ok (.string ⟨#[UInt8.ofNat m.toNat]⟩) (w1.alloc (.cells #[.int .u8 m] 5)) :=
              conv_at (one_bat w1 _ m HM.out) rfl _ _ _ Tryd.underlying30 Tryd.underlying5 Tryd.underlying9 _
            go_wp2_with fail
            refine (HL0.out _).mono ?_
            rintro e w' ⟨rfl, rfl⟩
            go_wp2_with fail
            refine (H1.out _).mono ?_
            rintro e w' ⟨rfl, rfl⟩
            go_wp2_with fail
            refine (H2.out _).mono ?_
            rintro e w' ⟨rfl, rfl⟩
            go_wp2_with fail
            refine (HL0.out _).mono ?_
            rintro e w' ⟨rfl, rfl⟩
            go_wp2_with fail
            refine (HL3.out _).mono ?_
            rintro e w' ⟨rfl, rfl⟩
            go_wp2
            go_ret
            exact ⟨rfl, HB1.out.alloc (Nat.le_trans (Nat.le_refl _) HB1.out.size) _⟩
          · have c5 : decide ((a[k]).toNat < (b[k]).toNat) = false := decide_eq_false h4
            have hW := hW0.trans (decide_eq_false h4)
            clear hW0 h3 h4
            have HN := Lib.hid (fun nq => below_drewN hB.out nq)
            have hV : Op.bytesLess a.data.toList b.data.toList = false := hW
            have H0' := H0.out
            rw [hV] at H0'
            have HL0 := Lib.hid H0'
            clear H3
            clear hB hr hW hV H0' H0
            go_wp2_with fail
            go_quiet (fail)
            go_wp2_with fail
            go_quiet (fail)
            go_wp2_with fail
            refine (HA.out _ (HT.out.below (HN.out _))).mono ?_
            rintro e w1 ⟨rfl, hb1⟩
            have HB1 := Lib.hid (chain (HN.out _) hb1)
            clear hb1
            have hs := HS.out
            have cs : (convert 30 9 (.slice (some ⟨w1.heap.size, 0, none⟩) 1 1)).run Tryd.prog (w1.alloc (.cells #[.int .u8 m] 5)) = .ok (.string ⟨#[UInt8.ofNat m.toNat]⟩) (w1.alloc (.cells #[.int .u8 m] 5)) :=
              conv_at (one_bat w1 _ m HM.out) rfl _ _ _ Tryd.underlying30 Tryd.underlying5 Tryd.underlying9 _
            go_wp2_with fail
            refine (HL0.out _).mono ?_
            rintro e w' ⟨rfl, rfl⟩
            go_wp2_with fail
            refine (H1.out _).mono ?_
            rintro e w' ⟨rfl, rfl⟩
            go_wp2_with fail
            refine (H2.out _).mono ?_
            rintro e w' ⟨rfl, rfl⟩
            go_wp2_with fail
            refine (HL0.out _).mono ?_
            rintro e w' ⟨rfl, rfl⟩
            go_wp2
            go_ret
            exact ⟨rfl, HB1.out.alloc (Nat.le_trans (Nat.le_refl _) HB1.out.size) _⟩
      · have c2 : decide ((k : Int) < (b.size : Int)) = false := by simp; omega
        have hW : Op.bytesLess a.data.toList b.data.toList = false := by
          rw [less_drop k _ _ (by rw [← HLA.out]; omega) (by rw [← HLB.out]; exact hkb) hr.out, show b.data.toList.drop k = [] from List.drop_eq_nil_of_le (by rw [← HLB.out]; omega)]
          cases List.drop k a.data.toList <;> rfl
        have HN := Lib.hid (fun nq => below_drewN hB.out nq)
        have hV : Op.bytesLess a.data.toList b.data.toList = false := hW
        have H0' := H0.out
        rw [hV] at H0'
        have HL0 := Lib.hid H0'
        clear H3
        clear hB hr hW hV H0' H0
        go_wp2_with fail
        go_quiet (fail)
        go_wp2_with fail
        go_quiet (fail)
        go_wp2_with fail
        refine (HA.out _ (HT.out.below (HN.out _))).mono ?_
        rintro e w1 ⟨rfl, hb1⟩
        have HB1 := Lib.hid (chain (HN.out _) hb1)
        clear hb1
        have hs := HS.out
        have cs : (convert 30 9 (.slice (some ⟨w1.heap.size, 0, none⟩) 1 1)).run Tryd.prog (w1.alloc (.cells #[.int .u8 m] 5)) = .ok (.string ⟨#[UInt8.ofNat m.toNat]⟩) (w1.alloc (.cells #[.int .u8 m] 5)) :=
          conv_at (one_bat w1 _ m HM.out) rfl _ _ _ Tryd.underlying30 Tryd.underlying5 Tryd.underlying9 _
        go_wp2_with fail
        refine (HL0.out _).mono ?_
        rintro e w' ⟨rfl, rfl⟩
        go_wp2_with fail
        refine (H1.out _).mono ?_
        rintro e w' ⟨rfl, rfl⟩
        go_wp2_with fail
        refine (H2.out _).mono ?_
        rintro e w' ⟨rfl, rfl⟩
        go_wp2_with fail
        refine (HL0.out _).mono ?_
        rintro e w' ⟨rfl, rfl⟩
        go_wp2
        go_ret
        exact ⟨rfl, HB1.out.alloc (Nat.le_trans (Nat.le_refl _) HB1.out.size) _⟩
    · have c1 : decide ((k : Int) < (a.size : Int)) = false := by simp; omega
      have c4 : ((k : Int) == (a.size : Int)) = true := by simp; omega
      have hnil : a.data.toList.drop k = [] := List.drop_eq_nil_of_le (by rw [← HLA.out]; omega)
      by_cases h2 : k < b.size
      · have c2 : decide ((k : Int) < (b.size : Int)) = true := by simp; omega
        have hW : Op.bytesLess a.data.toList b.data.toList = true := by
          rw [less_drop k _ _ (by rw [← HLA.out]; exact hka) (by rw [← HLB.out]; exact hkb) hr.out, hnil, List.drop_eq_getElem_cons (by rw [← HLB.out]; exact h2)]
          rfl
        clear hnil
        have HN := Lib.hid (fun nq => below_drewN hB.out nq)
        have hV : Op.bytesLess a.data.toList b.data.toList = true := hW
        have H0' := H0.out
        rw [hV] at H0'
        have HL0 := Lib.hid H0'
        have H3' := H3.out
        rw [less_asym _ _ hV] at H3'
        have HL3 := Lib.hid H3'
        clear H3' H3
        clear hB hr hW hV H0' H0
        go_wp2_with fail
        go_quiet (fail)
        go_wp2_with fail
        go_quiet (fail)
        go_wp2_with fail
        refine (HA.out _ (HT.out.below (HN.out _))).mono ?_
        rintro e w1 ⟨rfl, hb1⟩
        have HB1 := Lib.hid (chain (HN.out _) hb1)
        clear hb1
        have hs := HS.out
        have cs : (convert 30 9 (.slice (some ⟨w1.heap.size, 0, none⟩) 1 1)).run Tryd.prog (w1.alloc (.cells #[.int .u8 m] 5)) = .ok (.string ⟨#[UInt8.ofNat m.toNat]⟩) (w1.alloc (.cells #[.int .u8 m] 5)) :=
          conv_at (one_bat w1 _ m HM.out) rfl _ _ _ Tryd.underlying30 Tryd.underlying5 Tryd.underlying9 _
        go_wp2_with fail
        refine (HL0.out _).mono ?_
        rintro e w' ⟨rfl, rfl⟩
        go_wp2_with fail
        refine (H1.out _).mono ?_
        rintro e w' ⟨rfl, rfl⟩
        go_wp2_with fail
        refine (H2.out _).mono ?_
        rintro e w' ⟨rfl, rfl⟩
        go_wp2_with fail
        refine (HL0.out _).mono ?_
        rintro e w' ⟨rfl, rfl⟩
        go_wp2_with fail
        refine (HL3.out _).mono ?_
        rintro e w' ⟨rfl, rfl⟩
        go_wp2
        go_ret
        exact ⟨rfl, HB1.out.alloc (Nat.le_trans (Nat.le_refl _) HB1.out.size) _⟩
      · have c2 : decide ((k : Int) < (b.size : Int)) = false := by simp; omega
        have hW : Op.bytesLess a.data.toList b.data.toList = false := by
          rw [less_drop k _ _ (by rw [← HLA.out]; exact hka) (by rw [← HLB.out]; exact hkb) hr.out, hnil, List.drop_eq_nil_of_le (by rw [← HLB.out]; omega)]
          rfl
        clear hnil
        have HN := Lib.hid (fun nq => below_drewN hB.out nq)
        have hV : Op.bytesLess a.data.toList b.data.toList = false := hW
        have H0' := H0.out
        rw [hV] at H0'
        have HL0 := Lib.hid H0'
        clear H3
        clear hB hr hW hV H0' H0
        go_wp2_with fail
        go_quiet (fail)
        go_wp2_with fail
        go_quiet (fail)
        go_wp2_with fail
        refine (HA.out _ (HT.out.below (HN.out _))).mono ?_
        rintro e w1 ⟨rfl, hb1⟩
        have HB1 := Lib.hid (chain (HN.out _) hb1)
        clear hb1
        have hs := HS.out
        have cs : (convert 30 9 (.slice (some ⟨w1.heap.size, 0, none⟩) 1 1)).run Tryd.prog (w1.alloc (.cells #[.int .u8 m] 5)) = .ok (.string ⟨#[UInt8.ofNat m.toNat]⟩) (w1.alloc (.cells #[.int .u8 m] 5)) :=
          conv_at (one_bat w1 _ m HM.out) rfl _ _ _ Tryd.underlying30 Tryd.underlying5 Tryd.underlying9 _
        go_wp2_with fail
        refine (HL0.out _).mono ?_
        rintro e w' ⟨rfl, rfl⟩
        go_wp2_with fail
        refine (H1.out _).mono ?_
        rintro e w' ⟨rfl, rfl⟩
        go_wp2_with fail
        refine (H2.out _).mono ?_
        rintro e w' ⟨rfl, rfl⟩
        go_wp2_with fail
        refine (HL0.out _).mono ?_
        rintro e w' ⟨rfl, rfl⟩
        go_wp2
        go_ret
        exact ⟨rfl, HB1.out.alloc (Nat.le_trans (Nat.le_refl _) HB1.out.size) _⟩
end Go.Proofs.YtdnelijkhinpcaaDoor.Walk
