/- The document's own answers for layer attr: the last record, what counts of a key, a time's seconds. -/
import Derived.Test.YtfmhdkemigpjjaaDoorAttrPlain
import Derived.Test.YtfmhdkemigpjjaaDoorRecRow
import Derived.Test.YtfmhdkemigpjjaaDoorRecRef
import Derived.Test.YtfmhdkemigpjjaaDoorBlk
namespace Go.Proofs.YtfmhdkemigpjjaaDoor.Attr
open Go.ChangeShapes Go.WideShapes Go.ChangeAt Go.RowKit Go.Proofs.YtfmhdkemigpjjaaDoor.Base Go.Proofs.YtfmhdkemigpjjaaDoor.Byt Go.Proofs.YtfmhdkemigpjjaaDoor.Txt Go.Proofs.YtfmhdkemigpjjaaDoor.Rec Go.Proofs.YtfmhdkemigpjjaaDoor.Bk Go.Lib
set_option linter.unusedVariables false
set_option maxRecDepth 100000

def rlastV (o : Option (List UInt8)) : Value := match o with
  | some v => .tuple #[.string (str v), .bool true]
  | none => .tuple #[.string ⟨#[]⟩, .bool false]
theorem rlast_any (p : Option Addr) (n c : Nat) (rs : RecL) (k : List UInt8) (w : World) (hn : n ≤ 4611686018427387904) (h : RecsAt w p n rs) :
    Calls Tryd.prog 21 #[.slice p n c, .string (str k)] w fun e w' => e = .returned (rlastV (lastD rs k)) ∧ w = w' := by
  have HL := Lib.hid h.1
  have HR := Lib.hid h
  clear h
  go_enter Tryd.func21, Tryd.ntmps21
  go_wp2_with fail
  go_loop [6] (fun i => ∃ (m : Nat), m ≤ n ∧ i = .int .i64 ((m : Int) - 1) ∧ Hid (∀ j, m ≤ j → j < n → (rs.getD j ([], [])).1 ≠ k)) (fun i => (RowKit.intOf i + 1).toNat)
  case atStart => exact ⟨n, Nat.le_refl _, rfl, Lib.hid (fun j h1 h2 => absurd h1 (by omega))⟩
  case round =>
    obtain ⟨m, hm, rfl, hI⟩ := hrel
    cases m with
    | zero =>
      have HE : Hid (lastD rs k = none) := Lib.hid (lastD_no fun j hj => hI.out j (Nat.zero_le _) (by rw [HL.out] at hj; exact hj))
      go_wp2
      go_ret2
      exact ⟨by rw [HE.out]; rfl, rfl⟩
    | succ j =>
      rw [show (((j + 1 : Nat) : Int) - 1) = (j : Int) by omega]
      obtain ⟨b, o, rfl, hb, hc⟩ := HR.out.2 (by omega)
      obtain ⟨x0, x1⟩ := hc j (by omega)
      rw [Nat.mul_comm] at x0 x1
      obtain ⟨⟨rk, rv⟩, hr⟩ : ∃ u, rs.getD j ([], []) = u := ⟨_, rfl⟩
      rw [hr] at x0 x1
      simp only at x0 x1
      have HRR := Lib.hid hr
      clear hr hc hb
      by_cases hk : rk = k
      · have e1 : ((str rk).toList == (str k).toList) = true := by rw [str_toList, str_toList]; simpa using hk
        have HE : Hid (lastD rs k = some rv) := Lib.hid (by
          rw [lastD_at j (by rw [HL.out]; omega) (by rw [HRR.out]; exact hk) (fun t h1 h2 => hI.out t (by omega) (by rw [HL.out] at h2; exact h2)), HRR.out])
        clear hk
        go_wp2
        go_ret2
        exact ⟨by rw [HE.out]; rfl, rfl⟩
      · have e1 : ((str rk).toList == (str k).toList) = false := by rw [str_toList, str_toList]; simpa using hk
        have HN : Hid (∀ t, j ≤ t → t < n → (rs.getD t ([], [])).1 ≠ k) := Lib.hid (fun t h1 h2 => by
          rcases Nat.lt_or_eq_of_le h1 with h1 | rfl
          · exact hI.out t h1 h2
          · rw [HRR.out]; exact hk)
        clear hk
        go_wp2
        go_round
        case rel => exact ⟨j, by omega, rfl, HN⟩
        case measure => simp [RowKit.intOf]
theorem rvalue_any (q : Option Addr) (m d : Nat) (gs : RecL) (p : Option Addr) (n c : Nat) (rs : RecL) (k : List UInt8) (w : World) (hm : m ≤ 4611686018427387904) (hn : n ≤ 4611686018427387904) (h1 : RecsAt w q m gs) (h2 : RecsAt w p n rs) :
    Calls Tryd.prog 13 #[.slice q m d, .slice p n c, .string (str k)] w fun e w' => e = .returned (.string (str (valueD (lastD gs) rs k))) ∧ w = w' := by
  have c1 := rlast_any p n c rs k w hn h2
  have c2 := rlast_any q m d gs k w hm h1
  unfold valueD
  clear h1 h2 hm hn
  cases hr : lastD rs k with
  | some v =>
    rw [hr, show rlastV (some v) = .tuple #[.string (str v), .bool true] from rfl] at c1
    have C1 := Lib.hid c1
    clear c1 c2
    go_enter Tryd.func13, Tryd.ntmps13
    go_wp2_with fail
    refine C1.out.mono ?_
    rintro e w1 ⟨rfl, rfl⟩
    go_wp2
    go_ret
    exact ⟨rfl, rfl⟩
  | none =>
    rw [hr, show rlastV none = .tuple #[.string ⟨#[]⟩, .bool false] from rfl] at c1
    have C1 := Lib.hid c1
    cases hg : lastD gs k with
    | some v =>
      rw [hg, show rlastV (some v) = .tuple #[.string (str v), .bool true] from rfl] at c2
      have C2 := Lib.hid c2
      clear c1 c2
      go_enter Tryd.func13, Tryd.ntmps13
      go_wp2_with fail
      refine C1.out.mono ?_
      rintro e w1 ⟨rfl, rfl⟩
      go_wp2_with fail
      refine C2.out.mono ?_
      rintro e w1 ⟨rfl, rfl⟩
      go_wp2
      go_ret
      exact ⟨rfl, rfl⟩
    | none =>
      rw [hg, show rlastV none = .tuple #[.string ⟨#[]⟩, .bool false] from rfl] at c2
      have C2 := Lib.hid c2
      clear c1 c2
      go_enter Tryd.func13, Tryd.ntmps13
      go_wp2_with fail
      refine C1.out.mono ?_
      rintro e w1 ⟨rfl, rfl⟩
      go_wp2_with fail
      refine C2.out.mono ?_
      rintro e w1 ⟨rfl, rfl⟩
      go_wp2
      go_ret
      exact ⟨rfl, rfl⟩
theorem idx_first {l : List UInt8} {c : UInt8} {j : Nat} (h1 : l[j]? = some c) (h2 : ∀ t, t < j → l[t]? ≠ some c) : indexByte l c = j := by
  have hge := indexByte_ge l c
  by_cases h : indexByte l c = -1
  · exact absurd h1 (indexByte_none h j)
  · obtain ⟨o, ho⟩ : ∃ o : Nat, indexByte l c = o := ⟨(indexByte l c).toNat, by omega⟩
    obtain ⟨g1, g2⟩ := indexByte_some ho
    rw [ho]
    rcases Nat.lt_trichotomy o j with h | h | h
    · exact absurd g1 (h2 o h)
    · rw [h]
    · exact absurd h1 (g2 j h)
theorem idx_none {l : List UInt8} {c : UInt8} (h : ∀ t, t < l.length → l[t]? ≠ some c) : indexByte l c = -1 := by
  have hge := indexByte_ge l c
  by_cases hh : indexByte l c = -1
  · exact hh
  · obtain ⟨o, ho⟩ : ∃ o : Nat, indexByte l c = o := ⟨(indexByte l c).toNat, by omega⟩
    obtain ⟨g1, g2⟩ := indexByte_some ho
    exact absurd g1 (h o (List.getElem?_eq_some_iff.1 g1).1)
theorem get_at (s : ByteArray) (k : Nat) (h : k < s.size) : s.data.toList[k]? = some s[k] := by
  rw [List.getElem?_eq_getElem (show k < s.data.toList.length by rw [← size_of]; exact h)]; rfl
set_option maxHeartbeats 1000000 in
theorem rsec_any (s : ByteArray) (w : World) (hm : s.size ≤ 140737488351232) :
    Calls Tryd.prog 19 #[.string s] w fun e w' => e = .returned (wholeV (secD s.data.toList)) ∧ w = w' := by
  have HS : Hid (s.data.toList.length = s.size) := Lib.hid (size_of s).symm
  go_enter Tryd.func19, Tryd.ntmps19
  go_wp2_with fail
  go_loop [0, 4] (fun a i => ∃ (j : Nat), j ≤ s.size ∧ a = .string s ∧ i = .int .i64 (j : Int) ∧ Hid (∀ t, t < j → s.data.toList[t]? ≠ some 46)) (fun _ i => s.size - (RowKit.intOf i).toNat)
  case atStart => exact ⟨0, Nat.zero_le _, rfl, rfl, Lib.hid (fun t ht => absurd ht (by omega))⟩
  case round =>
    obtain ⟨j, hj, rfl, rfl, hI⟩ := hrel
    by_cases hlt : j < s.size
    · have HG := Lib.hid (get_at s j hlt)
      obtain ⟨C, hC⟩ : ∃ C : Nat, (s[j]).toNat = C := ⟨_, rfl⟩
      have hC2 : ((s[j]).toNat : Int) = (C : Int) := by rw [hC]
      have HC := Lib.hid hC
      clear hC
      by_cases h46 : C = 46
      · subst h46
        have HX : Hid (indexByte s.data.toList 46 = j) := Lib.hid (idx_first (by rw [HG.out, show s[j] = 46 from UInt8.toNat.inj (by rw [HC.out]; rfl)]) hI.out)
        have HSEC : Hid (secD s.data.toList = if (s.data.toList.drop (j + 1)).all isDig then wholeD (s.data.toList.take j) else none) := Lib.hid (by
          unfold secD
          rw [HX.out, if_pos (by omega), Int.toNat_natCast])
        go_wp2_with fail
        go_loop [5] (fun i => ∃ (k : Nat), j + 1 ≤ k ∧ k ≤ s.size ∧ i = .int .i64 (k : Int) ∧ Hid (∀ t, j < t → t < k → ∀ b, s.data.toList[t]? = some b → isDig b = true)) (fun i => s.size - (RowKit.intOf i).toNat)
        case atStart => exact ⟨j + 1, Nat.le_refl _, by omega, by go_num, Lib.hid (fun t h1 h2 => absurd h1 (by omega))⟩
        case round =>
          obtain ⟨k, hk1, hk2, rfl, hD⟩ := hrel
          by_cases hkl : k < s.size
          · have HGK := Lib.hid (get_at s k hkl)
            obtain ⟨D, hD0⟩ : ∃ D : Nat, (s[k]).toNat = D := ⟨_, rfl⟩
            have hD2 : ((s[k]).toNat : Int) = (D : Int) := by rw [hD0]
            have HDD := Lib.hid hD0
            clear hD0
            by_cases g1 : (D : Int) < 48
            · have E : Hid (secD s.data.toList = none) := Lib.hid (by
                rw [HSEC.out, if_neg]
                intro h
                have hb : isDig s[k] = true := List.all_eq_true.1 h _ (List.mem_of_getElem? (i := k - (j + 1)) (by rw [List.getElem?_drop, show j + 1 + (k - (j + 1)) = k by omega]; exact HGK.out))
                simp only [isDig, decide_eq_true_eq, HDD.out] at hb
                omega)
              go_wp2
              go_ret2
              exact ⟨by rw [E.out]; rfl, rfl⟩
            · by_cases g2 : (57 : Int) < (D : Int)
              · have E : Hid (secD s.data.toList = none) := Lib.hid (by
                  rw [HSEC.out, if_neg]
                  intro h
                  have hb : isDig s[k] = true := List.all_eq_true.1 h _ (List.mem_of_getElem? (i := k - (j + 1)) (by rw [List.getElem?_drop, show j + 1 + (k - (j + 1)) = k by omega]; exact HGK.out))
                  simp only [isDig, decide_eq_true_eq, HDD.out] at hb
                  omega)
                go_wp2
                go_ret2
                exact ⟨by rw [E.out]; rfl, rfl⟩
              · have HN : Hid (∀ t, j < t → t < k + 1 → ∀ b, s.data.toList[t]? = some b → isDig b = true) := Lib.hid (fun t h1 h2 b hb => by
                  rcases Nat.lt_succ_iff_lt_or_eq.1 h2 with h2 | rfl
                  · exact hD.out t h1 h2 b hb
                  · rw [HGK.out] at hb
                    cases hb
                    simp only [isDig, decide_eq_true_eq, HDD.out]
                    omega)
                go_wp2
                go_round
                case rel => exact ⟨k + 1, by omega, by omega, by go_num, HN⟩
                case measure => simp [RowKit.intOf]; omega
          · have E : Hid (secD s.data.toList = wholeD (s.data.toList.take j)) := Lib.hid (by
              rw [HSEC.out, if_pos]
              refine List.all_eq_true.2 fun b hb => ?_
              obtain ⟨i, hi⟩ := List.getElem?_of_mem hb
              rw [List.getElem?_drop] at hi
              have hlen := (List.getElem?_eq_some_iff.1 hi).1
              rw [HS.out] at hlen
              exact hD.out (j + 1 + i) (by omega) (by omega) b hi)
            have HW := Lib.hid (fun w => whole_any (s.extract 0 j) w)
            have HT : Hid ((s.extract 0 j).data.toList = s.data.toList.take j) := Lib.hid (by
              have := str_take s.data.toList j
              rw [str_of] at this
              rw [this, str_data])
            simp only [HT.out] at HW
            obtain ⟨Z, hZ⟩ : ∃ Z, wholeD (s.data.toList.take j) = Z := ⟨_, rfl⟩
            rw [hZ] at HW
            have E2 : Hid (wholeV (secD s.data.toList) = wholeV Z) := Lib.hid (by rw [E.out, hZ])
            clear E hZ HT HSEC HX
            cases Z with
            | none =>
              rw [show wholeV none = .tuple #[.int .i64 0, .bool false] from rfl] at HW
              go_wp2_with fail
              refine (HW.out _).mono ?_
              rintro e w1 ⟨rfl, rfl⟩
              go_wp2
              go_ret2
              exact ⟨by rw [E2.out]; rfl, rfl⟩
            | some N =>
              rw [show wholeV (some N) = .tuple #[.int .i64 (N : Int), .bool true] from rfl] at HW
              go_wp2_with fail
              refine (HW.out _).mono ?_
              rintro e w1 ⟨rfl, rfl⟩
              go_wp2
              go_ret2
              exact ⟨by rw [E2.out]; rfl, rfl⟩
      · have h46b : ((C : Int) == 46) = false := by rw [beq_eq_false_iff_ne]; omega
        have HN : Hid (∀ t, t < j + 1 → s.data.toList[t]? ≠ some 46) := Lib.hid (fun t ht => by
          rcases Nat.lt_succ_iff_lt_or_eq.1 ht with ht | rfl
          · exact hI.out t ht
          · rw [HG.out]
            intro e
            exact h46 (by rw [← HC.out, Option.some.inj e]; rfl))
        clear h46
        go_wp2
        go_round
        case rel => exact ⟨j + 1, by omega, rfl, by go_num, HN⟩
        case measure => simp [RowKit.intOf]; omega
    · have E : Hid (secD s.data.toList = wholeD s.data.toList) := Lib.hid (by
        unfold secD
        rw [idx_none (fun t ht => hI.out t (by rw [HS.out] at ht; omega)), if_neg (by omega)])
      have HW := Lib.hid (fun w => whole_any s w)
      obtain ⟨Z, hZ⟩ : ∃ Z, wholeD s.data.toList = Z := ⟨_, rfl⟩
      rw [hZ] at HW
      have E2 : Hid (wholeV (secD s.data.toList) = wholeV Z) := Lib.hid (by rw [E.out, hZ])
      clear E hZ
      cases Z with
      | none =>
        rw [show wholeV none = .tuple #[.int .i64 0, .bool false] from rfl] at HW
        go_wp2_with fail
        refine (HW.out _).mono ?_
        rintro e w1 ⟨rfl, rfl⟩
        go_wp2
        go_ret2
        exact ⟨by rw [E2.out]; rfl, rfl⟩
      | some N =>
        rw [show wholeV (some N) = .tuple #[.int .i64 (N : Int), .bool true] from rfl] at HW
        go_wp2_with fail
        refine (HW.out _).mono ?_
        rintro e w1 ⟨rfl, rfl⟩
        go_wp2
        go_ret2
        exact ⟨by rw [E2.out]; rfl, rfl⟩
end Go.Proofs.YtfmhdkemigpjjaaDoor.Attr
