/- The walk over NumMuls: it returns true for every pair and every small number, and writes nothing that was there. -/
import Derived.Test.YtfnlndehpkhbiaaNumAddsWalk
import Derived.Deep.DeepCutAuto
import Derived.Deep.LoopGhost
namespace Go.Proofs.Ytfnlndehpkhbiaa.Walk
open Go.ChangeShapes Go.WideShapes Go.ChangeAt Go.RowKit Go.Proofs.Ytfnlndehpkhbiaa.Base Go.Proofs.Ytfnlndehpkhbiaa.Num
set_option linter.unusedVariables false

theorem radd_owned (base : Nat) (v : Value) (n : Nat) (zs : List Int) (w : World) (hn : zs.length = n) (hm : n ≤ maxLen) (h : w.ownsRow base 3 1 v n (zs.map (Value.int .i64))) :
    Calls Try.prog 9 #[v] w fun e w' => e = .returned (.tuple #[.int .i64 (valO (sumF zs 0)), .bool (okO (sumF zs 0))]) ∧ w = w' := by
  have h' := h
  rcases h.2 with ⟨rfl, rfl⟩ | ⟨g, cap, cur, rfl, _⟩
  · obtain rfl : zs = [] := List.length_eq_zero_iff.1 hn
    exact radd_empty _ _ _
  · refine radd_some g 0 n cap zs w hn hm (fun i hi => ?_)
    rw [Nat.zero_add, h'.cellAt i (by omega), List.getElem?_map, List.getElem?_eq_getElem (by omega)]
    simp [List.getD, hn, hi]

/-- as many times a number, from a sum on -/
theorem sumF_times (a : Int) : ∀ (k : Nat) (s : Int), 0 ≤ s → s ≤ 4611686018427387904 → 0 < k → sumF (List.replicate k a) s = if 0 ≤ a ∧ s + a * k ≤ 4611686018427387904 then some (s + a * k) else none
  | 0, _, _, _, h => by omega
  | 1, s, h0, h1, _ => by
    simp only [List.replicate, sumF]
    by_cases h : 0 ≤ a ∧ a ≤ 4611686018427387904 - s
    · rw [if_pos h, if_pos (by omega)]; congr 1; omega
    · rw [if_neg h, if_neg (by omega)]
  | k + 2, s, h0, h1, _ => by
    rw [List.replicate_succ, sumF]
    have e : a * ((k + 2 : Nat) : Int) = a + a * ((k + 1 : Nat) : Int) := by
      rw [show ((k + 2 : Nat) : Int) = 1 + ((k + 1 : Nat) : Int) from by omega, Int.mul_add, Int.mul_one]
    by_cases h : 0 ≤ a ∧ a ≤ 4611686018427387904 - s
    · have hp : 0 ≤ a * ((k + 1 : Nat) : Int) := Int.mul_nonneg h.1 (by omega)
      rw [if_pos h, sumF_times a (k + 1) (s + a) (by omega) (by omega) (by omega), e]
      by_cases h2 : 0 ≤ a ∧ s + a + a * ((k + 1 : Nat) : Int) ≤ 4611686018427387904
      · rw [if_pos h2, if_pos (by omega)]; congr 1; omega
      · rw [if_neg h2, if_neg (by omega)]
    · rw [if_neg h, e]
      rw [if_neg]
      rintro ⟨h3, h4⟩
      have hp : 0 ≤ a * ((k + 1 : Nat) : Int) := Int.mul_nonneg h3 (by omega)
      omega
theorem one_new (w : World) (x : Value) (t : TypeId) : ∀ j u, [x][j]? = some u → (w.alloc (.cells #[x] t)).cell? ((⟨w.heap.size, 0, none⟩ : Addr).add j) = some u := by
  intro j u hj
  match j, hj with
  | 0, hj => simp at hj; subst hj; simp [Addr.add]
  | j + 1, hj => simp at hj
theorem times_snoc (a : Int) (k : Nat) : (List.replicate (k + 1) a).map (Value.int .i64) = (List.replicate k a).map (Value.int .i64) ++ [.int .i64 a] := by
  rw [List.replicate_succ', List.map_append]; rfl
theorem sumF_mul (a : Int) (k : Nat) (hk : 0 < k) (hs : k ≤ 300) : sumF (List.replicate k a) 0 = mulF a k := by
  rw [sumF_times a k 0 (by omega) (by omega) hk, mulF, Int.zero_add]
  by_cases h : 0 ≤ a ∧ a * (k : Int) ≤ 4611686018427387904
  · have h1 : a * 1 ≤ a * (k : Int) := Int.mul_le_mul_of_nonneg_left (by omega) h.1
    rw [if_pos h, if_pos (by omega)]
  · rw [if_neg h, if_neg (by omega)]
theorem mulF_zero (a : Int) : mulF a 0 = if 0 ≤ a ∧ a ≤ 4611686018427387904 then some 0 else none := by
  rw [mulF, Int.mul_zero]
  by_cases h : 0 ≤ a ∧ a ≤ 4611686018427387904
  · rw [if_pos h, if_pos (by omega)]
  · rw [if_neg h, if_neg (by omega)]


theorem mulF_cases (a b : Int) : (0 ≤ a ∧ a ≤ 4611686018427387904 ∧ 0 ≤ b ∧ b ≤ 4611686018427387904 ∧ a * b ≤ 4611686018427387904 ∧ mulF a b = some (a * b)) ∨
    ((a < 0 ∨ 4611686018427387904 < a ∨ (0 ≤ a ∧ a ≤ 4611686018427387904 ∧ b < 0) ∨ (0 ≤ a ∧ a ≤ 4611686018427387904 ∧ 4611686018427387904 < b) ∨ (0 < a ∧ a ≤ 4611686018427387904 ∧ 0 ≤ b ∧ b ≤ 4611686018427387904 ∧ 4611686018427387904 / a < b)) ∧ mulF a b = none) := by
  unfold mulF
  by_cases h : 0 ≤ a ∧ a ≤ 4611686018427387904 ∧ 0 ≤ b ∧ b ≤ 4611686018427387904 ∧ a * b ≤ 4611686018427387904
  · left; rw [if_pos h]; exact ⟨h.1, h.2.1, h.2.2.1, h.2.2.2.1, h.2.2.2.2, rfl⟩
  · right; rw [if_neg h]; refine ⟨?_, rfl⟩
    by_cases h1 : a < 0
    · exact .inl h1
    by_cases h2 : 4611686018427387904 < a
    · exact .inr (.inl h2)
    by_cases h3 : b < 0
    · exact .inr (.inr (.inl ⟨by omega, by omega, h3⟩))
    by_cases h4 : 4611686018427387904 < b
    · exact .inr (.inr (.inr (.inl ⟨by omega, by omega, h4⟩)))
    refine .inr (.inr (.inr (.inr ?_)))
    have h5 : 0 < a := by
      by_cases h6 : a = 0
      · subst h6; exact absurd ⟨by omega, by omega, by omega, by omega, by omega⟩ h
      · omega
    exact ⟨h5, by omega, by omega, by omega, (div_lt a b h5).2 (by omega)⟩

set_option maxRecDepth 100000 in
set_option maxHeartbeats 2000000 in
theorem numMuls' (a b s : Int) (w : World) (hs0 : 0 ≤ s) (hs1 : s ≤ 65535) :
    Calls Try.prog 4 #[.int .i64 a, .int .i64 b, .int .u16 s] w fun e w' => e = .returned (.bool true) ∧ Below w.heap.size w w' := by
  obtain ⟨n, ok, hn⟩ : ∃ n ok, valO (mulF a b) = n ∧ okO (mulF a b) = ok := ⟨_, _, rfl, rfl⟩
  have HC : Hid ((0 ≤ a ∧ a ≤ 4611686018427387904 ∧ 0 ≤ b ∧ b ≤ 4611686018427387904 ∧ a * b ≤ 4611686018427387904 ∧ ok = true ∧ n = a * b) ∨
    ((a < 0 ∨ 4611686018427387904 < a ∨ (0 ≤ a ∧ a ≤ 4611686018427387904 ∧ b < 0) ∨ (0 ≤ a ∧ a ≤ 4611686018427387904 ∧ 4611686018427387904 < b) ∨ (0 < a ∧ a ≤ 4611686018427387904 ∧ 0 ≤ b ∧ b ≤ 4611686018427387904 ∧ 4611686018427387904 / a < b)) ∧ ok = false ∧ n = 0)) := by
    rcases mulF_cases a b with ⟨h1, h2, h3, h4, h5, h6⟩ | ⟨h1, h2⟩
    · rw [h6] at hn; exact .inl ⟨h1, h2, h3, h4, h5, hn.2.symm, hn.1.symm⟩
    · rw [h2] at hn; exact .inr ⟨h1, hn.2.symm, hn.1.symm⟩
  have HN := Lib.hid hn
  clear hn
  go_enter Try.func4, Try.ntmps4
  go_wp2_with fail
  refine (mul_any a b _).mono ?_
  rintro e w3 ⟨rfl, rfl⟩
  rw [HN.out.1, HN.out.2]
  go_upto_region 2 with fail
  go_cut [41] (fun s41 wx => s41 = .bool false ∧ w = wx)
  case first =>
    rcases HC.out with ⟨h1, h2, h3, h4, h5, rfl, rfl⟩ | ⟨h1 | h1 | ⟨h1, h2, h3⟩ | ⟨h1, h2, h3⟩ | ⟨h1, h2, h3, h4, h5⟩, rfl, rfl⟩
    all_goals
      go_wp2_with fail
      go_meet
      exact ⟨rfl, rfl⟩
  case rest =>
    obtain ⟨rfl, rfl⟩ := hcut
    go_upto_region 4 with fail
    go_cut [69] (fun s69 wx => s69 = .bool false ∧ w = wx)
    case first =>
      rcases HC.out with ⟨h1, h2, h3, h4, h5, rfl, hnn⟩ | ⟨_, rfl, rfl⟩
      · by_cases h6 : a = 0
        · subst h6
          obtain rfl : n = 0 := by rw [hnn, Int.zero_mul]
          clear hnn
          go_wp2_with fail
          go_meet
          exact ⟨rfl, rfl⟩
        · have h7 : 0 < a := by omega
          have h8 : 0 ≤ n := by rw [hnn]; exact Int.mul_nonneg h1 h3
          have h8' : n ≤ 4611686018427387904 := by omega
          have h9 : (n / a != b) = false := by rw [hnn, Int.mul_ediv_cancel_left b h6]; simp
          have h10 : (a != 0) = true := by rw [bne_iff_ne]; exact h6
          have h11 : (a == 0) = false := by rw [beq_eq_false_iff_ne]; exact h6
          have h12 : decide (n < 0) = false := by simp; omega
          have h13 : decide (4611686018427387904 < n) = false := by simp; omega
          clear h6 hnn h5
          go_wp2_with fail
          go_meet
          exact ⟨rfl, rfl⟩
      · go_wp2_with fail
        go_meet
        exact ⟨rfl, rfl⟩
    case rest =>
      obtain ⟨rfl, rfl⟩ := hcut
      go_upto_region 6 with fail
      go_cut [89] (fun s89 wx => s89 = .bool false ∧ w = wx)
      case first =>
        rcases HC.out with ⟨h1, h2, h3, h4, h5, rfl, rfl⟩ | ⟨h1 | h1 | ⟨h1, h2, h3⟩ | ⟨h1, h2, h3⟩ | ⟨h1, h2, h3, h4, h5⟩, rfl, rfl⟩
        rotate_right
        · have h6 : decide (b ≤ 4611686018427387904 / a) = false := by simp; exact h5
          have h7 : (a == 0) = false := by rw [beq_eq_false_iff_ne]; omega
          go_wp2_with (go_at_call 12; first | (refine (may_yes _ _ (by omega) (by omega)).mono ?_; rintro e w' ⟨rfl, rfl⟩) | (refine (may_no _ _ (by omega)).mono ?_; rintro e w' ⟨rfl, rfl⟩))
          go_meet
          exact ⟨rfl, rfl⟩
        all_goals
          go_wp2_with (go_at_call 12; first | (refine (may_yes _ _ (by omega) (by omega)).mono ?_; rintro e w' ⟨rfl, rfl⟩) | (refine (may_no _ _ (by omega)).mono ?_; rintro e w' ⟨rfl, rfl⟩))
          go_meet
          exact ⟨rfl, rfl⟩
      case rest =>
        obtain ⟨rfl, rfl⟩ := hcut
        obtain ⟨m, hm, hm300⟩ : ∃ m : Nat, (m : Int) = s % 300 ∧ m < 300 := ⟨(s % 300).toNat, by omega, by omega⟩
        have HM := Lib.hid hm
        clear hm
        obtain ⟨i0, hi, hz0, hz1, hz2⟩ := info_parts infoInt
        have HI := Lib.hid hi
        have HZ0 := Lib.hid hz0
        have HZ1 := Lib.hid hz1
        have HZ2 := Lib.hid hz2
        clear hi hz0 hz1 hz2
        go_wp2_with fail
        go_loopw [9, 10] (fun v i wr => ∃ k : Nat, k ≤ m ∧ i = .int .i64 k ∧ wr.ownsRow w.heap.size 3 1 v k ((List.replicate k a).map (Value.int .i64)) ∧ Below w.heap.size w wr) (fun _ i _ => m - (intOf i).toNat)
        case atStart => exact ⟨0, Nat.zero_le _, rfl, World.ownsRow_nil _ _ _ _, Below.refl _ _⟩
        case round =>
          obtain ⟨k, hk, rfl, hown, hbel⟩ := hrel
          by_cases hkm : k < m
          · have hlt : (k : Int) < s % 300 := by have := HM.out; omega
            go_wp2_with (at_builtin; refine wpList_append_own _ rfl _ _ 22 rfl w.heap.size 3 i0 (.int .i64 0) 1 8 Try.underlying22 HI.out HZ0.out HZ1.out HZ2.out rfl (by decide) _ k _ rfl (hown.alloc _) ⟨wr.heap.size, 0, none⟩ 1 1 [.int .i64 a] rfl rfl ?c1 ?c2 ?c3 ?c4 ?c5 ?_)
            case c1 => exact one_new _ _ _
            case c2 => intro u hu; simp at hu; subst hu; rfl
            case c3 => unfold maxLen; omega
            case c4 => omega
            case c5 => have := hbel.size; simp; omega
            · intro v' w1 hown' hgrow _
              go_wp2_with fail
              go_roundw
              case rel => exact ⟨k + 1, by omega, by go_num, by rw [times_snoc, List.map_replicate]; exact hown', (hbel.alloc hbel.size _).grown hgrow (by have := hbel.size; simp; omega) (fun j hj => ((hown.lt j hj).1))⟩
              case measure => simp [intOf]; omega
          · have hlt : ¬ (k : Int) < s % 300 := by have := HM.out; omega
            obtain rfl : k = m := by omega
            have hks : Hid (s % 300 = (k : Int)) := Lib.hid (by have := HM.out; omega)
            go_wp2_with fail
            refine (radd_owned _ _ k (List.replicate k a) _ List.length_replicate (by unfold maxLen; omega) hown).mono ?_
            rintro e w3 ⟨rfl, rfl⟩
            go_wp2_with fail
            refine (mul_any a _ _).mono ?_
            rintro e w4 ⟨rfl, rfl⟩
            rw [hks.out]
            by_cases hk0 : k = 0
            · subst hk0
              obtain ⟨p, hp⟩ : ∃ p, inB a 0 4611686018427387904 = p := ⟨_, rfl⟩
              have e1 : valO (mulF a ((0 : Nat) : Int)) = 0 := by rw [show ((0 : Nat) : Int) = 0 from rfl, mulF_zero]; split <;> rfl
              have e2 : okO (mulF a ((0 : Nat) : Int)) = p := by rw [← hp, show ((0 : Nat) : Int) = 0 from rfl, mulF_zero, inB]; split <;> rename_i h <;> simp [okO, h]
              rw [e1, e2]
              have HP := Lib.hid hp
              clear hp e1 e2
              have hv : ∃ ad cp, u9 = .slice ad 0 cp := by
                rcases hown.2 with ⟨h, _⟩ | ⟨g, cp, cur, h, _⟩
                · exact ⟨_, _, h⟩
                · exact ⟨_, _, h⟩
              obtain ⟨ad, cp, hv⟩ := hv
              rw [hv]
              go_wp2_with fail
              refine (answers_any _).mono ?_
              rintro e w5 ⟨rfl, hb2⟩
              go_wp2_with (go_at_call 12; refine (may_any _ _).mono ?_; rintro e w' ⟨rfl, rfl⟩; rw [HP.out])
              go_ret
              exact ⟨rfl, hbel.trans (hb2.mono hbel.size)⟩
            · have hkp : 0 < k := by omega
              obtain ⟨x, p, hx⟩ : ∃ x p, valO (mulF a (k : Int)) = x ∧ okO (mulF a (k : Int)) = p := ⟨_, _, rfl, rfl⟩
              rw [sumF_mul a k hkp (by omega), hx.1, hx.2]
              have HX := Lib.hid hx
              clear hx hk0
              have hv : ∃ ad cp, u9 = .slice ad k cp := by
                rcases hown.2 with ⟨_, h⟩ | ⟨g, cp, cur, h, _⟩
                · omega
                · exact ⟨_, _, h⟩
              obtain ⟨ad, cp, hv⟩ := hv
              rw [hv]
              have hz : ((k : Int) == 0) = false := by rw [beq_eq_false_iff_ne]; omega
              go_wp2_with fail
              refine (answers_any _).mono ?_
              rintro e w5 ⟨rfl, hb2⟩
              go_wp2_with fail
              go_ret
              exact ⟨rfl, hbel.trans (hb2.mono hbel.size)⟩

theorem numMuls (a b s : Int) (w : World) (w0 : (Lit.int .i64 a).wf = true) (w1 : (Lit.int .i64 b).wf = true) (w2 : (Lit.int .u16 s).wf = true) :
    Calls Try.prog 4 #[.int .i64 a, .int .i64 b, .int .u16 s] w fun e w' => e = .returned (.bool true) ∧ Below w.heap.size w w' := by
  have h1 : IntKind.u16.min = 0 := rfl
  have h2 : IntKind.u16.max = 65535 := rfl
  simp only [Lit.wf, Bool.and_eq_true, decide_eq_true_eq, h1, h2] at w2
  exact numMuls' a b s w w2.1 w2.2
end Go.Proofs.Ytfnlndehpkhbiaa.Walk
