/- The document's own Clean, by contract: P5.1 of every text. -/
import Derived.Test.YtdnelijkhinpcaaDoorRefText
namespace Go.Proofs.YtdnelijkhinpcaaDoor.Path
open Go.ChangeShapes Go.WideShapes Go.ChangeAt Go.RowKit Go.Proofs.YtdnelijkhinpcaaDoor.Base Go.Proofs.YtdnelijkhinpcaaDoor.Byt Go.Proofs.YtdnelijkhinpcaaDoor.Txt Go.Lib
set_option linter.unusedVariables false
set_option maxRecDepth 100000

/-- a part up to a slash, and what is behind it -/
theorem parts_at (l : List UInt8) (a i : Nat) (ha : a ≤ i) (hi : i < l.length) (hn : ∀ j, a ≤ j → j < i → l.getD j 0 ≠ 47) (h : l.getD i 0 = 47) :
    partsL (l.drop a) = (l.drop a).take (i - a) :: partsL (l.drop (i + 1)) := by
  have e : l.drop a = (l.drop a).take (i - a) ++ 47 :: l.drop (i + 1) := by
    have h1 : (l.drop a).drop (i - a) = 47 :: l.drop (i + 1) := by
      rw [List.drop_drop, show a + (i - a) = i by omega, List.drop_eq_getElem_cons hi]
      congr 1
      rw [← h, List.getD, List.getElem?_eq_getElem hi]; rfl
    rw [← h1, List.take_append_drop]
  have hp : (47 : UInt8) ∉ (l.drop a).take (i - a) := fun hm => by
    obtain ⟨j, hj, he⟩ := List.mem_iff_getElem.1 hm
    rw [List.length_take, List.length_drop] at hj
    rw [List.getElem_take, List.getElem_drop] at he
    refine hn (a + j) (by omega) (by omega) ?_
    rw [List.getD, List.getElem?_eq_getElem (by omega), he]; rfl
  rw [e, parts_app, parts_plain _ hp, ← e]
  rfl
theorem parts_end (l : List UInt8) (a : Nat) (ha : a ≤ l.length) (hn : ∀ j, a ≤ j → j < l.length → l.getD j 0 ≠ 47) : partsL (l.drop a) = [(l.drop a).take (l.length - a)] := by
  have e : (l.drop a).take (l.length - a) = l.drop a := List.take_of_length_le (by rw [List.length_drop]; exact Nat.le_refl _)
  rw [e]
  refine parts_plain _ fun hm => ?_
  obtain ⟨j, hj, he⟩ := List.mem_iff_getElem.1 hm
  rw [List.length_drop] at hj
  rw [List.getElem_drop] at he
  refine hn (a + j) (by omega) (by omega) ?_
  rw [List.getD, List.getElem?_eq_getElem (by omega), he]; rfl
theorem part_size (l : List UInt8) (a i : Nat) (hi : i ≤ l.length) (ha : a ≤ i) : ((l.drop a).take (i - a)).length = i - a := by
  rw [List.length_take, List.length_drop]; omega
theorem str_ext (s : ByteArray) (a i : Nat) : s.extract a i = str ((s.data.toList.drop a).take (i - a)) := by
  apply ByteArray.ext
  rw [← Array.toList_inj]
  simp [str, ByteArray.data_extract, List.extract_eq_take_drop]
/-- how far the document's loop is -/
def CRel (s : ByteArray) (G : Option (List UInt8)) (i a : Nat) (out : List UInt8) : Prop :=
  out.length ≤ a ∧ ((a ≤ i ∧ i ≤ s.size ∧ (∀ j, a ≤ j → j < i → s.data.toList.getD j 0 ≠ 47) ∧ goC out (partsL (s.data.toList.drop a)) = G) ∨ (i = s.size + 1 ∧ a ≤ i ∧ G = some out))
/-- what the document's loop makes of a part -/
theorem crel_next (s : ByteArray) (G : Option (List UInt8)) (i a : Nat) (out p : List UInt8) (h : out.length ≤ a) (ha : a ≤ i) (hi : i ≤ s.size) (hn : ∀ j, a ≤ j → j < i → s.data.toList.getD j 0 ≠ 47)
    (hg : goC out (partsL (s.data.toList.drop a)) = G) (hp : p = (s.data.toList.drop a).take (i - a)) (he : i = s.size ∨ s.data.toList.getD i 0 = 47) :
    (p = [46, 46] → G = none) ∧ (p ≠ [46, 46] → CRel s G (i + 1) (i + 1) (joinP out p)) := by
  have hsz : s.data.toList.length = s.size := (size_of s).symm
  have hpl : p.length = i - a := by rw [hp]; exact part_size _ _ _ (by rw [hsz]; exact hi) ha
  have hjl : (joinP out p).length ≤ i + 1 := by
    unfold joinP
    split
    · omega
    · split
      · omega
      · rw [List.length_append, List.length_cons]; omega
  by_cases hlt : i < s.size
  · have h47 : s.data.toList.getD i 0 = 47 := by rcases he with h | h; omega; exact h
    rw [parts_at _ a i ha (by rw [hsz]; exact hlt) hn h47, ← hp] at hg
    unfold goC at hg
    refine ⟨fun e => by rw [if_pos e] at hg; exact hg.symm, fun e => ?_⟩
    rw [if_neg e] at hg
    exact ⟨hjl, .inl ⟨Nat.le_refl _, hlt, fun j h1 h2 => by omega, hg⟩⟩
  · obtain rfl : i = s.size := by omega
    have hpe := parts_end s.data.toList a (by rw [hsz]; exact ha) (by rw [hsz]; exact hn)
    rw [hsz, ← hp] at hpe
    rw [hpe] at hg
    unfold goC at hg
    refine ⟨fun e => by rw [if_pos e] at hg; exact hg.symm, fun e => ?_⟩
    rw [if_neg e] at hg
    exact ⟨hjl, .inr ⟨rfl, Nat.le_refl _, hg.symm⟩⟩
set_option maxHeartbeats 4000000 in
theorem rclean_any (s : ByteArray) (w : World) (hm : s.size ≤ 1000000000000) :
    Calls Tryd.prog 10 #[.string s] w fun e w' => e = .returned (.tuple #[.string (str (cleanD 9 6 s.data.toList).1), .int .i64 (cleanD 9 6 s.data.toList).2]) ∧ w = w' := by
  have hT := rtext_any s w hm
  have hsz : s.data.toList.length = s.size := (size_of s).symm
  obtain ⟨R, hR⟩ : ∃ R, cleanD 9 6 s.data.toList = R := ⟨_, rfl⟩
  rw [hR]
  unfold cleanD at hR
  cases ht : textD s.data.toList with
  | false =>
    rw [ht] at hT hR
    rw [if_pos rfl] at hR
    subst hR
    clear hsz
    go_enter Tryd.func10, Tryd.ntmps10
    go_wp2_with (go_at_call 11; refine hT.mono ?_; rintro e w' ⟨rfl, rfl⟩)
    go_ret2
    exact ⟨rfl, rfl⟩
  | true =>
    rw [ht] at hT hR
    rw [if_neg (by simp)] at hR
    by_cases hz : s.size = 0
    · have hl : s.data.toList = [] := List.length_eq_zero_iff.1 (by rw [hsz]; exact hz)
      rw [hl, show ([] : List UInt8).headD 47 = 47 from rfl, if_pos rfl] at hR
      subst hR
      have hb : s.toList.isEmpty = true := by rw [Lib.toList_data, hl]; rfl
      clear hsz hz hl
      go_enter Tryd.func10, Tryd.ntmps10
      go_wp2_with (go_at_call 11; refine hT.mono ?_; rintro e w' ⟨rfl, rfl⟩)
      go_ret2
      exact ⟨rfl, rfl⟩
    · have h0 : 0 < s.size := by omega
      have hb : s.toList.isEmpty = false := by
        rw [Lib.toList_data]
        cases hl : s.data.toList with
        | nil => rw [hl] at hsz; simp at hsz; omega
        | cons _ _ => rfl
      have hhd : s.data.toList.headD 47 = s[0] := by
        have e : s.data.toList[0]'(by rw [hsz]; exact h0) = s[0] := rfl
        cases hl : s.data.toList with
        | nil => rw [hl] at hsz; simp at hsz; omega
        | cons b t => simp only [hl] at e; exact e
      rw [hhd] at hR
      clear hhd hz
      by_cases hc : s[0] = 47
      · rw [if_pos hc] at hR
        subst hR
        have hcb : (((s[0]).toNat : Int) == 47) = true := by rw [hc]; rfl
        clear hc hsz
        go_enter Tryd.func10, Tryd.ntmps10
        go_wp2_with (go_at_call 11; refine hT.mono ?_; rintro e w' ⟨rfl, rfl⟩)
        go_ret2
        exact ⟨rfl, rfl⟩
      · rw [if_neg hc] at hR
        have hcb : (((s[0]).toNat : Int) == 47) = false := by
          have : ¬ (s[0]).toNat = 47 := fun e => hc (UInt8.toNat_inj.1 e)
          simp; omega
        obtain ⟨G, hG⟩ : ∃ G, goC [] (partsL s.data.toList) = G := ⟨_, rfl⟩
        rw [hG] at hR
        have HR := Lib.hid hR
        have H0 : Hid (CRel s G 0 0 []) := Lib.hid ⟨Nat.le_refl _, .inl ⟨Nat.le_refl _, Nat.zero_le _, fun j h1 h2 => by omega, by rw [List.drop_zero]; exact hG⟩⟩
        clear hR hG hc hsz
        go_enter Tryd.func10, Tryd.ntmps10
        go_wp2_with (go_at_call 11; refine hT.mono ?_; rintro e w' ⟨rfl, rfl⟩)
        go_loop [4, 5, 6] (fun o at_ i => ∃ (a k : Nat) (out : List UInt8), k ≤ s.size + 1 ∧ a ≤ k ∧ o = .string (str out) ∧ at_ = .int .i64 a ∧ i = .int .i64 k ∧ Hid (CRel s G k a out)) (fun _ _ i => s.size + 1 - (RowKit.intOf i).toNat)
        case atStart => exact ⟨0, 0, [], by omega, by omega, rfl, rfl, rfl, H0⟩
        case round =>
          obtain ⟨a, k, out, hk, hak, rfl, rfl, rfl, hr⟩ := hrel
          by_cases hlt : k ≤ s.size
          · have hr' : out.length ≤ a ∧ (∀ j, a ≤ j → j < k → s.data.toList.getD j 0 ≠ 47) ∧ goC out (partsL (s.data.toList.drop a)) = G := by
              obtain ⟨h1, ⟨_, _, h2, h3⟩ | ⟨h2, _⟩⟩ := hr.out
              · exact ⟨h1, h2, h3⟩
              · omega
            have HX := Lib.hid hr'
            clear hr hr'
            by_cases hks : k < s.size
            · have hxg : s[k] = s.data.toList.getD k 0 := (by rw [List.getD, List.getElem?_eq_getElem (show k < s.data.toList.length by rw [← size_of]; exact hks)]; rfl)
              by_cases hc : s[k] = 47
              · have hcb2 : (((s[k]).toNat : Int) == 47) = true := by rw [hc]; rfl
                have he : k = s.size ∨ s.data.toList.getD k 0 = 47 := .inr (by rw [← hxg]; exact hc)
                clear hxg hc
                obtain ⟨p, hp⟩ : ∃ p, p = (s.data.toList.drop a).take (k - a) := ⟨_, rfl⟩
                obtain ⟨n1, n2⟩ := crel_next s G k a out p HX.out.1 hak hlt HX.out.2.1 HX.out.2.2 hp he
                have hext : s.extract a k = str p := by rw [str_ext, hp]
                have hss : (str out).size + 1 + (str p).size ≤ 9223372036854775807 := by
                  rw [str_size, str_size, hp, part_size _ _ _ (by rw [← size_of]; exact hlt) hak]
                  have := HX.out.1
                  omega
                have hss1 : (str out).size + 1 ≤ 9223372036854775807 := by omega
                have hss2 : (str out ++ ⟨#[47]⟩).size + (str p).size ≤ 9223372036854775807 := by rw [ByteArray.size_append]; exact hss
                have hss3 : (str out).size + (str p).size ≤ 9223372036854775807 := by omega
                clear hp he
                by_cases h1 : p = [46, 46]
                · have b1 : ((str p).toList == [46, 46]) = true := by rw [str_is]; simpa using h1
                  have hR := HR.out
                  rw [n1 h1] at hR
                  simp only at hR
                  subst hR
                  clear h1 n1 n2
                  go_wp2
                  go_ret2
                  exact ⟨rfl, rfl⟩
                · have b1 : ((str p).toList == [46, 46]) = false := by rw [str_is]; simpa using h1
                  have HN := Lib.hid (n2 h1)
                  clear h1 n1 n2
                  by_cases h2 : p = []
                  · have b2 : (str p).toList.isEmpty = true := by rw [str_empty]; simpa using h2
                    have HJ : Hid (joinP out p = out) := Lib.hid (by unfold joinP; rw [if_pos (.inl h2)])
                    clear h2
                    go_wp2
                    go_round
                    case rel => exact ⟨k + 1, k + 1, out, by omega, by omega, rfl, by go_num, by go_num, by have := HN.out; rw [HJ.out] at this; exact this⟩
                    case measure => simp [RowKit.intOf]; omega
                  · have b2 : (str p).toList.isEmpty = false := by rw [str_empty]; simpa using h2
                    by_cases h3 : p = [46]
                    · have b3 : ((str p).toList == [46]) = true := by rw [str_is]; simpa using h3
                      have HJ : Hid (joinP out p = out) := Lib.hid (by unfold joinP; rw [if_pos (.inr h3)])
                      clear h2 h3
                      go_wp2
                      go_round
                      case rel => exact ⟨k + 1, k + 1, out, by omega, by omega, rfl, by go_num, by go_num, by have := HN.out; rw [HJ.out] at this; exact this⟩
                      case measure => simp [RowKit.intOf]; omega
                    · have b3 : ((str p).toList == [46]) = false := by rw [str_is]; simpa using h3
                      by_cases h4 : out = []
                      · have b4 : (str out).toList.isEmpty = true := by rw [str_empty]; simpa using h4
                        have HJ : Hid (str out ++ str p = str (joinP out p)) := Lib.hid (by unfold joinP; rw [if_neg (fun h => h.elim h2 h3), if_pos h4, str_app, h4]; rfl)
                        clear h2 h3 h4
                        go_wp2
                        go_round
                        case rel => exact ⟨k + 1, k + 1, joinP out p, by omega, by omega, by rw [← HJ.out], by go_num, by go_num, HN⟩
                        case measure => simp [RowKit.intOf]; omega
                      · have b4 : (str out).toList.isEmpty = false := by rw [str_empty]; simpa using h4
                        have HJ : Hid (str out ++ ⟨#[47]⟩ ++ str p = str (joinP out p)) := Lib.hid (by unfold joinP; rw [if_neg (fun h => h.elim h2 h3), if_neg h4, show (⟨#[47]⟩ : ByteArray) = str [47] from rfl, str_app, str_app]; simp)
                        clear h2 h3 h4
                        go_wp2
                        go_round
                        case rel => exact ⟨k + 1, k + 1, joinP out p, by omega, by omega, by rw [← HJ.out], by go_num, by go_num, HN⟩
                        case measure => simp [RowKit.intOf]; omega
              · have hcb2 : (((s[k]).toNat : Int) == 47) = false := by
                  have : ¬ (s[k]).toNat = 47 := fun e => hc (UInt8.toNat_inj.1 e)
                  simp; omega
                have HN : Hid (CRel s G (k + 1) a out) := Lib.hid ⟨HX.out.1, .inl ⟨by omega, hks, fun j h1 h2 => by
                  rcases Nat.lt_succ_iff_lt_or_eq.1 h2 with h3 | rfl
                  · exact HX.out.2.1 j h1 h3
                  · rw [← hxg]; exact hc, HX.out.2.2⟩⟩
                clear hxg hc
                go_wp2
                go_round
                case rel => exact ⟨a, k + 1, out, by omega, by omega, rfl, rfl, by go_num, HN⟩
                case measure => simp [RowKit.intOf]; omega
            · have he : k = s.size ∨ s.data.toList.getD k 0 = 47 := .inl (by omega)
              obtain ⟨p, hp⟩ : ∃ p, p = (s.data.toList.drop a).take (k - a) := ⟨_, rfl⟩
              obtain ⟨n1, n2⟩ := crel_next s G k a out p HX.out.1 hak hlt HX.out.2.1 HX.out.2.2 hp he
              have hext : s.extract a k = str p := by rw [str_ext, hp]
              have hss : (str out).size + 1 + (str p).size ≤ 9223372036854775807 := by
                rw [str_size, str_size, hp, part_size _ _ _ (by rw [← size_of]; exact hlt) hak]
                have := HX.out.1
                omega
              have hss1 : (str out).size + 1 ≤ 9223372036854775807 := by omega
              have hss2 : (str out ++ ⟨#[47]⟩).size + (str p).size ≤ 9223372036854775807 := by rw [ByteArray.size_append]; exact hss
              have hss3 : (str out).size + (str p).size ≤ 9223372036854775807 := by omega
              clear hp he
              by_cases h1 : p = [46, 46]
              · have b1 : ((str p).toList == [46, 46]) = true := by rw [str_is]; simpa using h1
                have hR := HR.out
                rw [n1 h1] at hR
                simp only at hR
                subst hR
                clear h1 n1 n2
                go_wp2
                go_ret2
                exact ⟨rfl, rfl⟩
              · have b1 : ((str p).toList == [46, 46]) = false := by rw [str_is]; simpa using h1
                have HN := Lib.hid (n2 h1)
                clear h1 n1 n2
                by_cases h2 : p = []
                · have b2 : (str p).toList.isEmpty = true := by rw [str_empty]; simpa using h2
                  have HJ : Hid (joinP out p = out) := Lib.hid (by unfold joinP; rw [if_pos (.inl h2)])
                  clear h2
                  go_wp2
                  go_round
                  case rel => exact ⟨k + 1, k + 1, out, by omega, by omega, rfl, by go_num, by go_num, by have := HN.out; rw [HJ.out] at this; exact this⟩
                  case measure => simp [RowKit.intOf]; omega
                · have b2 : (str p).toList.isEmpty = false := by rw [str_empty]; simpa using h2
                  by_cases h3 : p = [46]
                  · have b3 : ((str p).toList == [46]) = true := by rw [str_is]; simpa using h3
                    have HJ : Hid (joinP out p = out) := Lib.hid (by unfold joinP; rw [if_pos (.inr h3)])
                    clear h2 h3
                    go_wp2
                    go_round
                    case rel => exact ⟨k + 1, k + 1, out, by omega, by omega, rfl, by go_num, by go_num, by have := HN.out; rw [HJ.out] at this; exact this⟩
                    case measure => simp [RowKit.intOf]; omega
                  · have b3 : ((str p).toList == [46]) = false := by rw [str_is]; simpa using h3
                    by_cases h4 : out = []
                    · have b4 : (str out).toList.isEmpty = true := by rw [str_empty]; simpa using h4
                      have HJ : Hid (str out ++ str p = str (joinP out p)) := Lib.hid (by unfold joinP; rw [if_neg (fun h => h.elim h2 h3), if_pos h4, str_app, h4]; rfl)
                      clear h2 h3 h4
                      go_wp2
                      go_round
                      case rel => exact ⟨k + 1, k + 1, joinP out p, by omega, by omega, by rw [← HJ.out], by go_num, by go_num, HN⟩
                      case measure => simp [RowKit.intOf]; omega
                    · have b4 : (str out).toList.isEmpty = false := by rw [str_empty]; simpa using h4
                      have HJ : Hid (str out ++ ⟨#[47]⟩ ++ str p = str (joinP out p)) := Lib.hid (by unfold joinP; rw [if_neg (fun h => h.elim h2 h3), if_neg h4, show (⟨#[47]⟩ : ByteArray) = str [47] from rfl, str_app, str_app]; simp)
                      clear h2 h3 h4
                      go_wp2
                      go_round
                      case rel => exact ⟨k + 1, k + 1, joinP out p, by omega, by omega, by rw [← HJ.out], by go_num, by go_num, HN⟩
                      case measure => simp [RowKit.intOf]; omega
          · obtain rfl : k = s.size + 1 := by omega
            have hl : ¬ (((s.size + 1 : Nat) : Int) ≤ (s.size : Int)) := by omega
            have hG : G = some out := by
              obtain ⟨h1, ⟨_, h2, _⟩ | ⟨_, _, h2⟩⟩ := hr.out
              · omega
              · exact h2
            have hR := HR.out
            rw [hG] at hR
            simp only at hR
            obtain ⟨n, hn⟩ : ∃ n, (str out).size = n := ⟨_, rfl⟩
            have hn' : n = out.length := by rw [← hn, str_size]
            by_cases ho : out = []
            · have hb1 : (str out).toList.isEmpty = true := by rw [str_empty]; simpa using ho
              rw [if_pos (.inl ho)] at hR
              subst hR
              clear ho hG hn' hr
              go_wp2
              go_ret2
              exact ⟨rfl, rfl⟩
            · have hb1 : (str out).toList.isEmpty = false := by rw [str_empty]; simpa using ho
              by_cases h2 : 200 < out.length
              · have hb2 : (200 : Int) < (n : Int) := by omega
                rw [if_pos (.inr h2)] at hR
                subst hR
                clear ho hG hn' hr h2
                go_wp2
                go_ret2
                exact ⟨rfl, rfl⟩
              · have hb2 : ¬ (200 : Int) < (n : Int) := by omega
                rw [if_neg (fun h => h.elim ho h2)] at hR
                subst hR
                clear ho hG hn' hr h2
                go_wp2
                go_ret2
                exact ⟨rfl, rfl⟩
end Go.Proofs.YtdnelijkhinpcaaDoor.Path
