import Derived.Test.YtdjedimjhogdoaaGreatDoorZ2
import Derived.Test.YtdjedimjhogdoaaGreatDoorRows
import Derived.Shelf.Strings.Search3
import Derived.Shelf.Strings.Prefix
import Derived.Test.YtdjedimjhogdoaaGreatDoorZ1
import Derived.OpenShut
import Derived.ShutString
import Derived.Deep.Draws
import Derived.BigCall
import Derived.Shelf.RegionOpenPlain
import Derived.Shelf.Lays
import Derived.Shelf.Unicode.DecodeSlow
import Derived.Shelf.Unicode.ValidAny
import Derived.RangeFuncNested
import Derived.RangeFuncBound
import Derived.RangeFuncCalls
import Derived.RangeFuncLeaves
import Derived.Shelf.Abstract
import Derived.Shelf.RegionOpen
import Derived.WalkKit
import Derived.OwnWalkIn
import Derived.TacticsInMore
import Derived.LoopNIn
import Derived.LoopIn
import Derived.Laws.ResultCell
section
namespace Go.Proofs.YtdjedimjhogdoaaGreatDoor.Mem
open Go.Lib Go.Proofs.YtdjedimjhogdoaaGreatDoor.Fp Go.Proofs.YtdjedimjhogdoaaGreatDoor.Hp Go.Proofs.YtdjedimjhogdoaaGreatDoor.Path Go.Proofs.YtdjedimjhogdoaaGreatDoor.Rec Go.Proofs.YtdjedimjhogdoaaGreatDoor.Attr
set_option linter.unusedVariables false

/-! ### whatever is read -/
theorem applyV_kind {V : Nat → List UInt8} {h : HeadV} (h0 : (applyV V h).2 = 0) : (applyV V h).1.kind = h.kind := by
  unfold applyV at h0 ⊢
  split
  · rfl
  · rename_i hx
    exfalso
    split at h0
    · rename_i u g t s e1 e2 e3 e4
      exact hx u g t s e1 e2 e3 e4
    · simp at h0
theorem memOf_good {h : HeadV} {s : RS} {m : MemV} {n : Int} (hm : memOf h s = .ok (m, n)) (hk : ¬ (h.kind ≠ 48 ∧ h.kind ≠ 49 ∧ h.kind ≠ 50 ∧ h.kind ≠ 53)) {t : List UInt8} (ht : t.length ≤ n.toNat) : goodD { m with body := t } = true := by
  unfold memOf at hm
  simp only at hm
  generalize ha : applyD (lastD s.glob) s.own { h with name := s.name.getD h.name, link := s.link.getD h.link } = a at hm
  split at hm
  · cases hm
  rename_i ha0
  have ha0 : a.2 = 0 := Decidable.of_not_not ha0
  have hak : a.1.kind = h.kind := by
    rw [← ha] at ha0 ⊢
    exact applyV_kind ha0
  split at hm
  · cases hm
  rename_i hc
  have hc : cleanD 9 6 a.1.name = ((cleanD 9 6 a.1.name).1, 0) := Prod.ext rfl (Decidable.of_not_not hc)
  split at hm
  · cases hm
  rename_i hmeta
  split at hm
  · cases hm
  rename_i hd
  split at hm
  · cases hm
  rename_i htg
  split at hm
  · cases hm
  rename_i hf
  split at hm
  · cases hm
  rename_i hs
  cases hm
  have c1 := (clean_self 9 6 (by omega) (by omega) _ _ hc).1
  have k : a.1.kind = 48 ∨ a.1.kind = 49 ∨ a.1.kind = 50 ∨ a.1.kind = 53 := by
    rw [hak]
    by_cases k1 : h.kind = 48
    · exact .inl k1
    by_cases k2 : h.kind = 49
    · exact .inr (.inl k2)
    by_cases k3 : h.kind = 50
    · exact .inr (.inr (.inl k3))
    by_cases k4 : h.kind = 53
    · exact .inr (.inr (.inr k4))
    exact absurd ⟨k1, k2, k3, k4⟩ hk
  have hmt : metaOk a.1.mode a.1.uid a.1.gid a.1.time = true := by simpa using hmeta
  have hbody : a.1.kind = 48 ∨ t = [] := by
    by_cases k1 : a.1.kind = 48
    · exact .inl k1
    · refine .inr (List.length_eq_zero_iff.1 ?_)
      have : a.1.size = 0 := Decidable.of_not_not fun e => hf ⟨k1, e⟩
      rw [this] at ht
      simpa using ht
  have hlen : t.length ≤ 1048576 := by omega
  have e1 : cleanOk (cleanD 9 6 a.1.name).1 = true := by rw [cleanOk, c1]; simp
  have e2 : (a.1.kind == 48 || t == []) = true := by rcases hbody with e | e <;> simp [e]
  simp only [goodD, e1, hmt, hlen, decide_true, e2, Bool.true_and]
  by_cases k1 : a.1.kind = 48 ∨ a.1.kind = 53
  · rw [if_pos k1, if_neg (by rcases k1 with e | e <;> rw [e] <;> decide), if_neg (by rcases k1 with e | e <;> rw [e] <;> decide)]
    rfl
  · rw [if_neg k1]
    by_cases k2 : a.1.kind = 49
    · have hd0 : cleanD 9 6 a.1.link = ((cleanD 9 6 a.1.link).1, 0) := Prod.ext rfl (Decidable.of_not_not fun e => hd ⟨k2, e⟩)
      rw [if_pos k2, if_pos k2, cleanOk, (clean_self 9 6 (by omega) (by omega) _ _ hd0).1]
      simp
    · have k3 : a.1.kind = 50 := by
        rcases k with e | e | e | e
        · exact absurd (.inl e) k1
        · exact absurd e k2
        · exact e
        · exact absurd (.inr e) k1
      rw [if_neg k2, if_neg k2, if_pos k3, if_pos k3]
      exact decide_eq_true (Decidable.of_not_not fun e => htg ⟨k3, e⟩)
theorem step_fault {l : List UInt8} {s : RS} {e : Int} (h : stepD l s = .fault e) : e ≠ 0 := by
  unfold stepD at h
  split at h
  · cases h; omega
  split at h
  · split at h
    · cases h; omega
    split at h
    · cases h; omega
    split at h
    · cases h; omega
    · cases h
  split at h
  · rename_i hh
    cases h; exact hh
  split at h
  · unfold extD at h
    split at h
    · cases h; omega
    split at h
    · cases h; omega
    split at h
    · cases h; omega
    split at h
    · cases h
    split at h
    · cases h
    split at h
    · rename_i hh
      cases h; exact hh
    split at h <;> cases h
  · unfold memD at h
    split at h
    · cases h; omega
    split at h
    · cases h; omega
    split at h
    · rename_i e' hm
      cases h
      unfold memOf at hm
      simp only at hm
      split at hm
      · rename_i hh; cases hm; exact hh
      split at hm
      · rename_i hh; cases hm; exact hh
      split at hm
      · cases hm; omega
      split at hm
      · rename_i hh; cases hm; exact hh.2
      split at hm
      · rename_i hh; cases hm; exact hh.2
      split at hm
      · cases hm; omega
      split at hm
      · cases hm; omega
      · cases hm
    split at h
    · cases h; omega
    · cases h
theorem blocks_mod (n : Nat) : blocksOf n % 512 = 0 := Nat.mul_mod_left _ _
theorem step_keeps {l : List UInt8} {s s' : RS} {k : Nat} (h : stepD l s = .next k s') (hg : ∀ m ∈ s.out, goodD m = true) : k % 512 = 0 ∧ ∀ m ∈ s'.out, goodD m = true := by
  unfold stepD at h
  split at h
  · cases h
  split at h
  · split at h
    · cases h
    split at h
    · cases h
    split at h <;> cases h
  split at h
  · cases h
  split at h
  · unfold extD at h
    split at h
    · cases h
    split at h
    · cases h
    split at h
    · cases h
    rename_i t k' hb
    have hk := (bodyN_spec hb).1
    have hb := blocks_mod (headR (l.take 512)).1.size.toNat
    split at h
    · cases h; exact ⟨by omega, hg⟩
    split at h
    · cases h; exact ⟨by omega, hg⟩
    split at h
    · cases h
    split at h <;> (cases h; exact ⟨by omega, hg⟩)
  · unfold memD at h
    split at h
    · cases h
    split at h
    · cases h
    rename_i hkind
    split at h
    · cases h
    rename_i m n hm
    split at h
    · cases h
    rename_i t k' hb
    obtain ⟨hk, _, ht, _⟩ := bodyN_spec hb
    have hb := blocks_mod n.toNat
    cases h
    refine ⟨by omega, fun x hx => ?_⟩
    rcases List.mem_append.1 hx with hx | hx
    · exact hg x hx
    · rw [List.mem_singleton.1 hx]
      exact memOf_good hm hkind (by rw [ht, List.length_take]; omega)
theorem read_facts (N : Nat) : ∀ (l : List UInt8) (at_ : Nat) (s : RS), l.length ≤ N → at_ % 512 = 0 → (∀ m ∈ s.out, goodD m = true) → ∀ ms e a, readFrom l at_ s = (ms, e, a) →
    (e ≠ 0 ∧ ms = [] ∧ a ≤ at_ + l.length ∧ a % 512 = 0) ∨ (e = 0 ∧ a = 0 ∧ ∀ m ∈ ms, goodD m = true) := by
  induction N with
  | zero =>
    intro l at_ s hl ha hg ms e a h
    rw [readFrom_fault (step_less (by omega) s)] at h
    cases h
    exact .inl ⟨by omega, rfl, by omega, ha⟩
  | succ N ih =>
    intro l at_ s hl ha hg ms e a h
    cases hs : stepD l s with
    | fault f =>
      rw [readFrom_fault hs] at h
      cases h
      exact .inl ⟨step_fault hs, rfl, by omega, ha⟩
    | done =>
      rw [readFrom_done hs] at h
      cases h
      exact .inr ⟨rfl, rfl, hg⟩
    | next k s' =>
      rw [readFrom_next hs] at h
      obtain ⟨k1, k2⟩ := step_next hs
      obtain ⟨k3, k4⟩ := step_keeps hs hg
      rcases ih _ _ _ (by rw [List.length_drop]; omega) (by omega) k4 _ _ _ h with ⟨r1, r2, r3, r4⟩ | r
      · rw [List.length_drop] at r3
        exact .inl ⟨r1, r2, by omega, r4⟩
      · exact .inr r
/-- P8.2: what is read is good; a fault is at a block, and nothing beside it -/
theorem membersD_facts {b : List UInt8} {ms : List MemV} {e : Int} {a : Nat} (h : membersD b = (ms, e, a)) : (e ≠ 0 ∧ ms = [] ∧ a ≤ b.length ∧ a % 512 = 0) ∨ (e = 0 ∧ a = 0 ∧ ∀ m ∈ ms, goodD m = true) := by
  have := read_facts b.length b 0 startS (Nat.le_refl _) rfl (fun m hm => by cases hm) ms e a h
  rwa [Nat.zero_add] at this
/-! ### a header of any kind behind members -/
def oddH (k : UInt8) : HeadV := ⟨[111, 100, 100], [116, 111], k, 0, 0, 0, 0, 0, false⟩
theorem oddH_put {k : UInt8} (hk : k ≠ 0) : ∃ H, putR (oddH k) = some H ∧ H.length = 512 ∧ headR H = (oddH k, 0) := by
  refine putR_is (show (cutR [111, 100, 100]).isSome = true by rw [cutR_short (by decide)]; rfl) ?_ (numsOk_iff.2 fun i h1 h2 => ?_)
  · have : (k == 0) = false := beq_eq_false_iff_ne.2 hk
    simp only [badH, oddH, this]
    rfl
  · obtain rfl | rfl | rfl | rfl | rfl : i = 1 ∨ i = 2 ∨ i = 3 ∨ i = 4 ∨ i = 5 := by omega
    · exact putF8 (n := 0) (by omega) (by omega)
    · exact putF8 (n := 0) (by omega) (by omega)
    · exact putF8 (n := 0) (by omega) (by omega)
    · exact putF12 (n := 0) (by omega) (by omega)
    · exact putF12 (n := 0) (by omega) (by omega)
theorem pad_nil : padB [] = [] := rfl
theorem end_kept {s : RS} (h : s.hasX = true ∨ s.name.isSome = true ∨ s.link.isSome = true) (n : Nat) (hn : 1024 ≤ n) (at_ : Nat) : readFrom (List.replicate n 0) at_ s = ([], 5, at_) := by
  refine readFrom_fault ?_ at_
  unfold stepD
  rw [if_neg (by rw [List.length_replicate]; omega), List.take_replicate, zeroB_zeros, if_pos rfl, if_neg (by rw [List.length_replicate]; omega), List.drop_replicate, zeroB_zeros, if_neg (by simp), if_pos h]
theorem odd_ext {k : UInt8} {H : List UInt8} (h2 : H.length = 512) (h3 : headR H = (oddH k, 0)) (hk : k = 120 ∨ k = 76 ∨ k = 75) {s : RS} (hs : Bare s) (at_ : Nat) : readFrom (H ++ List.replicate 1024 0) at_ s = ([], 5, at_ + 512) := by
  have hX : H ++ List.replicate 1024 (0 : UInt8) = H ++ (padB [] ++ List.replicate 1024 0) := rfl
  have hd := drop_pad H [] (List.replicate 1024 0) h2
  have h0 : 512 + blocksOf ([] : List UInt8).length = 512 := rfl
  rw [hX]
  rcases hk with e | e | e <;> subst e
  · rw [readFrom_next (step_x h2 h3 rfl (body := []) rfl (by simp) (rs := []) rfl _ s hs.hasX), hd, h0]
    exact end_kept (.inl rfl) _ (by omega) _
  · rw [readFrom_next (step_n h2 h3 rfl (body := []) rfl (by simp) _ s hs.name), hd, h0]
    exact end_kept (.inr (.inl rfl)) _ (by omega) _
  · rw [readFrom_next (step_l h2 h3 rfl (body := []) rfl (by simp) _ s hs.link), hd, h0]
    exact end_kept (.inr (.inr rfl)) _ (by omega) _
theorem odd_glob {H : List UInt8} (h2 : H.length = 512) (h3 : headR H = (oddH 103, 0)) {s : RS} (hs : Bare s) (at_ : Nat) : readFrom (H ++ List.replicate 1024 0) at_ s = (s.out, 0, 0) := by
  have hX : H ++ List.replicate 1024 (0 : UInt8) = H ++ (padB [] ++ List.replicate 1024 0) := rfl
  rw [hX, readFrom_next (step_g h2 h3 rfl (body := []) rfl (by simp) (rs := []) rfl _ s), drop_pad H [] _ h2]
  exact end_ok (s := { s with glob := s.glob ++ [] }) ⟨hs.own, hs.name, hs.link, hs.hasX⟩ _ (by omega) _
theorem odd_else {k : UInt8} {H : List UInt8} (h2 : H.length = 512) (h3 : headR H = (oddH k, 0)) (h1 : isExt k = false) (hk : k ≠ 48 ∧ k ≠ 49 ∧ k ≠ 50 ∧ k ≠ 53) {s : RS} (ho : s.out.length < 4096) (X : List UInt8) (at_ : Nat) : readFrom (H ++ X) at_ s = ([], 8, at_) := by
  have e : (oddH k).kind = k := rfl
  refine readFrom_fault ?_ at_
  rw [step_known (by rw [List.length_append]; omega) (take_head h2) h3, e, h1, if_neg (by simp), memD, if_neg (by omega), e, if_pos hk]
theorem applyD_nil (h : HeadV) : applyD (lastD []) [] h = (h, 0) := applyD_empty h fun i _ => rfl
theorem clean_odd : cleanD 9 6 [111, 100, 100] = ([111, 100, 100], 0) := by decide
theorem clean_to : cleanD 9 6 [116, 111] = ([116, 111], 0) := by decide
theorem clean_z : cleanD 9 6 [122] = ([122], 0) := by decide
theorem target_to : targetD 9 6 [116, 111] = 0 := by decide
theorem odd_member {k : UInt8} {H : List UInt8} (h2 : H.length = 512) (h3 : headR H = (oddH k, 0)) (hk : k = 48 ∨ k = 49 ∨ k = 50 ∨ k = 53) {s : RS} (hs : Bare s) (hg : s.glob = []) (ho : s.out.length < 4096) (at_ : Nat) :
    ∃ m, readFrom (H ++ List.replicate 1024 0) at_ s = (s.out ++ [m], 0, 0) := by
  have hm : ∃ m, memOf (oddH k) s = .ok (m, (([] : List UInt8).length : Int)) := by
    have e : ({ oddH k with name := s.name.getD (oddH k).name, link := s.link.getD (oddH k).link } : HeadV) = oddH k := by rw [hs.name, hs.link]; rfl
    unfold memOf
    simp only [e, hg, hs.own, applyD_nil]
    have e1 : (oddH k).name = [111, 100, 100] := rfl
    have e2 : (oddH k).link = [116, 111] := rfl
    rw [e1, e2, clean_odd, clean_to, target_to]
    rcases hk with e | e | e | e <;> subst e <;> exact ⟨_, rfl⟩
  obtain ⟨m, hm⟩ := hm
  refine ⟨{ m with body := [] }, ?_⟩
  have hX : H ++ List.replicate 1024 (0 : UInt8) = H ++ (padB [] ++ List.replicate 1024 0) := rfl
  rw [hX, readFrom_next (step_m h2 h3 hk hm (by simp) _ ho), drop_pad H [] _ h2, bare_again hs]
  exact end_ok (moreS_bare hs _) _ (by omega) _
/-- members, and something behind them -/
theorem read_then {ms : List MemV} (h : ∀ m ∈ ms, GoodM m) (hl : ms.length ≤ 4096) (X : List UInt8) : membersD (putAllM ms ++ X) = readFrom X (putAllM ms).length (moreS startS ms) := by
  rw [membersD, read_all ms start_bare goodF_nil h (by show 0 + ms.length ≤ 4096; omega), Nat.zero_add]
  show readFrom X _ (moreS startS (ms.map (withG (lastD [])))) = _
  rw [map_withG_nil]
/-! ### something global between members -/
theorem good_user (n : Nat) (h : n < 2147483648) : goodF (lastD [(keyT 0, decL n)]) := by
  refine ⟨fun i h1 h2 => ?_, .inr ⟨n, ?_, h⟩⟩
  · have : lastD [(keyT 0, decL n)] (keyT i) = none := by
      refine lastD_none fun r hr => ?_
      rw [List.mem_singleton.1 hr]
      have hk : ∀ i, i < 6 → 1 ≤ i → keyT 0 ≠ keyT i := by decide
      exact hk i h2 h1
    rw [this]
    rfl
  · have : lastD [(keyT 0, decL n)] (keyT 0) = some (decL n) := by simp [lastD]
    rw [this]
    exact whole_dec (by omega)
theorem user_uid (n : Nat) (h : n < 2147483648) (m : MemV) : uidG (lastD [(keyT 0, decL n)]) m = if 2097151 < m.uid then m.uid else (n : Int) := by
  have : lastD [(keyT 0, decL n)] (keyT 0) = some (decL n) := by simp [lastD]
  unfold uidG
  rw [this]
  simp only [Option.getD_some, if_neg (dec_ne n), whole_dec (show n < 10 ^ 18 by omega)]
theorem read_global {a b : List MemV} (ha : ∀ m ∈ a, GoodM m) (hb : ∀ m ∈ b, GoodM m) (hl : a.length + b.length ≤ 4096) (n : Nat) (hn : n < 2147483648) {H : List UInt8} (h2 : H.length = 512)
    (h3 : headR H = (⟨[64], [], 103, 0, 0, 0, 0, ((lineD (keyT 0) (decL n)).length : Int), false⟩, 0)) :
    membersD (putAllM a ++ (H ++ (padB (lineD (keyT 0) (decL n)) ++ archD b))) = (a ++ b.map (withG (lastD [(keyT 0, decL n)])), 0, 0) := by
  have hmay : mayD (keyT 0) (decL n) = true := may_key 0 (by omega) (dec_text n) (by have := dec_le n 18 (by omega) (by omega); omega)
  have hrs : recsD 5 9 (lineD (keyT 0) (decL n)) = ([(keyT 0, decL n)], 0) := by
    have := recs_may_back (l := [(keyT 0, decL n)]) fun r hr => by rw [List.mem_singleton.1 hr]; exact hmay
    rwa [show linesD [(keyT 0, decL n)] = lineD (keyT 0) (decL n) by simp [linesD]] at this
  have hlen : (lineD (keyT 0) (decL n)).length ≤ 1048576 := by
    obtain ⟨d, _, _, _, _, hd7, _, e⟩ := line_parts hmay
    have := dec_le n 18 (by omega) (by omega)
    have : (keyT 0).length = 3 := rfl
    omega
  rw [read_then ha (by omega), readFrom_next (step_g h2 h3 rfl rfl hlen hrs _ _), drop_pad H _ _ h2, archD_eq]
  have hg : ({ moreS startS a with glob := (moreS startS a).glob ++ [(keyT 0, decL n)] } : RS).glob = [(keyT 0, decL n)] := rfl
  rw [read_all b (s := { moreS startS a with glob := (moreS startS a).glob ++ [(keyT 0, decL n)] }) ⟨rfl, rfl, rfl, rfl⟩ (by rw [hg]; exact good_user n hn) hb (by show a.length + b.length ≤ 4096; exact hl), hg]
  rw [end_ok (moreS_bare ⟨rfl, rfl, rfl, rfl⟩ _) _ (Nat.le_refl _)]
  rfl
/-! ### long names and links -/
theorem until_zero {l : List UInt8} (h : textD l = true) : untilB (l ++ [0]) = l := by
  have := untilB_app (text_nozero h) 1
  exact this
def shortH : HeadV := ⟨[115, 104, 111, 114, 116], [116, 111], 50, 0, 0, 0, 0, 0, false⟩
theorem short_of {path link p : List UInt8} {s : RS} (hg : s.glob = []) (hn : s.name = some path) (hl : s.link = some link) (hc : cleanD 9 6 path = (p, 0)) (ht : targetD 9 6 link = 0) (own : Bool) (ho : s.own = if own then [(keyT 4, [122])] else []) :
    memOf shortH s = .ok (⟨if own then [122] else p, link, 50, 0, 0, 0, 0, []⟩, (([] : List UInt8).length : Int)) := by
  have e : ({ shortH with name := s.name.getD shortH.name, link := s.link.getD shortH.link } : HeadV) = ⟨path, link, 50, 0, 0, 0, 0, 0, false⟩ := by rw [hn, hl]; rfl
  have ha : applyD (lastD s.glob) s.own ⟨path, link, 50, 0, 0, 0, 0, 0, false⟩ = (⟨if own then [122] else path, link, 50, 0, 0, 0, 0, 0, false⟩, 0) := by
    rw [hg, ho]
    cases own with
    | false => exact applyD_nil _
    | true => rfl
  have hc' : cleanD 9 6 (if own then [122] else path) = (if own then [122] else p, 0) := by
    cases own with
    | false => exact hc
    | true => exact clean_z
  unfold memOf
  simp only [e, ha, hc', ht]
  rfl
/-- a block of a long text -/
theorem long_is {k : UInt8} (hk : k ≠ 0) {l : List UInt8} (hl : l.length ≤ 1000) : ∃ H, putR ⟨[64], [], k, 0, 0, 0, 0, ((l.length + 1 : Nat) : Int), false⟩ = some H ∧ H.length = 512 ∧ headR H = (⟨[64], [], k, 0, 0, 0, 0, ((l.length + 1 : Nat) : Int), false⟩, 0) :=
  ext_put [64] (by decide) (by decide) k hk (l.length + 1) (by omega)
theorem shortH_put : ∃ H, putR shortH = some H ∧ H.length = 512 ∧ headR H = (shortH, 0) := by
  refine putR_is (by rw [cutR_short (by decide)]; rfl) (by decide) (numsOk_iff.2 fun i h1 h2 => ?_)
  obtain rfl | rfl | rfl | rfl | rfl : i = 1 ∨ i = 2 ∨ i = 3 ∨ i = 4 ∨ i = 5 := by omega
  · exact putF8 (n := 0) (by omega) (by omega)
  · exact putF8 (n := 0) (by omega) (by omega)
  · exact putF8 (n := 0) (by omega) (by omega)
  · exact putF12 (n := 0) (by omega) (by omega)
  · exact putF12 (n := 0) (by omega) (by omega)
/-- a member behind long names, and one behind it -/
theorem read_long {path link p : List UInt8} (hc : cleanD 9 6 path = (p, 0)) (hpl : path.length ≤ 400) (ht : targetD 9 6 link = 0) {m : MemV} (hm : GoodM m) (own : Bool)
    {HL HK HX HS : List UInt8} (l2 : HL.length = 512) (l3 : headR HL = (⟨[64], [], 76, 0, 0, 0, 0, ((path.length + 1 : Nat) : Int), false⟩, 0))
    (k2 : HK.length = 512) (k3 : headR HK = (⟨[64], [], 75, 0, 0, 0, 0, ((link.length + 1 : Nat) : Int), false⟩, 0))
    (x2 : HX.length = 512) (x3 : headR HX = (⟨[64], [], 120, 0, 0, 0, 0, ((lineD (keyT 4) [122]).length : Int), false⟩, 0))
    (s2 : HS.length = 512) (s3 : headR HS = (shortH, 0)) :
    membersD (HL ++ (padB (path ++ [0]) ++ (HK ++ (padB (link ++ [0]) ++ ((if own then HX ++ padB (lineD (keyT 4) [122]) else []) ++ (HS ++ archD [m])))))) = ([⟨if own then [122] else p, link, 50, 0, 0, 0, 0, []⟩, m], 0, 0) := by
  have hpt : textD path = true := ((clean_ok 9 6 (by omega) (by omega) path p).1 hc).1
  obtain ⟨hlt, _, hll⟩ := target_facts ht
  have hmay : mayD (keyT 4) [122] = true := may_key 4 (by omega) (ascii_text _ (by decide)) (by decide)
  have hrs : recsD 5 9 (lineD (keyT 4) [122]) = ([(keyT 4, [122])], 0) := by
    have := recs_may_back (l := [(keyT 4, [122])]) fun r hr => by rw [List.mem_singleton.1 hr]; exact hmay
    rwa [show linesD [(keyT 4, [122])] = lineD (keyT 4) [122] by simp [linesD]] at this
  have hlen : (lineD (keyT 4) [122]).length ≤ 1048576 := by
    obtain ⟨d, _, _, _, _, hd7, _, e⟩ := line_parts hmay
    have : (keyT 4).length = 4 := rfl
    have : ([122] : List UInt8).length = 1 := rfl
    omega
  have z1 : ((path.length + 1 : Nat) : Int) = ((path ++ [0]).length : Int) := by simp
  have z2 : ((link.length + 1 : Nat) : Int) = ((link ++ [0]).length : Int) := by simp
  have hend : ∀ (s : RS) (at_ : Nat) (x : MemV), s.out = [x] → s.glob = [] → s.own = [] → s.name = none → s.link = none → s.hasX = false → readFrom (archD [m]) at_ s = ([x, m], 0, 0) := fun s at_ x ho hg h1 h2 h3 h4 => by
    have hs : Bare s := ⟨h1, h2, h3, h4⟩
    have e : archD [m] = putAllM [m] ++ List.replicate 1024 0 := rfl
    rw [e, read_all [m] hs (by rw [hg]; exact goodF_nil) (fun x hx => by rw [List.mem_singleton.1 hx]; exact hm) (by rw [ho]; simp), hg, map_withG_nil, end_ok (moreS_bare hs _) _ (Nat.le_refl _), moreS_out, ho]
    rfl
  have hS : ∀ (s : RS) (at_ : Nat), s.out = [] → s.glob = [] → s.name = some path → s.link = some link → (s.own = if own then [(keyT 4, [122])] else []) → readFrom (HS ++ archD [m]) at_ s = ([⟨if own then [122] else p, link, 50, 0, 0, 0, 0, []⟩, m], 0, 0) := fun s at_ ho hg hn hl hw => by
    have hX : HS ++ archD [m] = HS ++ (padB [] ++ archD [m]) := rfl
    rw [hX, readFrom_next (step_m s2 s3 (.inr (.inr (.inl rfl))) (short_of hg hn hl hc ht own hw) (by simp) _ (by rw [ho]; simp)), drop_pad HS [] _ s2]
    apply hend
    · rw [ho]; rfl
    · exact hg
    · rfl
    · rfl
    · rfl
    · rfl
  rw [membersD, readFrom_next (step_n l2 l3 rfl z1 (by simp; omega) _ startS rfl), drop_pad HL _ _ l2, until_zero hpt,
    readFrom_next (step_l k2 k3 rfl z2 (by simp; omega) _ _ rfl), drop_pad HK _ _ k2, until_zero hlt]
  cases own with
  | false =>
    exact hS _ _ rfl rfl rfl rfl rfl
  | true =>
    simp only [if_true] at hS ⊢
    rw [List.append_assoc, readFrom_next (step_x x2 x3 rfl rfl hlen hrs _ _ rfl), drop_pad HX _ _ x2]
    exact hS _ _ rfl rfl rfl rfl rfl
end Go.Proofs.YtdjedimjhogdoaaGreatDoor.Mem
end
section
namespace Go.Proofs.YtdjedimjhogdoaaGreatDoor.Mem
open Go.Lib Go.Proofs.YtdjedimjhogdoaaGreatDoor.Fp Go.Proofs.YtdjedimjhogdoaaGreatDoor.Hp Go.Proofs.YtdjedimjhogdoaaGreatDoor.Path Go.Proofs.YtdjedimjhogdoaaGreatDoor.Rec Go.Proofs.YtdjedimjhogdoaaGreatDoor.Attr
set_option linter.unusedVariables false

/-! ### records are no longer than their bytes -/
theorem recStep_len {R T : Int} {l k v : List UInt8} {m : Nat} (h : recStep R T l = .ok (k, v, m)) : k.length + v.length ≤ l.length := by
  unfold recStep at h
  split at h
  · cases h
  · split at h
    · cases h
    · dsimp only at h
      split at h
      · cases h
      · split at h
        · cases h
        · cases h
          simp only [List.length_take, List.length_drop]
          omega
theorem recsGo_len (R T : Int) (L : Nat) : ∀ (n : Nat) (l : List UInt8) (acc : RecL), l.length ≤ L → (∀ r ∈ acc, r.1.length + r.2.length ≤ L) → acc.length + l.length ≤ L → (∀ r ∈ (recsGo R T n l acc).1, r.1.length + r.2.length ≤ L) ∧ (recsGo R T n l acc).1.length ≤ L := by
  intro n
  induction n with
  | zero => intro l acc h1 h2 h3; exact ⟨h2, by simp only [recsGo]; omega⟩
  | succ n ih =>
    intro l acc h1 h2 h3
    rw [recsGo]
    by_cases hl : l = []
    · rw [if_pos hl]; exact ⟨h2, by simp only; omega⟩
    · rw [if_neg hl]
      cases hs : recStep R T l with
      | error e => exact ⟨fun r hr => by simp at hr, by simp⟩
      | ok x =>
        obtain ⟨k, v, m⟩ := x
        have hp := recStep_pos hs
        have hq := recStep_len hs
        refine ih _ _ (by rw [List.length_drop]; omega) (fun r hr => ?_) (by rw [List.length_drop, List.length_append, List.length_singleton]; omega)
        rcases List.mem_append.1 hr with hr | hr
        · exact h2 r hr
        · rw [List.mem_singleton] at hr
          subst hr
          show k.length + v.length ≤ L
          omega
theorem recsD_len (R T : Int) (l : List UInt8) : (∀ r ∈ (recsD R T l).1, r.1.length + r.2.length ≤ l.length) ∧ (recsD R T l).1.length ≤ l.length :=
  recsGo_len R T l.length l.length l [] (Nat.le_refl _) (fun r hr => by simp at hr) (by simp)
/-! ### headers -/
theorem untilB_len (l : List UInt8) : (untilB l).length ≤ l.length := (List.takeWhile_sublist _).length_le
theorem valB_ge (bs : List UInt8) (i : Nat) : 0 ≤ valB bs i := by
  unfold valB
  cases h : parseF (fieldB bs i) with
  | none => exact Int.le_refl _
  | some r => exact (parseF_bd h).1
theorem fieldB_le (bs : List UInt8) (i : Nat) : (fieldB bs i).length ≤ wideF i := by
  unfold fieldB
  rw [List.length_take]
  omega
theorem headR_bd (bs : List UInt8) : 0 ≤ (headR bs).1.size ∧ (headR bs).1.name.length ≤ 1000 ∧ (headR bs).1.link.length ≤ 1000 := by
  unfold headR
  split
  · exact ⟨by decide, by decide, by decide⟩
  · split
    · exact ⟨by decide, by decide, by decide⟩
    · split
      · exact ⟨by decide, by decide, by decide⟩
      · split
        · refine ⟨valB_ge bs 4, ?_, ?_⟩
          · show (nameF _ _ _).length ≤ 1000
            have h1 := untilB_len (fieldB bs 10)
            have h2 := untilB_len (fieldB bs 0)
            have h3 := fieldB_le bs 10
            have h4 := fieldB_le bs 0
            have h5 : wideF 10 ≤ 400 := by decide
            have h6 : wideF 0 ≤ 400 := by decide
            unfold nameF
            split
            · omega
            · simp only [List.length_append, List.length_cons]; omega
          · show (untilB _).length ≤ 1000
            have h1 := untilB_len (fieldB bs 8)
            have h3 := fieldB_le bs 8
            have h5 : wideF 8 ≤ 400 := by decide
            omega
        · exact ⟨by decide, by decide, by decide⟩
/-! ### what records leave -/
theorem applyV_bd {V : Nat → List UInt8} {h : HeadV} (L : Nat) (hV : ∀ i, i < 6 → (V i).length ≤ L) (h0 : 0 ≤ h.size) (h1 : h.name.length ≤ L) (h2 : h.link.length ≤ L) : 0 ≤ (applyV V h).1.size ∧ (applyV V h).1.name.length ≤ L ∧ (applyV V h).1.link.length ≤ L := by
  unfold applyV
  split
  · rename_i u g t s e0 e1 e2 e3
    refine ⟨?_, ?_, ?_⟩
    · show 0 ≤ s
      unfold numD1 at e3
      split at e3
      · cases e3; exact h0
      · simp only [Bool.false_eq_true, if_false] at e3
        cases hw : wholeD (V 3) with
        | none => rw [hw] at e3; cases e3
        | some n => rw [hw] at e3; cases e3; exact Int.natCast_nonneg n
    · show (textD1 (V 4) h.name).length ≤ L
      unfold textD1
      split
      · exact h1
      · exact hV 4 (by omega)
    · show (textD1 (V 5) h.link).length ≤ L
      unfold textD1
      split
      · exact h2
      · exact hV 5 (by omega)
  · exact ⟨by decide, Nat.zero_le _, Nat.zero_le _⟩
theorem applyV_same_kind {V : Nat → List UInt8} {h : HeadV} (h0 : (applyV V h).2 = 0) : (applyV V h).1.kind = h.kind := applyV_kind h0
theorem glob_len {gs own : RecL} {L : Nat} (h1 : ∀ r ∈ gs, r.2.length ≤ L) (h2 : ∀ r ∈ own, r.2.length ≤ L) (k : List UInt8) : (valueD (lastD gs) own k).length ≤ L := by
  unfold valueD
  cases h : lastD own k with
  | some v =>
    obtain ⟨r, hr, _, rfl⟩ := lastD_mem h
    exact h2 r hr
  | none =>
    cases h' : lastD gs k with
    | some v =>
      obtain ⟨r, hr, _, rfl⟩ := lastD_mem h'
      simpa [h'] using h1 r hr
    | none => simp
theorem lastD_more (gs rs : RecL) : moreF (lastD gs) rs = lastD (gs ++ rs) := by rw [← moreF_none, moreF_more, moreF_none]
/-! ### blocks of nothing -/
theorem zeroB_get {l : List UInt8} : zeroB l = true ↔ ∀ x, x < l.length → l.getD x 0 = 0 := by
  unfold zeroB
  rw [List.all_eq_true]
  constructor
  · intro h x hx
    rw [List.getD, List.getElem?_eq_getElem hx]
    simpa using h _ (List.getElem_mem hx)
  · intro h x hx
    obtain ⟨i, hi, rfl⟩ := List.getElem_of_mem hx
    have := h i hi
    rw [List.getD, List.getElem?_eq_getElem hi] at this
    simpa using this
theorem plain_zeroB {l : List UInt8} (hl : l.length = 512) : (((plainTo l 512 : Nat) : Int) == 0) = zeroB l := by
  rw [Bool.eq_iff_iff, zeroB_get, hl]
  rw [← plainTo_zero]
  simp
/-! ### a head as a member -/
def noM : MemV := ⟨[], [], 0, 0, 0, 0, 0, []⟩
/-- where a link of a kind goes -/
def goalD (kind : UInt8) (link : List UInt8) : List UInt8 × Int := if kind = 49 then cleanD 9 6 link else if kind = 50 then (link, targetD 9 6 link) else ([], 0)
def sizeD (kind : UInt8) (n : Int) : Int := if kind ≠ 48 ∧ n ≠ 0 then 4 else if 1048576 < n then 10 else 0
def fromD (h : HeadV) : MemV × Int :=
  if (cleanD 9 6 h.name).2 ≠ 0 then (noM, (cleanD 9 6 h.name).2)
  else if metaOk h.mode h.uid h.gid h.time = false then (noM, 4)
  else if (goalD h.kind h.link).2 ≠ 0 then (noM, (goalD h.kind h.link).2)
  else if sizeD h.kind h.size ≠ 0 then (noM, sizeD h.kind h.size)
  else (⟨(cleanD 9 6 h.name).1, (goalD h.kind h.link).1, h.kind, h.mode, h.uid, h.gid, h.time, []⟩, 0)
/-- a head, renamed by what waits -/
def renD (h : HeadV) (s : RS) : HeadV := { h with name := s.name.getD h.name, link := s.link.getD h.link }
theorem memOf_is (h : HeadV) (s : RS) : memOf h s =
    if (applyD (lastD s.glob) s.own (renD h s)).2 ≠ 0 then .error (applyD (lastD s.glob) s.own (renD h s)).2
    else if (fromD (applyD (lastD s.glob) s.own (renD h s)).1).2 ≠ 0 then .error (fromD (applyD (lastD s.glob) s.own (renD h s)).1).2
    else .ok ((fromD (applyD (lastD s.glob) s.own (renD h s)).1).1, (applyD (lastD s.glob) s.own (renD h s)).1.size) := by
  unfold memOf renD
  dsimp only
  generalize applyD (lastD s.glob) s.own _ = a
  by_cases h1 : a.2 ≠ 0
  · rw [if_pos h1, if_pos h1]
  · rw [if_neg h1, if_neg h1]
    unfold fromD
    by_cases h2 : (cleanD 9 6 a.1.name).2 ≠ 0
    · simp only [if_pos h2]
    · simp only [if_neg h2]
      by_cases h3 : metaOk a.1.mode a.1.uid a.1.gid a.1.time = false
      · simp only [if_pos h3]; rfl
      · simp only [if_neg h3]
        unfold goalD sizeD
        by_cases k1 : a.1.kind = 49
        · have k2 : ¬ a.1.kind = 50 := by rw [k1]; decide
          have k3 : a.1.kind ≠ 48 := by rw [k1]; decide
          by_cases h4 : (cleanD 9 6 a.1.link).2 = 0
          · by_cases h5 : a.1.size = 0
            · simp [k1, h4, h5]
            · simp [k1, h4, h5]
          · simp [k1, h4]
        · by_cases k2 : a.1.kind = 50
          · by_cases h4 : targetD 9 6 a.1.link = 0
            · by_cases h5 : a.1.size = 0
              · simp [k2, h4, h5]
              · simp [k2, h4, h5]
            · simp [k2, h4]
          · by_cases k3 : a.1.kind = 48
            · by_cases h6 : 1048576 < a.1.size
              · simp [k3, h6]
              · simp [k3, h6]
            · by_cases h5 : a.1.size = 0
              · simp [k1, k2, k3, h5]
              · simp [k1, k2, k3, h5]
def knownD (k : UInt8) : Bool := k == 48 || k == 49 || k == 50 || k == 53
def headOfM (m : MemV) : HeadV := ⟨m.path, m.target, m.kind, m.mode, m.uid, m.gid, m.time, (m.body.length : Int), false⟩
/-- the program's way to say it -/
theorem goodD_is (m : MemV) : goodD m = (knownD m.kind && decide ((fromD (headOfM m)).2 = 0) && decide ((fromD (headOfM m)).1.path = m.path) && decide ((fromD (headOfM m)).1.target = m.target)) := by
  rw [Bool.eq_iff_iff]
  unfold goodD knownD fromD headOfM cleanOk goalD sizeD
  simp only [Bool.and_eq_true, Bool.or_eq_true, decide_eq_true_eq, beq_iff_eq]
  obtain ⟨⟨cp, ce⟩, hc⟩ : ∃ x, cleanD 9 6 m.path = x := ⟨_, rfl⟩
  obtain ⟨⟨dp, de⟩, hd⟩ : ∃ x, cleanD 9 6 m.target = x := ⟨_, rfl⟩
  rw [hc, hd]
  have hb : ((m.body.length : Int) = 0) ↔ m.body = [] := by rw [← List.length_eq_zero_iff]; omega
  have hb2 : (1048576 < (m.body.length : Int)) ↔ 1048576 < m.body.length := by omega
  have hb3 : m.body = [] → ¬ 1048576 < m.body.length := fun h => by rw [h]; simp
  simp only [Prod.mk.injEq, ne_eq, hb, hb2]
  by_cases h1 : ce = 0
  · by_cases h2 : metaOk m.mode m.uid m.gid m.time = false
    · simp [h1, h2, noM]
    · have h2' : metaOk m.mode m.uid m.gid m.time = true := by simpa using h2
      by_cases k0 : m.kind = 48
      · by_cases h6 : 1048576 < m.body.length
        · simp [h1, h2', k0, h6]
          intro _ _; omega
        · have h7 : m.body.length ≤ 1048576 := by omega
          simp [h1, h2', k0, h6, h7, @eq_comm _ [] m.target]
      · by_cases k1 : m.kind = 49
        · by_cases h4 : de = 0
          · by_cases h5 : m.body = []
            · simp [h1, h2', k1, h4, h5]
            · simp [h1, h2', k1, h4, h5]
          · simp [h1, h2', k1, h4]
        · by_cases k2 : m.kind = 50
          · by_cases h4 : targetD 9 6 m.target = 0
            · by_cases h5 : m.body = []
              · simp [h1, h2', k2, h4, h5]
              · simp [h1, h2', k2, h4, h5]
            · simp [h1, h2', k2, h4]
          · by_cases k3 : m.kind = 53
            · by_cases h5 : m.body = []
              · simp [h1, h2', k3, h5, @eq_comm _ [] m.target]
              · simp [h1, h2', k3, h5]
            · simp [k0, k1, k2, k3]
  · simp [h1]
end Go.Proofs.YtdjedimjhogdoaaGreatDoor.Mem
end
section
namespace Go.Proofs.YtdjedimjhogdoaaGreatDoor
open Go.Shelf
def Tryz.laysConts_ren : Go.Shelf.Ren := ⟨fun | 144 => 110 | 143 => 133 | 219 => 141 | 217 => 149 | 225 => 150 | 224 => 125 | 267 => 151 | 266 => 167 | 314 => 168 | n => n, fun | 9 => 9 | 4 => 4 | 3 => 3 | 5 => 5 | 46 => 174 | 146 => 190 | 51 => 42 | n => n, fun | 1 => 0 | n => n⟩
theorem Tryz.laysConts : Go.Proofs.Lays.n144 Tryz.prog Tryz.laysConts_ren := {
  mixed := by kernel_rfl
  f143 := Tryz.func133.trans (congrArg some (by kernel_rfl))
  f144 := Tryz.func110.trans (congrArg some (by kernel_rfl))
  f217 := Tryz.func149.trans (congrArg some (by kernel_rfl))
  f219 := Tryz.func141.trans (congrArg some (by kernel_rfl))
  f224 := Tryz.func125.trans (congrArg some (by kernel_rfl))
  f225 := Tryz.func150.trans (congrArg some (by kernel_rfl))
  f266 := Tryz.func167.trans (congrArg some (by kernel_rfl))
  f267 := Tryz.func151.trans (congrArg some (by kernel_rfl))
  f314 := Tryz.func168.trans (congrArg some (by kernel_rfl))
  t3 := Tryz.underlying3
  a3 := Tryz.isAgg3
  z3 := Tryz.sizeOf3
  v3 := Tryz.zeroValue3
  t4 := Tryz.underlying4
  a4 := Tryz.isAgg4
  z4 := Tryz.sizeOf4
  v4 := Tryz.zeroValue4
  t5 := Tryz.underlying5
  a5 := Tryz.isAgg5
  z5 := Tryz.sizeOf5
  v5 := Tryz.zeroValue5
  t9 := Tryz.underlying9
  a9 := Tryz.isAgg9
  z9 := Tryz.sizeOf9
  v9 := Tryz.zeroValue9
  t46 := Tryz.underlying174
  a46 := Tryz.isAgg174
  z46 := Tryz.sizeOf174
  v46 := Tryz.zeroValue174
  t51 := Tryz.underlying42
  a51 := Tryz.isAgg42
  z51 := Tryz.sizeOf42
  v51 := Tryz.zeroValue42
  t146 := Tryz.underlying190
  a146 := Tryz.isAgg190
  z146 := Tryz.sizeOf190
  v146 := Tryz.zeroValue190
  g1 := by kernel_rfl }
def Tryz.laysIndex_ren : Go.Shelf.Ren := ⟨fun | 219 => 141 | 217 => 149 | 225 => 150 | 224 => 125 | 267 => 151 | 266 => 167 | 314 => 168 | n => n, fun | 9 => 9 | 3 => 3 | 4 => 4 | 5 => 5 | 46 => 174 | 146 => 190 | 51 => 42 | n => n, fun | 1 => 0 | n => n⟩
theorem Tryz.laysIndex : Go.Proofs.Lays.n219 Tryz.prog Tryz.laysIndex_ren := {
  mixed := by kernel_rfl
  f217 := Tryz.func149.trans (congrArg some (by kernel_rfl))
  f219 := Tryz.func141.trans (congrArg some (by kernel_rfl))
  f224 := Tryz.func125.trans (congrArg some (by kernel_rfl))
  f225 := Tryz.func150.trans (congrArg some (by kernel_rfl))
  f266 := Tryz.func167.trans (congrArg some (by kernel_rfl))
  f267 := Tryz.func151.trans (congrArg some (by kernel_rfl))
  f314 := Tryz.func168.trans (congrArg some (by kernel_rfl))
  t3 := Tryz.underlying3
  a3 := Tryz.isAgg3
  z3 := Tryz.sizeOf3
  v3 := Tryz.zeroValue3
  t4 := Tryz.underlying4
  a4 := Tryz.isAgg4
  z4 := Tryz.sizeOf4
  v4 := Tryz.zeroValue4
  t5 := Tryz.underlying5
  a5 := Tryz.isAgg5
  z5 := Tryz.sizeOf5
  v5 := Tryz.zeroValue5
  t9 := Tryz.underlying9
  a9 := Tryz.isAgg9
  z9 := Tryz.sizeOf9
  v9 := Tryz.zeroValue9
  t46 := Tryz.underlying174
  a46 := Tryz.isAgg174
  z46 := Tryz.sizeOf174
  v46 := Tryz.zeroValue174
  t51 := Tryz.underlying42
  a51 := Tryz.isAgg42
  z51 := Tryz.sizeOf42
  v51 := Tryz.zeroValue42
  t146 := Tryz.underlying190
  a146 := Tryz.isAgg190
  z146 := Tryz.sizeOf190
  v146 := Tryz.zeroValue190
  g1 := by kernel_rfl }
def Tryz.laysPrefix_ren : Go.Shelf.Ren := ⟨fun | 99 => 88 | 206 => 111 | n => n, fun | 9 => 9 | 4 => 4 | 3 => 3 | n => n, fun | n => n⟩
theorem Tryz.laysPrefix : Go.Proofs.Lays.n99 Tryz.prog Tryz.laysPrefix_ren := {
  mixed := by kernel_rfl
  f99 := Tryz.func88.trans (congrArg some (by kernel_rfl))
  f206 := Tryz.func111.trans (congrArg some (by kernel_rfl))
  t3 := Tryz.underlying3
  a3 := Tryz.isAgg3
  z3 := Tryz.sizeOf3
  v3 := Tryz.zeroValue3
  t4 := Tryz.underlying4
  a4 := Tryz.isAgg4
  z4 := Tryz.sizeOf4
  v4 := Tryz.zeroValue4
  t9 := Tryz.underlying9
  a9 := Tryz.isAgg9
  z9 := Tryz.sizeOf9
  v9 := Tryz.zeroValue9 }
end Go.Proofs.YtdjedimjhogdoaaGreatDoor
end
section
namespace Go.Proofs.YtdjedimjhogdoaaGreatDoor.Num
open Go.ChangeShapes Go.WideShapes Go.ChangeAt Go.RowKit Go.Proofs.YtdjedimjhogdoaaGreatDoor.Base
set_option linter.unusedVariables false

/-- between, as one Bool -/
def inB (n l m : Int) : Bool := decide (l ≤ n ∧ n ≤ m)
theorem inB_true {n l m : Int} (h1 : l ≤ n) (h2 : n ≤ m) : inB n l m = true := by simp [inB, h1, h2]
theorem inB_false {n l m : Int} (h : ¬ (l ≤ n ∧ n ≤ m)) : inB n l m = false := by simp only [inB, decide_eq_false_iff_not]; exact h

theorem in_yes (n l m : Int) (w : World) (h1 : l ≤ n) (h2 : n ≤ m) :
    Calls Tryz.prog 91 #[.int .i64 n, .int .i64 l, .int .i64 m] w fun e w' => e = .returned (.bool true) ∧ w = w' := by
  go_enter Tryz.func91, Tryz.ntmps91
  go_wp2
  go_ret
  exact ⟨rfl, rfl⟩
theorem in_no (n l m : Int) (w : World) (h : ¬ (l ≤ n ∧ n ≤ m)) :
    Calls Tryz.prog 91 #[.int .i64 n, .int .i64 l, .int .i64 m] w fun e w' => e = .returned (.bool false) ∧ w = w' := by
  by_cases h1 : l ≤ n
  · have h2 : ¬ n ≤ m := fun h2 => h ⟨h1, h2⟩
    clear h
    go_enter Tryz.func91, Tryz.ntmps91
    go_wp2
    go_ret
    exact ⟨rfl, rfl⟩
  · clear h
    go_enter Tryz.func91, Tryz.ntmps91
    go_wp2
    go_ret
    exact ⟨rfl, rfl⟩
theorem in_any (n l m : Int) (w : World) :
    Calls Tryz.prog 91 #[.int .i64 n, .int .i64 l, .int .i64 m] w fun e w' => e = .returned (.bool (inB n l m)) ∧ w = w' := by
  by_cases h : l ≤ n ∧ n ≤ m
  · rw [inB_true h.1 h.2]; exact in_yes n l m w h.1 h.2
  · rw [inB_false h]; exact in_no n l m w h

/-- the sum so far and what is left: none where one is no number or the sum passes the greatest -/
def sumF : List Int → Int → Option Int
  | [], s => some s
  | x :: l, s => if 0 ≤ x ∧ x ≤ 4611686018427387904 - s then sumF l (s + x) else none
def valO : Option Int → Int
  | some s => s
  | none => 0
def okO : Option Int → Bool
  | some _ => true
  | none => false

theorem drop_cons (zs : List Int) (k : Nat) (h : k < zs.length) : zs.drop k = zs.getD k 0 :: zs.drop (k + 1) := by
  rw [List.drop_eq_getElem_cons h]; simp [List.getD, h]
theorem sumF_step (zs : List Int) (k : Nat) (s : Int) (h : k < zs.length) (h0 : 0 ≤ zs.getD k 0) (h1 : zs.getD k 0 ≤ 4611686018427387904 - s) :
    sumF (zs.drop k) s = sumF (zs.drop (k + 1)) (s + zs.getD k 0) := by
  rw [drop_cons zs k h, sumF, if_pos ⟨h0, h1⟩]
theorem sumF_stop (zs : List Int) (k : Nat) (s : Int) (h : k < zs.length) (h0 : ¬ (0 ≤ zs.getD k 0 ∧ zs.getD k 0 ≤ 4611686018427387904 - s)) :
    sumF (zs.drop k) s = none := by
  rw [drop_cons zs k h, sumF, if_neg h0]

set_option maxHeartbeats 400000 in
theorem add_some (b off len cap : Nat) (zs : List Int) (w : World) (hl : zs.length = len) (hm : len ≤ maxLen)
    (hc : ∀ i, i < len → w.cell? ⟨b, off + i, none⟩ = some (.int .i64 (zs.getD i 0))) :
    Calls Tryz.prog 119 #[.slice (some ⟨b, off, none⟩) len cap] w fun e w' => e = .returned (.tuple #[.int .i64 (valO (sumF zs 0)), .bool (okO (sumF zs 0))]) ∧ w = w' := by
  unfold maxLen at hm
  have HL : Hid (zs.length = len) := hl
  have HC : Hid (∀ i, i < len → w.cell? ⟨b, off + i, none⟩ = some (.int .i64 (zs.getD i 0))) := hc
  clear hl hc
  go_enter Tryz.func119, Tryz.ntmps119
  go_wp2
  go_loop [4, 9] (fun t i => ∃ (k : Nat) (s : Int), k ≤ len ∧ 0 ≤ s ∧ s ≤ 4611686018427387904 ∧ i = .int .i64 k ∧ t = .int .i64 s ∧ Hid (sumF (zs.drop k) s = sumF zs 0)) (fun _ i => len - (RowKit.intOf i).toNat)
  case atStart => exact ⟨0, 0, Nat.zero_le _, by omega, by decide, rfl, rfl, rfl⟩
  case round =>
    obtain ⟨k, s, hk, hs0, hs1, rfl, rfl, hr⟩ := hrel
    by_cases hlt : k < len
    · have hcell := HC.out k hlt
      obtain ⟨z, hz⟩ : ∃ z, z = zs.getD k 0 := ⟨_, rfl⟩
      rw [← hz] at hcell
      have HZ : Hid (z = zs.getD k 0) := hz
      clear hz
      by_cases hin : 0 ≤ z ∧ z ≤ 4611686018427387904 - s
      · obtain ⟨h0, h1⟩ := hin
        go_wp2_with (go_at_call 91; refine (in_yes _ _ _ _ (by omega) (by omega)).mono ?_; rintro e w' ⟨rfl, rfl⟩)
        go_round
        case rel => exact ⟨k + 1, s + z, by omega, by omega, by omega, by go_num, rfl, Lib.hid (by rw [← hr.out, sumF_step zs k s (by rw [HL.out]; exact hlt) (by rw [← HZ.out]; exact h0) (by rw [← HZ.out]; exact h1), ← HZ.out])⟩
        case measure => simp [RowKit.intOf]; omega
      · go_wp2_with (go_at_call 91; refine (in_no _ _ _ _ hin).mono ?_; rintro e w' ⟨rfl, rfl⟩)
        go_ret2
        have E : sumF zs 0 = none := by rw [← hr.out]; exact sumF_stop zs k s (by rw [HL.out]; exact hlt) (by rw [← HZ.out]; exact hin)
        rw [E]
        exact ⟨rfl, rfl⟩
    · have hkl : Hid (k = len) := Lib.hid (by omega)
      go_wp2
      go_ret2
      have E : sumF zs 0 = some s := by rw [← hr.out, hkl.out, ← HL.out, List.drop_length]; rfl
      rw [E]
      exact ⟨rfl, rfl⟩

theorem add_empty (a : Option Addr) (cap : Nat) (w : World) :
    Calls Tryz.prog 119 #[.slice a 0 cap] w fun e w' => e = .returned (.tuple #[.int .i64 0, .bool true]) ∧ w = w' := by
  go_enter Tryz.func119, Tryz.ntmps119
  go_wp2
  refine wp_loop_rounds 1 ?_
  rw [rounds_succ]
  go_wp2
  go_ret2
  exact ⟨rfl, rfl⟩

theorem may_yes (n : Int) (w : World) (h1 : 0 ≤ n) (h2 : n ≤ 4611686018427387904) :
    Calls Tryz.prog 66 #[.int .i64 n] w fun e w' => e = .returned (.bool true) ∧ w = w' := by
  go_enter Tryz.func66, Tryz.ntmps66
  go_wp2
  go_ret
  exact ⟨rfl, rfl⟩
theorem may_no (n : Int) (w : World) (h : ¬ (0 ≤ n ∧ n ≤ 4611686018427387904)) :
    Calls Tryz.prog 66 #[.int .i64 n] w fun e w' => e = .returned (.bool false) ∧ w = w' := by
  by_cases h1 : 0 ≤ n
  · have h2 : ¬ n ≤ 4611686018427387904 := fun h2 => h ⟨h1, h2⟩
    clear h
    go_enter Tryz.func66, Tryz.ntmps66
    go_wp2
    go_ret
    exact ⟨rfl, rfl⟩
  · clear h
    go_enter Tryz.func66, Tryz.ntmps66
    go_wp2
    go_ret
    exact ⟨rfl, rfl⟩
theorem may_any (n : Int) (w : World) :
    Calls Tryz.prog 66 #[.int .i64 n] w fun e w' => e = .returned (.bool (inB n 0 4611686018427387904)) ∧ w = w' := by
  by_cases h : 0 ≤ n ∧ n ≤ 4611686018427387904
  · rw [inB_true h.1 h.2]; exact may_yes n w h.1 h.2
  · rw [inB_false h]; exact may_no n w h

/-! ### Add of two numbers that were laid as a list, and Pad -/
theorem sumF_two (a b : Int) : sumF [a, b] 0 = if 0 ≤ a ∧ a ≤ 4611686018427387904 ∧ 0 ≤ b ∧ a + b ≤ 4611686018427387904 then some (a + b) else none := by
  simp only [sumF]
  by_cases h : 0 ≤ a ∧ a ≤ 4611686018427387904 - 0
  · rw [if_pos h]
    by_cases h2 : 0 ≤ b ∧ b ≤ 4611686018427387904 - (0 + a)
    · rw [if_pos h2, if_pos (by omega), Int.zero_add]
    · rw [if_neg h2, if_neg (by omega)]
  · rw [if_neg h, if_neg (by omega)]
theorem add_two (a b : Int) (w : World) :
    Calls Tryz.prog 119 #[.slice (some ⟨w.heap.size, 0, none⟩) 2 2] (w.alloc (.cells #[.int .i64 a, .int .i64 b] 3)) fun e w' => e = .returned (.tuple #[.int .i64 (valO (sumF [a, b] 0)), .bool (okO (sumF [a, b] 0))]) ∧ w.alloc (.cells #[.int .i64 a, .int .i64 b] 3) = w' :=
  add_some _ _ 2 2 [a, b] _ rfl (by decide) (fun i hi => by
    match i, hi with
    | 0, _ => simp
    | 1, _ => simp)
theorem add_three (a b c : Int) (w : World) :
    Calls Tryz.prog 119 #[.slice (some ⟨w.heap.size, 0, none⟩) 3 3] (w.alloc (.cells #[.int .i64 a, .int .i64 b, .int .i64 c] 3)) fun e w' => e = .returned (.tuple #[.int .i64 (valO (sumF [a, b, c] 0)), .bool (okO (sumF [a, b, c] 0))]) ∧ w.alloc (.cells #[.int .i64 a, .int .i64 b, .int .i64 c] 3) = w' :=
  add_some _ _ 3 3 [a, b, c] _ rfl (by decide) (fun i hi => by
    match i, hi with
    | 0, _ => simp
    | 1, _ => simp
    | 2, _ => simp)
/-- Pad's answer -/
def padF (n : Int) : Int := if 0 ≤ n ∧ n ≤ 4611686018427387904 then (if n % 512 = 0 then n else n + (512 - n % 512)) else 0
set_option maxHeartbeats 400000 in
theorem pad_any (n : Int) (w : World) :
    Calls Tryz.prog 99 #[.int .i64 n] w fun e w' => e = .returned (.tuple #[.int .i64 (padF n), .bool (inB n 0 4611686018427387904)]) ∧ Below w.heap.size w w' := by
  by_cases h : 0 ≤ n ∧ n ≤ 4611686018427387904
  · obtain ⟨h0, h1⟩ := h
    by_cases h2 : n % 512 = 0
    · have HP : Hid (padF n = n) := Lib.hid (by rw [padF, if_pos ⟨h0, h1⟩, if_pos h2])
      have hb : (n % 512 == 0) = true := by simpa using h2
      have H2 := Lib.hid h2
      clear h2
      go_enter Tryz.func99, Tryz.ntmps99
      go_wp2_with (go_at_call 91; refine (in_yes _ _ _ _ (by omega) (by omega)).mono ?_; rintro e w' ⟨rfl, rfl⟩)
      go_ret2
      rw [HP.out, inB_true h0 h1]
      exact ⟨rfl, Below.refl _ _⟩
    · have HP : Hid (padF n = n + (512 - n % 512)) := Lib.hid (by rw [padF, if_pos ⟨h0, h1⟩, if_neg h2])
      have hb : (n % 512 == 0) = false := by simpa using h2
      have H2 := Lib.hid h2
      clear h2
      go_enter Tryz.func99, Tryz.ntmps99
      go_wp2_with (go_at_call 91; refine (in_yes _ _ _ _ (by omega) (by omega)).mono ?_; rintro e w' ⟨rfl, rfl⟩)
      refine (add_two n (512 - n % 512) _).mono ?_
      rintro e w' ⟨rfl, rfl⟩
      rw [sumF_two, if_pos (by have := H2.out; omega)]
      go_wp2
      go_ret2
      rw [HP.out, inB_true h0 h1]
      exact ⟨rfl, (Below.refl _ _).alloc (Nat.le_refl _) _⟩
  · have HP : Hid (padF n = 0) := Lib.hid (by rw [padF, if_neg h])
    go_enter Tryz.func99, Tryz.ntmps99
    go_wp2_with (go_at_call 91; refine (in_no _ _ _ _ h).mono ?_; rintro e w' ⟨rfl, rfl⟩)
    go_ret2
    rw [HP.out, inB_false h]
    exact ⟨rfl, Below.refl _ _⟩

/-- the product, or none -/
def mulF (a b : Int) : Option Int := if 0 ≤ a ∧ a ≤ 4611686018427387904 ∧ 0 ≤ b ∧ b ≤ 4611686018427387904 ∧ a * b ≤ 4611686018427387904 then some (a * b) else none
theorem div_lt (a b : Int) (h : 0 < a) : 4611686018427387904 / a < b ↔ 4611686018427387904 < a * b := by
  rw [Int.ediv_lt_iff_lt_mul h, Int.mul_comm]
set_option maxHeartbeats 400000 in
theorem mul_any (a b : Int) (w : World) :
    Calls Tryz.prog 118 #[.int .i64 a, .int .i64 b] w fun e w' => e = .returned (.tuple #[.int .i64 (valO (mulF a b)), .bool (okO (mulF a b))]) ∧ w = w' := by
  by_cases h : 0 ≤ a ∧ a ≤ 4611686018427387904
  · obtain ⟨h0, h1⟩ := h
    by_cases h2 : 0 ≤ b ∧ b ≤ 4611686018427387904
    · obtain ⟨h2, h3⟩ := h2
      by_cases h4 : 0 < a
      · by_cases h5 : 4611686018427387904 / a < b
        · have E : Hid (mulF a b = none) := Lib.hid (by rw [mulF, if_neg]; intro hh; have := (div_lt a b h4).1 h5; omega)
          go_enter Tryz.func118, Tryz.ntmps118
          go_wp2_with (go_at_call 91; refine (in_yes _ _ _ _ (by omega) (by omega)).mono ?_; rintro e w' ⟨rfl, rfl⟩)
          go_ret2
          rw [E.out]
          exact ⟨rfl, rfl⟩
        · have h6 : a * b ≤ 4611686018427387904 := by have := mt (div_lt a b h4).2 h5; omega
          have h7 : 0 ≤ a * b := Int.mul_nonneg h0 h2
          have E : Hid (mulF a b = some (a * b)) := Lib.hid (by rw [mulF, if_pos ⟨h0, h1, h2, h3, h6⟩])
          go_enter Tryz.func118, Tryz.ntmps118
          go_wp2_with (go_at_call 91; refine (in_yes _ _ _ _ (by omega) (by omega)).mono ?_; rintro e w' ⟨rfl, rfl⟩)
          go_ret2
          rw [E.out]
          exact ⟨rfl, rfl⟩
      · obtain rfl : a = 0 := by omega
        have E : Hid (mulF 0 b = some 0) := Lib.hid (by rw [mulF, if_pos ⟨h0, h1, h2, h3, by omega⟩, Int.zero_mul])
        go_enter Tryz.func118, Tryz.ntmps118
        go_wp2_with (go_at_call 91; refine (in_yes _ _ _ _ (by omega) (by omega)).mono ?_; rintro e w' ⟨rfl, rfl⟩)
        go_ret2
        rw [E.out]
        exact ⟨rfl, rfl⟩
    · have E : Hid (mulF a b = none) := Lib.hid (by rw [mulF, if_neg (by omega)])
      go_enter Tryz.func118, Tryz.ntmps118
      go_wp2_with (go_at_call 91; first | (refine (in_yes _ _ _ _ (by omega) (by omega)).mono ?_; rintro e w' ⟨rfl, rfl⟩) | (refine (in_no _ _ _ _ h2).mono ?_; rintro e w' ⟨rfl, rfl⟩))
      go_ret2
      rw [E.out]
      exact ⟨rfl, rfl⟩
  · have E : Hid (mulF a b = none) := Lib.hid (by rw [mulF, if_neg (by omega)])
    go_enter Tryz.func118, Tryz.ntmps118
    go_wp2_with (go_at_call 91; refine (in_no _ _ _ _ h).mono ?_; rintro e w' ⟨rfl, rfl⟩)
    go_ret2
    rw [E.out]
    exact ⟨rfl, rfl⟩

end Go.Proofs.YtdjedimjhogdoaaGreatDoor.Num
end
section
namespace Go.Proofs.YtdjedimjhogdoaaGreatDoor.Path
open Go.ChangeShapes Go.WideShapes Go.ChangeAt Go.RowKit Go.Shelf Go.Proofs.YtdjedimjhogdoaaGreatDoor.Base Go.Proofs.YtdjedimjhogdoaaGreatDoor.Byt Go.Proofs.YtdjedimjhogdoaaGreatDoor.Txt Go.Lib
set_option linter.unusedVariables false
set_option maxRecDepth 100000

theorem join_any (c p : List UInt8) (w : World) (hm : c.length + p.length ≤ 2000000000000) :
    Calls Tryz.prog 90 #[.string (str c), .string (str p)] w fun e w' => e = .returned (.string (str (joinP c p))) ∧ w = w' := by
  have hs : (str c).size + 1 + (str p).size ≤ 9223372036854775807 := by rw [str_size, str_size]; omega
  have hs1 : (str c).size + 1 ≤ 9223372036854775807 := by omega
  clear hm
  by_cases h1 : p = []
  · have e : str (joinP c p) = str c := by unfold joinP; rw [if_pos (.inl h1)]
    have b1 : (str p).toList.isEmpty = true := by rw [str_empty]; simpa using h1
    rw [e]
    clear e h1
    go_enter Tryz.func90, Tryz.ntmps90
    go_wp2
    go_ret
    exact ⟨rfl, rfl⟩
  · have b1 : (str p).toList.isEmpty = false := by rw [str_empty]; simpa using h1
    by_cases h2 : p = [46]
    · have e : str (joinP c p) = str c := by unfold joinP; rw [if_pos (.inr h2)]
      have b2 : ((str p).toList == [46]) = true := by rw [str_is]; simpa using h2
      rw [e]
      clear e h1 h2
      go_enter Tryz.func90, Tryz.ntmps90
      go_wp2
      go_ret
      exact ⟨rfl, rfl⟩
    · have b2 : ((str p).toList == [46]) = false := by rw [str_is]; simpa using h2
      by_cases h3 : c = []
      · have e : str (joinP c p) = str p := by unfold joinP; rw [if_neg (by simp [h1, h2]), if_pos h3]
        have b3 : (str c).toList.isEmpty = true := by rw [str_empty]; simpa using h3
        rw [e]
        clear e h1 h2 h3
        go_enter Tryz.func90, Tryz.ntmps90
        go_wp2
        go_ret
        exact ⟨rfl, rfl⟩
      · have e : str c ++ ⟨#[47]⟩ ++ str p = str (joinP c p) := by
          unfold joinP
          rw [if_neg (by simp [h1, h2]), if_neg h3, show (⟨#[47]⟩ : ByteArray) = str [47] from rfl, str_app, str_app]
          simp
        have b3 : (str c).toList.isEmpty = false := by rw [str_empty]; simpa using h3
        rw [← e]
        clear e h1 h2 h3
        go_enter Tryz.func90, Tryz.ntmps90
        go_wp2
        go_ret
        exact ⟨rfl, rfl⟩
/-- at the first slash -/
def cutL (l : List UInt8) : List UInt8 × List UInt8 × Bool :=
  if 0 ≤ Lib.indexByte l 47 then (l.take (Lib.indexByte l 47).toNat, l.drop ((Lib.indexByte l 47).toNat + 1), true) else (l, [], false)
theorem slCut_any (l : List UInt8) (w : World) (hm : l.length ≤ 1000000000000) :
    Calls Tryz.prog 128 #[.string (str l), .string ⟨#[47]⟩] w fun e w' => e = .returned (.tuple #[.string (str (cutL l).1), .string (str (cutL l).2.1), .bool (cutL l).2.2]) ∧ ∃ n, w' = w.drewN n := by
  have hidx := Any.stringslite_Index_one Tryz.laysIndex (str l) 47 w
  rw [str_data] at hidx
  have hs : (str l).size = l.length := str_size l
  unfold cutL
  by_cases h : 0 ≤ Lib.indexByte l 47
  · obtain ⟨k, hk⟩ : ∃ k : Nat, Lib.indexByte l 47 = k := ⟨(Lib.indexByte l 47).toNat, by omega⟩
    have hlt := (List.getElem?_eq_some_iff.1 (Lib.indexByte_some hk).1).1
    rw [if_pos h, hk, Int.toNat_natCast]
    rw [hk] at hidx
    clear h hk
    simp only
    have e1 : (str l).extract 0 k = str (l.take k) := str_take l k
    have e2 : (str l).extract (k + 1) (str l).size = str (l.drop (k + 1)) := str_drop l (k + 1) _ hs
    rw [← e1, ← e2]
    have c1 : (0 : Int) ≤ (k : Int) := by omega
    have c2 : (k : Int) ≤ ((str l).size : Int) := by omega
    have c3 : (0 : Int) ≤ (k : Int) + 1 := by omega
    have c4 : (k : Int) + 1 ≤ ((str l).size : Int) := by omega
    have c5 : ((str l).size : Int) ≤ 1000000000000 := by omega
    clear e1 e2
    have mixed : Tryz.prog.follows .mixedOrders = true := by kernel_rfl
    go_enter Tryz.func128, Tryz.ntmps128
    go_wp2_with (go_at_call 141; refine hidx.mono ?_; rintro e w' ⟨rfl, rfl⟩)
    go_region_o
    go_wp2
    go_ret3
    exact ⟨rfl, 1, rfl⟩
  · rw [if_neg h]
    have hn : Lib.indexByte l 47 = -1 := by have := Lib.indexByte_ge l 47; omega
    rw [hn] at hidx
    clear h hn
    go_enter Tryz.func128, Tryz.ntmps128
    go_wp2_with (go_at_call 141; refine hidx.mono ?_; rintro e w' ⟨rfl, rfl⟩)
    go_ret3
    exact ⟨rfl, 0, rfl⟩
theorem cutSlash_any (l : List UInt8) (w : World) (hm : l.length ≤ 1000000000000) :
    Calls Tryz.prog 102 #[.string (str l), .string ⟨#[47]⟩] w fun e w' => e = .returned (.tuple #[.string (str (cutL l).1), .string (str (cutL l).2.1), .bool (cutL l).2.2]) ∧ ∃ n, w' = w.drewN n := by
  have hc := slCut_any l w hm
  go_enter Tryz.func102, Tryz.ntmps102
  go_wp2_with (go_at_call 128; refine hc.mono ?_; rintro e w' ⟨rfl, n, rfl⟩)
  go_ret3
  exact ⟨rfl, n, rfl⟩
end Go.Proofs.YtdjedimjhogdoaaGreatDoor.Path
end
section
namespace Go.Proofs.YtdjedimjhogdoaaGreatDoor
open Go.Shelf
def Tryz.laysValid_ren : Go.Shelf.Ren := ⟨fun | 196 => 109 | 259 => 132 | n => n, fun | 9 => 9 | 4 => 4 | 3 => 3 | 5 => 5 | 12 => 12 | 119 => 182 | 0 => 0 | 46 => 174 | 139 => 185 | 138 => 184 | 53 => 192 | n => n, fun | 3 => 1 | 4 => 2 | n => n⟩
theorem Tryz.laysValid : Go.Proofs.Lays.n196 Tryz.prog Tryz.laysValid_ren := {
  mixed := by kernel_rfl
  f196 := Tryz.func109.trans (congrArg some (by kernel_rfl))
  f259 := Tryz.func132.trans (congrArg some (by kernel_rfl))
  t0 := Tryz.underlying0
  a0 := Tryz.isAgg0
  z0 := Tryz.sizeOf0
  v0 := Tryz.zeroValue0
  t3 := Tryz.underlying3
  a3 := Tryz.isAgg3
  z3 := Tryz.sizeOf3
  v3 := Tryz.zeroValue3
  t4 := Tryz.underlying4
  a4 := Tryz.isAgg4
  z4 := Tryz.sizeOf4
  v4 := Tryz.zeroValue4
  t5 := Tryz.underlying5
  a5 := Tryz.isAgg5
  z5 := Tryz.sizeOf5
  v5 := Tryz.zeroValue5
  t9 := Tryz.underlying9
  a9 := Tryz.isAgg9
  z9 := Tryz.sizeOf9
  v9 := Tryz.zeroValue9
  t12 := Tryz.underlying12
  a12 := Tryz.isAgg12
  z12 := Tryz.sizeOf12
  v12 := Tryz.zeroValue12
  t46 := Tryz.underlying174
  a46 := Tryz.isAgg174
  z46 := Tryz.sizeOf174
  v46 := Tryz.zeroValue174
  t53 := Tryz.underlying192
  a53 := Tryz.isAgg192
  z53 := Tryz.sizeOf192
  v53 := Tryz.zeroValue192
  t119 := Tryz.underlying182
  a119 := Tryz.isAgg182
  z119 := Tryz.sizeOf182
  t138 := Tryz.underlying184
  a138 := Tryz.isAgg184
  z138 := Tryz.sizeOf184
  v138 := Tryz.zeroValue184
  t139 := Tryz.underlying185
  a139 := Tryz.isAgg185
  z139 := Tryz.sizeOf185
  v139 := Tryz.zeroValue185
  g3 := by kernel_rfl
  g4 := by kernel_rfl }
end Go.Proofs.YtdjedimjhogdoaaGreatDoor
end
section
namespace Go.Proofs.YtdjedimjhogdoaaGreatDoor.Path
open Go.ChangeShapes Go.WideShapes Go.ChangeAt Go.RowKit Go.Shelf Go.Proofs.YtdjedimjhogdoaaGreatDoor.Base Go.Proofs.YtdjedimjhogdoaaGreatDoor.Byt Go.Proofs.YtdjedimjhogdoaaGreatDoor.Txt Go.Lib Go.Proofs.YtdjedimjhogdoaaGreatDoor.Num
set_option linter.unusedVariables false
set_option maxRecDepth 100000

/-- the tables of unicode/utf8 are there -/
def Tabs (w : World) : Prop := Lib.Utf8Tabs (Tryz.laysValid_ren.g 3) (Tryz.laysValid_ren.g 4) w
/-- the tables lie at the beginning -/
def Wide (w : World) : Prop := Tryz.laysValid_ren.g 3 < w.heap.size ∧ Tryz.laysValid_ren.g 4 < w.heap.size
theorem Tabs.below {w w' : World} (h : Tabs w) (hb : Below w.heap.size w w') : Tabs w' := by
  refine ⟨fun c hc => ?_, fun i hi => ⟨?_, ?_⟩⟩
  · have := h.1 c hc
    rwa [hb.cell (p := ⟨_, c, none⟩) (World.block_lt_of_cell? _ _ this)]
  · have := (h.2 i hi).1
    rwa [hb.cell (p := ⟨_, 2 * i, none⟩) (World.block_lt_of_cell? _ _ this)]
  · have := (h.2 i hi).2
    rwa [hb.cell (p := ⟨_, 2 * i + 1, none⟩) (World.block_lt_of_cell? _ _ this)]
end Go.Proofs.YtdjedimjhogdoaaGreatDoor.Path
end
section
namespace Go.Proofs.YtdjedimjhogdoaaGreatDoor.Path
open Go.ChangeShapes Go.WideShapes Go.ChangeAt Go.RowKit Go.Shelf Go.Proofs.YtdjedimjhogdoaaGreatDoor.Base Go.Proofs.YtdjedimjhogdoaaGreatDoor.Byt Go.Proofs.YtdjedimjhogdoaaGreatDoor.Txt Go.Lib Go.Proofs.YtdjedimjhogdoaaGreatDoor.Num
set_option linter.unusedVariables false
set_option maxRecDepth 100000

theorem right_any (l : List UInt8) (w : World) (hm : l.length ≤ 1000000000000) (hT : Tabs w) :
    Calls Tryz.prog 87 #[.string (str l)] w fun e w' => e = .returned (.bool (textD l)) ∧ Below w.heap.size w w' := by
  have hV := Any.utf8_ValidString Tryz.laysValid (str l) w (by rw [str_size]; omega) hT
  have hC := fun w => Any.strings_Contains_one Tryz.laysConts (str l) 0 w
  rw [str_data] at hV
  simp only [str_data, index_has] at hC
  rw [text_valid]
  have mixed : Tryz.prog.follows .mixedOrders = true := by kernel_rfl
  clear hT hm
  cases hv : Lib.validD l with
  | false =>
    rw [hv] at hV
    clear hC
    go_enter Tryz.func87, Tryz.ntmps87
    go_wp2_with (go_at_call 109; refine hV.mono ?_; rintro e w1 ⟨rfl, hb⟩)
    go_ret
    exact ⟨rfl, hb⟩
  | true =>
    rw [hv] at hV
    cases hc : l.contains 0 with
    | false =>
      rw [hc] at hC
      go_enter Tryz.func87, Tryz.ntmps87
      go_wp2_with (first | (go_at_call 109; refine hV.mono ?_; rintro e w1 ⟨rfl, hb⟩) | (go_at_call 110; refine (hC _).mono ?_; rintro e w2 ⟨rfl, rfl⟩))
      go_ret
      exact ⟨rfl, hb⟩
    | true =>
      rw [hc] at hC
      go_enter Tryz.func87, Tryz.ntmps87
      go_wp2_with (first | (go_at_call 109; refine hV.mono ?_; rintro e w1 ⟨rfl, hb⟩) | (go_at_call 110; refine (hC _).mono ?_; rintro e w2 ⟨rfl, rfl⟩))
      go_ret
      exact ⟨rfl, hb⟩
theorem target_any (l : List UInt8) (w : World) (hm : l.length ≤ 1000000000000) (hT : Tabs w) :
    Calls Tryz.prog 92 #[.string (str l)] w fun e w' => e = .returned (.int .i64 (targetD 9 6 l)) ∧ Below w.heap.size w w' := by
  have hR := right_any l w hm hT
  have hs : (str l).size = l.length := str_size l
  unfold targetD
  clear hT
  cases ht : textD l with
  | false =>
    rw [ht] at hR
    rw [if_pos rfl]
    clear hm hs
    go_enter Tryz.func92, Tryz.ntmps92
    go_wp2_with (go_at_call 87; refine hR.mono ?_; rintro e w1 ⟨rfl, hb⟩)
    go_ret
    exact ⟨rfl, hb⟩
  | true =>
    rw [ht] at hR
    rw [if_neg (by simp)]
    obtain ⟨n, hn⟩ : ∃ n, (str l).size = n := ⟨_, rfl⟩
    by_cases h : l = [] ∨ 200 < l.length
    · have hi : inB (n : Int) 1 200 = false := by
        refine inB_false ?_
        rw [← hn, hs]
        rcases h with rfl | h
        · simp
        · omega
      rw [if_pos h]
      clear hm hs h
      go_enter Tryz.func92, Tryz.ntmps92
      go_wp2_with (first | (go_at_call 87; refine hR.mono ?_; rintro e w1 ⟨rfl, hb⟩) | (go_at_call 91; refine (in_any _ _ _ _).mono ?_; rw [hi]; rintro e w2 ⟨rfl, rfl⟩))
      go_ret
      exact ⟨rfl, hb⟩
    · have hi : inB (n : Int) 1 200 = true := by
        have : 0 < l.length := List.length_pos_iff.2 fun e => h (.inl e)
        exact inB_true (by omega) (by omega)
      rw [if_neg h]
      clear hm hs h
      go_enter Tryz.func92, Tryz.ntmps92
      go_wp2_with (first | (go_at_call 87; refine hR.mono ?_; rintro e w1 ⟨rfl, hb⟩) | (go_at_call 91; refine (in_any _ _ _ _).mono ?_; rw [hi]; rintro e w2 ⟨rfl, rfl⟩))
      go_ret
      exact ⟨rfl, hb⟩
end Go.Proofs.YtdjedimjhogdoaaGreatDoor.Path
end
section
namespace Go.Proofs.YtdjedimjhogdoaaGreatDoor.Path
open Go.ChangeShapes Go.WideShapes Go.ChangeAt Go.RowKit Go.Shelf Go.Proofs.YtdjedimjhogdoaaGreatDoor.Base Go.Proofs.YtdjedimjhogdoaaGreatDoor.Byt Go.Proofs.YtdjedimjhogdoaaGreatDoor.Txt Go.Lib Go.Proofs.YtdjedimjhogdoaaGreatDoor.Num
set_option linter.unusedVariables false
set_option maxRecDepth 100000
attribute [local go_sem] Oper.semAt_some

theorem abides_drewN {β : Type} {B : Nat} {J : β → World → Prop} (h : AbidesFrom B J) {s : β} {w : World} (hs : J s w) (n : Nat) : J s (w.drewN n) :=
  match n with
  | 0 => hs
  | n + 1 => h s (w.drewN n) _ none (abides_drewN h hs n) ⟨rfl, rfl, rfl, Nat.le_refl _, fun _ _ _ => rfl⟩ (fun r e => by cases e)
/-- what is left to be cut -/
def leftL (m : Bool) (l : List UInt8) : List (List UInt8) := if m then partsL l else []
theorem left_cut (l : List UInt8) : leftL true l = (cutL l).1 :: leftL (cutL l).2.2 (cutL l).2.1 := by
  unfold leftL cutL
  rw [if_pos rfl]
  obtain ⟨h1, h2⟩ := parts_cut l
  by_cases h : 0 ≤ Lib.indexByte l 47
  · rw [if_pos h, h1 h]
    simp
  · rw [if_neg h, h2 h]
    simp
theorem cut_less (l : List UInt8) : (cutL l).2.1.length + (if (cutL l).2.2 then 1 else 0) < l.length + 1 := by
  unfold cutL
  by_cases h : 0 ≤ Lib.indexByte l 47
  · rw [if_pos h]
    obtain ⟨k, hk⟩ : ∃ k : Nat, Lib.indexByte l 47 = k := ⟨(Lib.indexByte l 47).toNat, by omega⟩
    have hlt := (List.getElem?_eq_some_iff.1 (Lib.indexByte_some hk).1).1
    simp only [List.length_drop, hk, Int.toNat_natCast, if_true]
    omega
  · rw [if_neg h]
    simp
/-- how much a round has ahead of it -/
def leftN (r m : Value) : Nat := (match r with | .string s => s.size | _ => 0) + (match m with | .bool true => 1 | _ => 0)
/-- a part that is no longer than any text may be -/
abbrev Part := { x : List UInt8 // x.length ≤ 1000000000000 }
theorem parts_len (l : List UInt8) : ∀ p ∈ partsL l, p.length ≤ l.length := by
  induction l with
  | nil => simp [partsL]
  | cons b l ih =>
    unfold partsL
    by_cases hb : b = 47
    · rw [if_pos hb]
      intro p hp
      rcases List.mem_cons.1 hp with rfl | hp
      · simp
      · have := ih p hp; rw [List.length_cons]; omega
    · rw [if_neg hb]
      cases hq : partsL l with
      | nil => exact absurd hq (parts_ne l)
      | cons q qs =>
        rw [hq] at ih
        intro p hp
        rcases List.mem_cons.1 hp with rfl | hp
        · have := ih q (by simp)
          simp only [List.headD_cons, List.length_cons]
          omega
        · have := ih p (List.mem_cons_of_mem _ hp); rw [List.length_cons]; omega
theorem some_parts (s : List UInt8) (hm : s.length ≤ 1000000000000) : ∃ ps : List Part, ps.map (·.1) = partsL s := by
  refine ⟨(partsL s).attachWith _ (fun p hp => Nat.le_trans (parts_len s p hp) hm), ?_⟩
  simp
set_option maxHeartbeats 1000000 in
theorem seq_in (F : Fence) (n : Nat) (hF : F = Fence.wide) (hn : 1 ≤ n) (l Bn : Nat) (s : List UInt8) (hm : s.length ≤ 1000000000000) (ps : List Part) (hps : ps.map (·.1) = partsL s) (J Jx : List Part → World → Prop) (B : Nat) (hJ : AbidesFrom B J)
    (hY : ∀ pre x W, J pre W → pre.length < ps.length → YieldAt F (n - 1) Tryz.prog l #[.string (str x.1)] W fun e W' =>
      (e = .returned (.bool true) ∧ J (pre ++ [x]) W' ∧ True) ∨ (e = .returned (.bool false) ∧ Jx (pre ++ [x]) W'))
    (W : World) (hBn : W.cell? ⟨Bn, 0, none⟩ = some (.string (str s))) (h0 : J [] W) :
    CallsIn F n Tryz.prog 112 #[.func (.yield l) #[] #[], .pointer (some ⟨Bn, 0, none⟩)] W fun e W' => (∃ v, e = .returned v) ∧
      ((∃ ys, ys = ps ∧ J ys W') ∨ (∃ pre, pre <+: ps ∧ Jx pre W')) := by
  subst hF
  refine callsIn_of_wp Tryz.func112 rfl trivial ?_ rfl
  simp only [Tryz.ntmps112, List.size_toArray, List.length_cons, List.length_nil, Nat.reduceAdd, Nat.reduceSub, Array.replicate_succ, Array.replicate_zero, List.push_toArray, List.append_toArray, List.nil_append, List.cons_append]
  gi_wp2
  gi_loopw [3, 4] (fun r m wr => ∃ (pre tl : List Part) (rest : List UInt8) (b : Bool), r = .string (str rest) ∧ m = .bool b ∧ Hid (ps = pre ++ tl ∧ tl.map (·.1) = leftL b rest) ∧ rest.length ≤ 1000000000000 ∧ J pre wr)
    (fun r m wr => leftN r m)
  case atStart => exact ⟨[], ps, s, true, rfl, rfl, ⟨rfl, hps⟩, hm, h0⟩
  case round =>
    obtain ⟨pre, tl, rest, b, rfl, rfl, hx, hr, hJs⟩ := hrel
    cases b with
    | false =>
      gi_wp2
      go_end0
      exact ⟨⟨_, rfl⟩, .inl ⟨pre, by obtain ⟨h1, h2⟩ := hx.out; obtain rfl : tl = [] := List.map_eq_nil_iff.1 h2; simp [h1], hJs⟩⟩
    | true =>
      obtain ⟨hx1, hx2⟩ := hx.out
      rw [left_cut] at hx2
      obtain ⟨x, tl', htl⟩ : ∃ x tl', tl = x :: tl' := by
        cases tl with
        | nil => simp at hx2
        | cons x tl' => exact ⟨x, tl', rfl⟩
      rw [htl, List.map_cons, List.cons.injEq] at hx2
      have hc := cutSlash_any rest wr hr
      have hl := cut_less rest
      have hsz : (str rest).size = rest.length := str_size rest
      obtain ⟨p, hp⟩ : ∃ p : List UInt8, p = x.1 := ⟨_, rfl⟩
      obtain ⟨q, hq⟩ : ∃ q, q = (cutL rest).2.1 := ⟨_, rfl⟩
      obtain ⟨b, hb⟩ : ∃ b, b = (cutL rest).2.2 := ⟨_, rfl⟩
      rw [← hx2.1, ← hp, ← hq, ← hb] at hc
      rw [← hq, ← hb] at hx2
      rw [htl] at hx1
      rw [← hq, ← hb] at hl
      have HX := Lib.hid (And.intro hx1 hx2.2)
      have HL := Lib.hid hl
      have HS := Lib.hid hsz
      have hgo0 : ∀ k, YieldAt Fence.wide (n - 1) Tryz.prog l #[.string (str x.1)] (wr.drewN k) fun e W' =>
          (e = .returned (.bool true) ∧ J (pre ++ [x]) W' ∧ True) ∨ (e = .returned (.bool false) ∧ Jx (pre ++ [x]) W') :=
        fun k => hY pre x _ (abides_drewN hJ hJs k) (by rw [hx1]; simp)
      rw [← hp] at hgo0
      clear hp hq hb hx1 hx2 hl hsz hx htl hY
      gi_wp2_with (refine ⟨trivial, ?_⟩; gi_at_call 102; refine (callsIn_wide.2 hc).mono ?_; rintro e w' ⟨rfl, k, rfl⟩; obtain ⟨fn, tmps, assign, body, hy, hR⟩ := hgo0 k)
      refine hR.mono ?_
      rintro e W3 (⟨rfl, hJ3, -⟩ | ⟨rfl, hJx3⟩)
      · gi_wp2
        go_roundw
        case rel => exact ⟨pre ++ [x], tl', q, b, rfl, rfl, ⟨by rw [HX.out.1]; simp, HX.out.2⟩, by have := HL.out; omega, hJ3⟩
        case measure =>
          have h1 := HL.out
          have h2 := HS.out
          have h3 : (str q).size = q.length := str_size q
          cases b <;> simp [leftN, h2, h3] at h1 ⊢ <;> omega
      · gi_wp2
        refine bodyPost_ret (results_none rfl _ _ _) rfl ?_
        exact ⟨⟨_, rfl⟩, .inr ⟨pre ++ [x], by rw [HX.out.1]; exact ⟨tl', by simp⟩, hJx3⟩⟩
theorem seq_stops (n : Nat) (hn : 1 ≤ n) (Bn : Nat) (s : List UInt8) (hm : s.length ≤ 1000000000000) (ps : List Part) (hps : ps.map (·.1) = partsL s) (w : World) (hBn : Bn < w.heap.size) (hc : w.cell? ⟨Bn, 0, none⟩ = some (.string (str s))) :
    SeqStopsK Fence.wide n Tryz.prog 112 #[.pointer (some ⟨Bn, 0, none⟩)] (fun x : Part => #[Value.string (str x.1)]) (fun _ _ => True) (fun ys => ys = ps) (fun pre => pre <+: ps) ps.length w := fun l J Jx W hW hJ _ hY h0 =>
  seq_in Fence.wide n rfl hn l Bn s hm ps hps J Jx _ hJ hY W ((hW.cell (p := ⟨Bn, 0, none⟩) hBn).trans hc) h0
theorem parts_any (s : List UInt8) (w : World) :
    Calls Tryz.prog 89 #[.string (str s)] w fun e w' => e = .returned (.func (.func 112) #[] #[.pointer (some ⟨w.heap.size, 0, none⟩)]) ∧ w' = w.alloc (.cells #[.string (str s)] 9) := by
  go_enter Tryz.func89, Tryz.ntmps89
  go_wp2
  go_ret
  exact ⟨rfl, rfl⟩
end Go.Proofs.YtdjedimjhogdoaaGreatDoor.Path
end
section
namespace Go.Proofs.YtdjedimjhogdoaaGreatDoor.Path
open Go.ChangeShapes Go.WideShapes Go.ChangeAt Go.RowKit Go.Shelf Go.Proofs.YtdjedimjhogdoaaGreatDoor.Base Go.Proofs.YtdjedimjhogdoaaGreatDoor.Byt Go.Proofs.YtdjedimjhogdoaaGreatDoor.Txt Go.Lib Go.Proofs.YtdjedimjhogdoaaGreatDoor.Num
set_option linter.unusedVariables false
set_option maxRecDepth 100000
attribute [local go_sem] Oper.semAt_some

theorem goP_app (a b : List (List UInt8)) : ∀ c, goP c (a ++ b) = (goP c a).bind fun d => goP d b := by
  induction a with
  | nil => intro c; rfl
  | cons p a ih =>
    intro c
    rw [List.cons_append, goP, goP]
    split
    · rfl
    · exact ih _
theorem goP_snoc (pre : List (List UInt8)) (p c d : List UInt8) (h : goP c pre = some d) : goP c (pre ++ [p]) = if p = [46, 46] ∨ 200 < (joinP d p).length then none else some (joinP d p) := by
  rw [goP_app, h, Option.bind_some]
  unfold goP
  split <;> rfl
theorem goP_le (ps : List (List UInt8)) : ∀ c d, c.length ≤ 200 → goP c ps = some d → d.length ≤ 200 := by
  induction ps with
  | nil => intro c d hc h; cases h; exact hc
  | cons p ps ih =>
    intro c d hc h
    unfold goP at h
    split at h
    · cases h
    · next hn => exact ih _ _ (by rcases Nat.lt_or_ge 200 (joinP c p).length with h' | h'; exact absurd (.inr h') hn; exact h') h
theorem goP_none (a b : List (List UInt8)) (h : goP [] a = none) : goP [] (a ++ b) = none := by rw [goP_app, h]; rfl
theorem head_slash_iff (l : List UInt8) : Lib.hasPrefix l [47] = decide (l.head? = some 47) := by
  cases l with
  | nil => simp [Lib.hasPrefix]
  | cons b t =>
    by_cases h : b = 47
    · subst h; simp [Lib.hasPrefix]
    · have h' : ¬ (47 : UInt8) = b := fun e => h e.symm
      simp [Lib.hasPrefix, List.isPrefixOf, h, h']
/-- a cell of one's own -/
def Cell (W : World) (b : Nat) (v : Value) : Prop := W.cell? ⟨b, 0, none⟩ = some v ∧ W.frozen? ⟨b, 0, none⟩ = false
theorem Cell.kept {W W' : World} {b : Nat} {v : Value} (h : Cell W b v) {row : Option Nat} (hg : W.grownBy W' row) (hr : ∀ r, row = some r → ∃ o : Obj, W.heap[r]? = some o ∧ o.isCells = false) : Cell W' b v :=
  ⟨cell_kept h.1 hg hr, (frozen_kept h.1 hg hr).trans h.2⟩
theorem Cell.below {W W' : World} {b n : Nat} {v : Value} (h : Cell W b v) (hb : Below n W W') (hn : b < n) : Cell W' b v :=
  ⟨(hb.cell (p := ⟨b, 0, none⟩) hn).trans h.1, (hb.frozen (p := ⟨b, 0, none⟩) hn).trans h.2⟩
theorem Cell.new (W : World) (v : Value) (t : TypeId) : Cell (W.alloc (.cells #[v] t)) W.heap.size v := by
  have h := World.alloc_heap_new W (.cells #[v] t)
  unfold Cell World.cell? World.frozen?
  rw [h]
  exact ⟨rfl, rfl⟩
theorem Cell.alloc {W : World} {b : Nat} {v : Value} (h : Cell W b v) (o : Obj) : Cell (W.alloc o) b v := h.kept (World.grownBy_alloc W o none) (fun r e => by cases e)
theorem Cell.set {W : World} {b : Nat} {v : Value} (h : Cell W b v) (u : Value) : Cell (W.setCell ⟨b, 0, none⟩ u) b u :=
  ⟨World.cell?_setCell_same' _ _ _ (by rw [h.1]; rfl), by rw [World.frozen?_setCell]; exact h.2⟩
theorem Cell.other {W : World} {b b' : Nat} {v : Value} (h : Cell W b v) (u : Value) (hne : b' ≠ b) : Cell (W.setCell ⟨b', 0, none⟩ u) b v :=
  ⟨(World.cell?_setCell_other _ _ _ _ (fun e => hne (congrArg Addr.block e))).trans h.1, by rw [World.frozen?_setCell]; exact h.2⟩
/-- of a right text -/
def restD (P : Int) (l : List UInt8) : List UInt8 × Int :=
  if l.head? = some 47 then ([], P) else match goP [] (partsL l) with | none => ([], P) | some a => if a = [] then ([], P) else (a, 0)
theorem clean_rest (T P : Int) (l : List UInt8) : cleanD T P l = if textD l = false then ([], T) else restD P l := clean_goP T P l
theorem ret_cells (W : World) (tm : Array Value) (b0 b1 : Nat) (s : ByteArray) (e : Int) (h0 : tm[2]? = some (.pointer (some ⟨b0, 0, none⟩))) (h1 : tm[3]? = some (.pointer (some ⟨b1, 0, none⟩)))
    (c0 : Cell W b0 (.string s)) (c1 : Cell W b1 (.int .i64 e)) : (results Tryz.f60 tm).run Tryz.prog W = .ok (.tuple #[.string s, .int .i64 e]) W := by
  obtain ⟨c00, c01⟩ := c0
  obtain ⟨c10, c11⟩ := c1
  simp [results, Tryz.f60, go_sem, h0, h1, c00, c10]
set_option maxHeartbeats 2000000 in
theorem clean_any (l : List UInt8) (w : World) (hm : l.length ≤ 1000000000000) (hT : Tabs w) :
    Calls Tryz.prog 60 #[.string (str l)] w fun e w' => e = .returned (.tuple #[.string (str (cleanD 9 6 l).1), .int .i64 (cleanD 9 6 l).2]) ∧ Below w.heap.size w w' := by
  have hR := fun w hT => right_any l w hm hT
  have hP := fun w => Any.strings_HasPrefix Tryz.laysPrefix (str l) ⟨#[47]⟩ w
  rw [clean_rest]
  simp only [str_data, head_slash_iff] at hP
  refine (callsIn_wide (n := 3)).1 ?_
  refine callsIn_of_wp_marks Tryz.func60 rfl trivial ?_ rfl
  simp only [Tryz.ntmps60, List.size_toArray, List.length_cons, List.length_nil, Nat.reduceAdd, Nat.reduceSub, Array.replicate_succ, Array.replicate_zero, List.push_toArray, List.append_toArray, List.nil_append, List.cons_append]
  have hB0 : Below w.heap.size w ((w.alloc (.cells #[.string ⟨#[]⟩] 9)).alloc (.cells #[.int .i64 0] 26)) := ((Below.refl _ _).alloc (Nat.le_refl _) _).alloc (by simp) _
  have hT0 := hT.below hB0
  have c0 : Cell ((w.alloc (.cells #[.string ⟨#[]⟩] 9)).alloc (.cells #[.int .i64 0] 26)) w.heap.size (.string ⟨#[]⟩) := (Cell.new w _ _).alloc _
  have c1 : Cell ((w.alloc (.cells #[.string ⟨#[]⟩] 9)).alloc (.cells #[.int .i64 0] 26)) (w.heap.size + 1) (.int .i64 0) := by
    have := Cell.new (w.alloc (.cells #[.string ⟨#[]⟩] 9)) (.int .i64 0) 26
    rwa [World.size_alloc] at this
  have HC := Lib.hid (And.intro c0 c1)
  have HB := Lib.hid hB0
  clear c0 c1 hB0 hT
  cases ht : textD l with
  | false =>
    rw [if_pos rfl]
    have hR' := hR _ hT0
    rw [ht] at hR'
    gi_wp2_with fail
    refine ⟨trivial, (callsIn_wide.2 hR').mono ?_⟩
    rintro e w1 ⟨rfl, hb⟩
    simp only [World.size_alloc] at hb
    obtain ⟨d00, d01⟩ := HC.out.1.below hb (by omega)
    obtain ⟨d10, d11⟩ := HC.out.2.below hb (by omega)
    have HB1 := Lib.hid (HB.out.trans (hb.mono (by omega)))
    clear hb hR' hT0 hR hP
    gi_wp2_with fail
    refine ⟨_, ret_cells _ _ w.heap.size (w.heap.size + 1) ⟨#[]⟩ 9 rfl rfl (((show Cell w1 w.heap.size _ from ⟨d00, d01⟩).set _).other _ (by omega)) (((show Cell w1 (w.heap.size + 1) _ from ⟨d10, d11⟩).other _ (by omega)).set _), rfl, ?_⟩
    exact (HB1.out.setCell (p := ⟨w.heap.size, 0, none⟩) (Nat.le_refl _) _).setCell (p := ⟨w.heap.size + 1, 0, none⟩) (by simp) _
  | true =>
    rw [if_neg (by simp)]
    have hR' := hR _ hT0
    rw [ht] at hR'
    obtain ⟨G, hG⟩ : ∃ G, restD 6 l = G := ⟨_, rfl⟩
    rw [hG]
    unfold restD at hG
    have HG := Lib.hid hG
    clear hG
    gi_wp2_with fail
    refine ⟨trivial, (callsIn_wide.2 hR').mono ?_⟩
    rintro e w1 ⟨rfl, hb⟩
    simp only [World.size_alloc] at hb
    have d0 := HC.out.1.below hb (by omega)
    have d1 := HC.out.2.below hb (by omega)
    have HS1 : Hid (w.heap.size + 2 ≤ w1.heap.size) := Lib.hid (by have := hb.size; rw [World.size_alloc, World.size_alloc] at this; omega)
    have HB1 := Lib.hid (HB.out.trans (hb.mono (by omega)))
    clear hb hR' hT0 hR
    have hP' := hP w1
    clear hP
    by_cases h0 : l.head? = some 47
    · obtain rfl : ([], 6) = G := by rw [← HG.out, if_pos h0]
      rw [decide_eq_true h0] at hP'
      clear h0
      obtain ⟨d00, d01⟩ := d0
      obtain ⟨d10, d11⟩ := d1
      gi_wp2_with fail
      refine ⟨trivial, (callsIn_wide.2 hP').mono ?_⟩
      rintro e w' ⟨rfl, rfl⟩
      gi_wp2_with fail
      refine ⟨_, ret_cells _ _ w.heap.size (w.heap.size + 1) ⟨#[]⟩ 6 rfl rfl (((show Cell w' w.heap.size _ from ⟨d00, d01⟩).set _).other _ (by omega)) (((show Cell w' (w.heap.size + 1) _ from ⟨d10, d11⟩).other _ (by omega)).set _), rfl, ?_⟩
      exact (HB1.out.setCell (p := ⟨w.heap.size, 0, none⟩) (Nat.le_refl _) _).setCell (p := ⟨w.heap.size + 1, 0, none⟩) (by simp) _
    · have hG := HG.out
      rw [if_neg h0] at hG
      rw [decide_eq_false h0] at hP'
      have HG2 := Lib.hid hG
      clear h0 HG hG
      have HD := Lib.hid (And.intro d0 d1)
      clear d0 d1
      gi_wp2_with fail
      refine ⟨trivial, (callsIn_wide.2 hP').mono ?_⟩
      rintro e w' ⟨rfl, rfl⟩
      gi_wp2_with fail
      have HB2 : Hid (Below w.heap.size w ((w'.alloc (.cells #[.string ⟨#[]⟩] 9)).alloc (.cells #[.string (str l)] 9))) :=
        Lib.hid ((HB1.out.alloc (by have := HS1.out; omega) _).alloc (by have := HS1.out; rw [World.size_alloc]; omega) _)
      have HX := Lib.hid (((Cell.new w' (.string ⟨#[]⟩) 9)).alloc (.cells #[.string (str l)] 9))
      have HY := Lib.hid (And.intro ((HD.out.1.alloc (.cells #[.string ⟨#[]⟩] 9)).alloc (.cells #[.string (str l)] 9)) ((HD.out.2.alloc (.cells #[.string ⟨#[]⟩] 9)).alloc (.cells #[.string (str l)] 9)))
      have HZ := Lib.hid (Cell.new (w'.alloc (.cells #[.string ⟨#[]⟩] 9)) (.string (str l)) 9)
      clear HB1 HD HC
      obtain ⟨ps, hps⟩ := some_parts l hm
      refine ⟨trivial, (callsIn_wide.2 (parts_any l _)).mono ?_⟩
      rintro e w2 ⟨rfl, rfl⟩
      gi_wp2_with fail
      obtain ⟨n1, hn1⟩ : ∃ n1, w'.heap.size = n1 := ⟨_, rfl⟩
      obtain ⟨W0, hW0⟩ : ∃ W0, (w'.alloc (.cells #[.string ⟨#[]⟩] 9)).alloc (.cells #[.string (str l)] 9) = W0 := ⟨_, rfl⟩
      have HN : Hid (W0.heap.size = n1 + 2 ∧ w.heap.size + 2 ≤ n1) := Lib.hid (by rw [← hW0, World.size_alloc, World.size_alloc]; exact ⟨by omega, by have := HS1.out; omega⟩)
      rw [hW0] at HB2 HX HY HZ ⊢
      rw [World.size_alloc] at HZ
      rw [hn1] at HX HZ ⊢
      clear hW0 HS1 hn1 HB
      refine wpIn_rangeFunc_ownF rfl (by omega) (gf := 112) (lb := #[.pointer (some ⟨n1 + 1, 0, none⟩)]) rfl trivial (enters_of Tryz.func112 (by kernel_rfl) rfl)
        (seq_stops _ (by omega) (n1 + 1) l hm ps hps W0 (by rw [HN.out.1]; omega) HZ.out.1) (fun _ _ => trivial) (fun _ _ _ _ _ _ _ _ => trivial) (Below.refl _ _) (fun _ => rfl)
        (fun pre W => (∃ c, goP [] (pre.map (·.1)) = some c ∧ Cell W n1 (.string (str c)) ∧ Cell W w.heap.size (.string ⟨#[]⟩) ∧ Cell W (w.heap.size + 1) (.int .i64 0)) ∧ Below w.heap.size w W)
        (fun c pre W => (c = .ret ∧ goP [] (pre.map (·.1)) = none ∧ Cell W w.heap.size (.string ⟨#[]⟩) ∧ Cell W (w.heap.size + 1) (.int .i64 6)) ∧ Below w.heap.size w W)
        (OwnFrom.and (Own.from (fun s A B row hs hg hr => by obtain ⟨c, h1, h2, h3, h4⟩ := hs; exact ⟨c, h1, h2.kept hg hr, h3.kept hg hr, h4.kept hg hr⟩) _) (ownFrom_below (Nat.le_refl _) (by rw [HN.out.1]; have := HN.out.2; omega)))
        (fun c => OwnFrom.and (Own.from (fun s A B row hs hg hr => ⟨hs.1, hs.2.1, hs.2.2.1.kept hg hr, hs.2.2.2.kept hg hr⟩) _) (ownFrom_below (Nat.le_refl _) (by rw [HN.out.1]; have := HN.out.2; omega)))
        ⟨⟨[], rfl, HX.out, HY.out.1, HY.out.2⟩, HB2.out⟩
        (fun x => { tmps := #[.string (str l), undef, .pointer (some ⟨w.heap.size, 0, none⟩), .pointer (some ⟨w.heap.size + 1, 0, none⟩), .pointer (some ⟨n1, 0, none⟩), .string (str x.1), .string (str l), .bool true, .bool false, .string (str l), .bool false, .string (str l), .func (.func 112) #[] #[.pointer (some ⟨n1 + 1, 0, none⟩)], .string (str x.1), undef, undef, undef, undef, undef, undef, undef, undef, undef, undef, undef, undef, undef], defers := [] }) ?assign ?body ?done ?stop
      case assign =>
        intro l x W K hK
        gi_wp2
        exact hK
      case body =>
        rintro l' pre x W ⟨⟨c, hg, c0, c1, c2⟩, hB⟩ _
        have hc := goP_le _ _ _ (by simp) hg
        have hj := join_any c x.1 W (by have := x.2; omega)
        have hs := goP_snoc _ x.1 _ _ hg
        obtain ⟨d, hd⟩ : ∃ d, joinP c x.1 = d := ⟨_, rfl⟩
        rw [hd] at hj hs
        have e0 := (c0.set (.string (str d)))
        have e1 := (c1.other (.string (str d)) (show n1 ≠ _ by have := HN.out.2; omega))
        have e2 := (c2.other (.string (str d)) (show n1 ≠ _ by have := HN.out.2; omega))
        have hB1 := hB.setCell (p := ⟨n1, 0, none⟩) (show w.heap.size ≤ n1 by have := HN.out.2; omega) (.string (str d))
        have HE := Lib.hid (And.intro e1 (And.intro e2 hB1))
        have hsz : ((str d).size : Int) = d.length := by rw [str_size]
        obtain ⟨f0, f1⟩ := c0
        have HP := Lib.hid hd
        by_cases hx : x.1 = [46, 46]
        · have b1 : ((str x.1).toList == [46, 46]) = true := by rw [str_is]; simpa using hx
          rw [if_pos (.inl hx)] at hs
          have hs' : goP [] ((pre ++ [x]).map (·.1)) = none := by rw [List.map_append]; exact hs
          have HS' := Lib.hid hs'
          clear hs hs' hx hd hg hc e1 e2 c1 c2 hB hB1 hsz
          gi_wp2_with fail
          refine ⟨trivial, (CallsIn.inRound l' (callsIn_wide.2 hj)).mono ?_⟩
          rintro e w3 ⟨rfl, rfl⟩
          obtain ⟨e00, e01⟩ := e0
          obtain ⟨g00, g01⟩ := HE.out.1
          obtain ⟨g10, g11⟩ := HE.out.2.1
          gi_wp2
          exact ⟨((KeepsOthers.setCell _ _ _).trans (KeepsOthers.setCell _ _ _)).trans (KeepsOthers.setCell _ _ _), ⟨rfl, HS'.out, (HE.out.1.set _).other _ (by omega), (HE.out.2.1.other _ (by omega)).set _⟩, (HE.out.2.2.setCell (p := ⟨w.heap.size, 0, none⟩) (Nat.le_refl _) _).setCell (p := ⟨w.heap.size + 1, 0, none⟩) (by simp) _⟩
        · have b1 : ((str x.1).toList == [46, 46]) = false := by rw [str_is]; simpa using hx
          obtain ⟨n, hn⟩ : ∃ n, (str d).size = n := ⟨_, rfl⟩
          by_cases h2 : 200 < d.length
          · have b2 : (200 : Int) < (n : Int) := by omega
            rw [if_pos (.inr h2)] at hs
            have hs' : goP [] ((pre ++ [x]).map (·.1)) = none := by rw [List.map_append]; exact hs
            have HS' := Lib.hid hs'
            clear hs hs' hx hd hg hc e1 e2 c1 c2 hB hB1 hsz h2
            gi_wp2_with fail
            refine ⟨trivial, (CallsIn.inRound l' (callsIn_wide.2 hj)).mono ?_⟩
            rintro e w3 ⟨rfl, rfl⟩
            obtain ⟨e00, e01⟩ := e0
            obtain ⟨g00, g01⟩ := HE.out.1
            obtain ⟨g10, g11⟩ := HE.out.2.1
            gi_wp2
            exact ⟨((KeepsOthers.setCell _ _ _).trans (KeepsOthers.setCell _ _ _)).trans (KeepsOthers.setCell _ _ _), ⟨rfl, HS'.out, (HE.out.1.set _).other _ (by omega), (HE.out.2.1.other _ (by omega)).set _⟩, (HE.out.2.2.setCell (p := ⟨w.heap.size, 0, none⟩) (Nat.le_refl _) _).setCell (p := ⟨w.heap.size + 1, 0, none⟩) (by simp) _⟩
          · have b2 : ¬ (200 : Int) < (n : Int) := by omega
            rw [if_neg (fun h => h.elim hx h2)] at hs
            have hs' : goP [] ((pre ++ [x]).map (·.1)) = some d := by rw [List.map_append]; exact hs
            have HS' := Lib.hid hs'
            clear hs hs' hx hd hg hc e1 e2 c1 c2 hB hB1 hsz h2
            gi_wp2_with fail
            refine ⟨trivial, (CallsIn.inRound l' (callsIn_wide.2 hj)).mono ?_⟩
            rintro e w3 ⟨rfl, rfl⟩
            obtain ⟨e00, e01⟩ := id e0
            obtain ⟨g00, g01⟩ := HE.out.1
            obtain ⟨g10, g11⟩ := HE.out.2.1
            gi_wp2
            exact ⟨KeepsOthers.setCell _ _ _, trivial, ⟨d, HS'.out, e0, HE.out.1, HE.out.2.1⟩, HE.out.2.2⟩
      case done =>
        rintro D ys W hD rfl ⟨⟨c, hg, c0, c1, c2⟩, hB⟩ hK
        rw [hps] at hg
        have hG := HG2.out
        rw [hg] at hG
        simp only at hG
        have hDw : w.heap.size ≤ D := by have := HN.out; omega
        obtain ⟨f0, f1⟩ := id c0
        obtain ⟨g00, g01⟩ := id c1
        obtain ⟨g10, g11⟩ := id c2
        have HE := Lib.hid (And.intro c1 (And.intro c2 hB))
        have HK := Lib.hid hK
        by_cases hc : c = []
        · have b1 : (str c).toList.isEmpty = true := by rw [str_empty]; simpa using hc
          obtain rfl : ([], 6) = G := by rw [← hG, if_pos hc]
          clear hG hc hg HG2 c0 c1 c2 hB hK
          gi_wp2
          have hK' := ((KeepsOthers.setCell W ⟨w.heap.size, 0, none⟩ (.string ⟨#[]⟩)).trans (KeepsOthers.setCell _ ⟨w.heap.size + 1, 0, none⟩ (.int .i64 6))).same D _ HK.out rfl
          refine ⟨by simp, .inl ⟨_, _, rfl, run_takeDeferred hK', ?_⟩⟩
          have k0 := ((HE.out.1.set (.string ⟨#[]⟩)).other (.int .i64 6) (show w.heap.size + 1 ≠ _ by omega)).kept (grownBy_putObj' _ D (.deferred none)) (fun r e => by cases e; exact ⟨_, hK', rfl⟩)
          have k1 := ((HE.out.2.1.other (.string ⟨#[]⟩) (show w.heap.size ≠ _ by omega)).set (.int .i64 6)).kept (grownBy_putObj' _ D (.deferred none)) (fun r e => by cases e; exact ⟨_, hK', rfl⟩)
          exact ⟨_, ret_cells _ _ w.heap.size (w.heap.size + 1) ⟨#[]⟩ 6 rfl rfl k0 k1, rfl, ((HE.out.2.2.setCell (p := ⟨w.heap.size, 0, none⟩) (Nat.le_refl _) _).setCell (p := ⟨w.heap.size + 1, 0, none⟩) (by simp) _).trans (belowK_b (w := w) (Nat.le_refl _) _ D _ _ hDw hK' rfl rfl)⟩
        · have b1 : (str c).toList.isEmpty = false := by rw [str_empty]; simpa using hc
          obtain rfl : (c, 0) = G := by rw [← hG, if_neg hc]
          clear hG hc hg HG2 c0 c1 c2 hB hK
          gi_wp2
          have hK' := ((KeepsOthers.setCell W ⟨w.heap.size, 0, none⟩ (.string (str c))).trans (KeepsOthers.setCell _ ⟨w.heap.size + 1, 0, none⟩ (.int .i64 0))).same D _ HK.out rfl
          refine ⟨by simp, .inl ⟨_, _, rfl, run_takeDeferred hK', ?_⟩⟩
          have k0 := ((HE.out.1.set (.string (str c))).other (.int .i64 0) (show w.heap.size + 1 ≠ _ by omega)).kept (grownBy_putObj' _ D (.deferred none)) (fun r e => by cases e; exact ⟨_, hK', rfl⟩)
          have k1 := ((HE.out.2.1.other (.string (str c)) (show w.heap.size ≠ _ by omega)).set (.int .i64 0)).kept (grownBy_putObj' _ D (.deferred none)) (fun r e => by cases e; exact ⟨_, hK', rfl⟩)
          exact ⟨_, ret_cells _ _ w.heap.size (w.heap.size + 1) (str c) 0 rfl rfl k0 k1, rfl, ((HE.out.2.2.setCell (p := ⟨w.heap.size, 0, none⟩) (Nat.le_refl _) _).setCell (p := ⟨w.heap.size + 1, 0, none⟩) (by simp) _).trans (belowK_b (w := w) (Nat.le_refl _) _ D _ _ hDw hK' rfl rfl)⟩
      case stop =>
        rintro D c pre W hD hpre ⟨⟨rfl, hn, c1, c2⟩, hB⟩ hK
        have hG := HG2.out
        obtain ⟨tl, htl⟩ := hpre
        rw [← hps, ← htl, List.map_append, goP_none _ _ hn] at hG
        obtain rfl : ([], 6) = G := hG
        have hDw : w.heap.size ≤ D := by have := HN.out; omega
        have HE := Lib.hid (And.intro c1 (And.intro c2 hB))
        have HK := Lib.hid hK
        clear htl hn HG2 c1 c2 hB hK
        gi_wp2
        have hK' := HK.out
        refine ⟨by simp, .inl ⟨_, _, rfl, run_takeDeferred hK', ?_⟩⟩
        have k0 := HE.out.1.kept (grownBy_putObj' _ D (.deferred none)) (fun r e => by cases e; exact ⟨_, hK', rfl⟩)
        have k1 := HE.out.2.1.kept (grownBy_putObj' _ D (.deferred none)) (fun r e => by cases e; exact ⟨_, hK', rfl⟩)
        exact ⟨_, ret_cells _ _ w.heap.size (w.heap.size + 1) ⟨#[]⟩ 6 rfl rfl k0 k1, rfl, HE.out.2.2.trans (belowK_b (w := w) (Nat.le_refl _) _ D _ _ hDw hK' rfl rfl)⟩
end Go.Proofs.YtdjedimjhogdoaaGreatDoor.Path
end
section
namespace Go.Proofs.YtdjedimjhogdoaaGreatDoor.Path
open Go.ChangeShapes Go.WideShapes Go.ChangeAt Go.RowKit Go.Proofs.YtdjedimjhogdoaaGreatDoor.Base Go.Proofs.YtdjedimjhogdoaaGreatDoor.Byt Go.Proofs.YtdjedimjhogdoaaGreatDoor.Txt Go.Lib
set_option linter.unusedVariables false
set_option maxRecDepth 100000

/-- a part up to a slash, and what is behind it -/
theorem parts_at (l : List UInt8) (a i : Nat) (ha : a ≤ i) (hi : i < l.length) (hn : ∀ j, a ≤ j → j < i → l.getD j 0 ≠ 47) (h : l.getD i 0 = 47) :
    partsL (l.drop a) = (l.drop a).take (i - a) :: partsL (l.drop (i + 1)) := by
  have e : l.drop a = (l.drop a).take (i - a) ++ 47 :: l.drop (i + 1) := by
    have h1 : (l.drop a).drop (i - a) = 47 :: l.drop (i + 1) := by
      rw [List.drop_drop, show a + (i - a) = i by omega, List.drop_eq_getElem_cons hi]
      congr 1
      rw [← h, List.getD, List.getElem?_eq_getElem hi]; rfl
    rw [← h1, List.take_append_drop]
  have hp : (47 : UInt8) ∉ (l.drop a).take (i - a) := fun hm => by
    obtain ⟨j, hj, he⟩ := List.mem_iff_getElem.1 hm
    rw [List.length_take, List.length_drop] at hj
    rw [List.getElem_take, List.getElem_drop] at he
    refine hn (a + j) (by omega) (by omega) ?_
    rw [List.getD, List.getElem?_eq_getElem (by omega), he]; rfl
  rw [e, parts_app, parts_plain _ hp, ← e]
  rfl
theorem parts_end (l : List UInt8) (a : Nat) (ha : a ≤ l.length) (hn : ∀ j, a ≤ j → j < l.length → l.getD j 0 ≠ 47) : partsL (l.drop a) = [(l.drop a).take (l.length - a)] := by
  have e : (l.drop a).take (l.length - a) = l.drop a := List.take_of_length_le (by rw [List.length_drop]; exact Nat.le_refl _)
  rw [e]
  refine parts_plain _ fun hm => ?_
  obtain ⟨j, hj, he⟩ := List.mem_iff_getElem.1 hm
  rw [List.length_drop] at hj
  rw [List.getElem_drop] at he
  refine hn (a + j) (by omega) (by omega) ?_
  rw [List.getD, List.getElem?_eq_getElem (by omega), he]; rfl
theorem part_size (l : List UInt8) (a i : Nat) (hi : i ≤ l.length) (ha : a ≤ i) : ((l.drop a).take (i - a)).length = i - a := by
  rw [List.length_take, List.length_drop]; omega
theorem str_ext (s : ByteArray) (a i : Nat) : s.extract a i = str ((s.data.toList.drop a).take (i - a)) := by
  apply ByteArray.ext
  rw [← Array.toList_inj]
  simp [str, ByteArray.data_extract, List.extract_eq_take_drop]
/-- how far the document's loop is -/
def CRel (s : ByteArray) (G : Option (List UInt8)) (i a : Nat) (out : List UInt8) : Prop :=
  out.length ≤ a ∧ ((a ≤ i ∧ i ≤ s.size ∧ (∀ j, a ≤ j → j < i → s.data.toList.getD j 0 ≠ 47) ∧ goC out (partsL (s.data.toList.drop a)) = G) ∨ (i = s.size + 1 ∧ a ≤ i ∧ G = some out))
/-- what the document's loop makes of a part -/
theorem crel_next (s : ByteArray) (G : Option (List UInt8)) (i a : Nat) (out p : List UInt8) (h : out.length ≤ a) (ha : a ≤ i) (hi : i ≤ s.size) (hn : ∀ j, a ≤ j → j < i → s.data.toList.getD j 0 ≠ 47)
    (hg : goC out (partsL (s.data.toList.drop a)) = G) (hp : p = (s.data.toList.drop a).take (i - a)) (he : i = s.size ∨ s.data.toList.getD i 0 = 47) :
    (p = [46, 46] → G = none) ∧ (p ≠ [46, 46] → CRel s G (i + 1) (i + 1) (joinP out p)) := by
  have hsz : s.data.toList.length = s.size := (size_of s).symm
  have hpl : p.length = i - a := by rw [hp]; exact part_size _ _ _ (by rw [hsz]; exact hi) ha
  have hjl : (joinP out p).length ≤ i + 1 := by
    unfold joinP
    split
    · omega
    · split
      · omega
      · rw [List.length_append, List.length_cons]; omega
  by_cases hlt : i < s.size
  · have h47 : s.data.toList.getD i 0 = 47 := by rcases he with h | h; omega; exact h
    rw [parts_at _ a i ha (by rw [hsz]; exact hlt) hn h47, ← hp] at hg
    unfold goC at hg
    refine ⟨fun e => by rw [if_pos e] at hg; exact hg.symm, fun e => ?_⟩
    rw [if_neg e] at hg
    exact ⟨hjl, .inl ⟨Nat.le_refl _, hlt, fun j h1 h2 => by omega, hg⟩⟩
  · obtain rfl : i = s.size := by omega
    have hpe := parts_end s.data.toList a (by rw [hsz]; exact ha) (by rw [hsz]; exact hn)
    rw [hsz, ← hp] at hpe
    rw [hpe] at hg
    unfold goC at hg
    refine ⟨fun e => by rw [if_pos e] at hg; exact hg.symm, fun e => ?_⟩
    rw [if_neg e] at hg
    exact ⟨hjl, .inr ⟨rfl, Nat.le_refl _, hg.symm⟩⟩
set_option maxHeartbeats 4000000 in
theorem rclean_any (s : ByteArray) (w : World) (hm : s.size ≤ 140737488351232) :
    Calls Tryz.prog 22 #[.string s] w fun e w' => e = .returned (.tuple #[.string (str (cleanD 9 6 s.data.toList).1), .int .i64 (cleanD 9 6 s.data.toList).2]) ∧ w = w' := by
  have hT := rtext_any s w (by omega)
  have hsz : s.data.toList.length = s.size := (size_of s).symm
  obtain ⟨R, hR⟩ : ∃ R, cleanD 9 6 s.data.toList = R := ⟨_, rfl⟩
  rw [hR]
  unfold cleanD at hR
  cases ht : textD s.data.toList with
  | false =>
    rw [ht] at hT hR
    rw [if_pos rfl] at hR
    subst hR
    clear hsz
    go_enter Tryz.func22, Tryz.ntmps22
    go_wp2_with (go_at_call 23; refine hT.mono ?_; rintro e w' ⟨rfl, rfl⟩)
    go_ret2
    exact ⟨rfl, rfl⟩
  | true =>
    rw [ht] at hT hR
    rw [if_neg (by simp)] at hR
    by_cases hz : s.size = 0
    · have hl : s.data.toList = [] := List.length_eq_zero_iff.1 (by rw [hsz]; exact hz)
      rw [hl, show ([] : List UInt8).headD 47 = 47 from rfl, if_pos rfl] at hR
      subst hR
      have hb : s.toList.isEmpty = true := by rw [Lib.toList_data, hl]; rfl
      clear hsz hz hl
      go_enter Tryz.func22, Tryz.ntmps22
      go_wp2_with (go_at_call 23; refine hT.mono ?_; rintro e w' ⟨rfl, rfl⟩)
      go_ret2
      exact ⟨rfl, rfl⟩
    · have h0 : 0 < s.size := by omega
      have hb : s.toList.isEmpty = false := by
        rw [Lib.toList_data]
        cases hl : s.data.toList with
        | nil => rw [hl] at hsz; simp at hsz; omega
        | cons _ _ => rfl
      have hhd : s.data.toList.headD 47 = s[0] := by
        have e : s.data.toList[0]'(by rw [hsz]; exact h0) = s[0] := rfl
        cases hl : s.data.toList with
        | nil => rw [hl] at hsz; simp at hsz; omega
        | cons b t => simp only [hl] at e; exact e
      rw [hhd] at hR
      clear hhd hz
      by_cases hc : s[0] = 47
      · rw [if_pos hc] at hR
        subst hR
        have hcb : (((s[0]).toNat : Int) == 47) = true := by rw [hc]; rfl
        clear hc hsz
        go_enter Tryz.func22, Tryz.ntmps22
        go_wp2_with (go_at_call 23; refine hT.mono ?_; rintro e w' ⟨rfl, rfl⟩)
        go_ret2
        exact ⟨rfl, rfl⟩
      · rw [if_neg hc] at hR
        have hcb : (((s[0]).toNat : Int) == 47) = false := by
          have : ¬ (s[0]).toNat = 47 := fun e => hc (UInt8.toNat_inj.1 e)
          simp; omega
        obtain ⟨G, hG⟩ : ∃ G, goC [] (partsL s.data.toList) = G := ⟨_, rfl⟩
        rw [hG] at hR
        have HR := Lib.hid hR
        have H0 : Hid (CRel s G 0 0 []) := Lib.hid ⟨Nat.le_refl _, .inl ⟨Nat.le_refl _, Nat.zero_le _, fun j h1 h2 => by omega, by rw [List.drop_zero]; exact hG⟩⟩
        clear hR hG hc hsz
        go_enter Tryz.func22, Tryz.ntmps22
        go_wp2_with (go_at_call 23; refine hT.mono ?_; rintro e w' ⟨rfl, rfl⟩)
        go_loop [4, 5, 6] (fun o at_ i => ∃ (a k : Nat) (out : List UInt8), k ≤ s.size + 1 ∧ a ≤ k ∧ o = .string (str out) ∧ at_ = .int .i64 a ∧ i = .int .i64 k ∧ Hid (CRel s G k a out)) (fun _ _ i => s.size + 1 - (RowKit.intOf i).toNat)
        case atStart => exact ⟨0, 0, [], by omega, by omega, rfl, rfl, rfl, H0⟩
        case round =>
          obtain ⟨a, k, out, hk, hak, rfl, rfl, rfl, hr⟩ := hrel
          by_cases hlt : k ≤ s.size
          · have hr' : out.length ≤ a ∧ (∀ j, a ≤ j → j < k → s.data.toList.getD j 0 ≠ 47) ∧ goC out (partsL (s.data.toList.drop a)) = G := by
              obtain ⟨h1, ⟨_, _, h2, h3⟩ | ⟨h2, _⟩⟩ := hr.out
              · exact ⟨h1, h2, h3⟩
              · omega
            have HX := Lib.hid hr'
            clear hr hr'
            by_cases hks : k < s.size
            · have hxg : s[k] = s.data.toList.getD k 0 := (by rw [List.getD, List.getElem?_eq_getElem (show k < s.data.toList.length by rw [← size_of]; exact hks)]; rfl)
              by_cases hc : s[k] = 47
              · have hcb2 : (((s[k]).toNat : Int) == 47) = true := by rw [hc]; rfl
                have he : k = s.size ∨ s.data.toList.getD k 0 = 47 := .inr (by rw [← hxg]; exact hc)
                clear hxg hc
                obtain ⟨p, hp⟩ : ∃ p, p = (s.data.toList.drop a).take (k - a) := ⟨_, rfl⟩
                obtain ⟨n1, n2⟩ := crel_next s G k a out p HX.out.1 hak hlt HX.out.2.1 HX.out.2.2 hp he
                have hext : s.extract a k = str p := by rw [str_ext, hp]
                have hss : (str out).size + 1 + (str p).size ≤ 9223372036854775807 := by
                  rw [str_size, str_size, hp, part_size _ _ _ (by rw [← size_of]; exact hlt) hak]
                  have := HX.out.1
                  omega
                have hss1 : (str out).size + 1 ≤ 9223372036854775807 := by omega
                have hss2 : (str out ++ ⟨#[47]⟩).size + (str p).size ≤ 9223372036854775807 := by rw [ByteArray.size_append]; exact hss
                have hss3 : (str out).size + (str p).size ≤ 9223372036854775807 := by omega
                clear hp he
                by_cases h1 : p = [46, 46]
                · have b1 : ((str p).toList == [46, 46]) = true := by rw [str_is]; simpa using h1
                  have hR := HR.out
                  rw [n1 h1] at hR
                  simp only at hR
                  subst hR
                  clear h1 n1 n2
                  go_wp2
                  go_ret2
                  exact ⟨rfl, rfl⟩
                · have b1 : ((str p).toList == [46, 46]) = false := by rw [str_is]; simpa using h1
                  have HN := Lib.hid (n2 h1)
                  clear h1 n1 n2
                  by_cases h2 : p = []
                  · have b2 : (str p).toList.isEmpty = true := by rw [str_empty]; simpa using h2
                    have HJ : Hid (joinP out p = out) := Lib.hid (by unfold joinP; rw [if_pos (.inl h2)])
                    clear h2
                    go_wp2
                    go_round
                    case rel => exact ⟨k + 1, k + 1, out, by omega, by omega, rfl, by go_num, by go_num, by have := HN.out; rw [HJ.out] at this; exact this⟩
                    case measure => simp [RowKit.intOf]; omega
                  · have b2 : (str p).toList.isEmpty = false := by rw [str_empty]; simpa using h2
                    by_cases h3 : p = [46]
                    · have b3 : ((str p).toList == [46]) = true := by rw [str_is]; simpa using h3
                      have HJ : Hid (joinP out p = out) := Lib.hid (by unfold joinP; rw [if_pos (.inr h3)])
                      clear h2 h3
                      go_wp2
                      go_round
                      case rel => exact ⟨k + 1, k + 1, out, by omega, by omega, rfl, by go_num, by go_num, by have := HN.out; rw [HJ.out] at this; exact this⟩
                      case measure => simp [RowKit.intOf]; omega
                    · have b3 : ((str p).toList == [46]) = false := by rw [str_is]; simpa using h3
                      by_cases h4 : out = []
                      · have b4 : (str out).toList.isEmpty = true := by rw [str_empty]; simpa using h4
                        have HJ : Hid (str out ++ str p = str (joinP out p)) := Lib.hid (by unfold joinP; rw [if_neg (fun h => h.elim h2 h3), if_pos h4, str_app, h4]; rfl)
                        clear h2 h3 h4
                        go_wp2
                        go_round
                        case rel => exact ⟨k + 1, k + 1, joinP out p, by omega, by omega, by rw [← HJ.out], by go_num, by go_num, HN⟩
                        case measure => simp [RowKit.intOf]; omega
                      · have b4 : (str out).toList.isEmpty = false := by rw [str_empty]; simpa using h4
                        have HJ : Hid (str out ++ ⟨#[47]⟩ ++ str p = str (joinP out p)) := Lib.hid (by unfold joinP; rw [if_neg (fun h => h.elim h2 h3), if_neg h4, show (⟨#[47]⟩ : ByteArray) = str [47] from rfl, str_app, str_app]; simp)
                        clear h2 h3 h4
                        go_wp2
                        go_round
                        case rel => exact ⟨k + 1, k + 1, joinP out p, by omega, by omega, by rw [← HJ.out], by go_num, by go_num, HN⟩
                        case measure => simp [RowKit.intOf]; omega
              · have hcb2 : (((s[k]).toNat : Int) == 47) = false := by
                  have : ¬ (s[k]).toNat = 47 := fun e => hc (UInt8.toNat_inj.1 e)
                  simp; omega
                have HN : Hid (CRel s G (k + 1) a out) := Lib.hid ⟨HX.out.1, .inl ⟨by omega, hks, fun j h1 h2 => by
                  rcases Nat.lt_succ_iff_lt_or_eq.1 h2 with h3 | rfl
                  · exact HX.out.2.1 j h1 h3
                  · rw [← hxg]; exact hc, HX.out.2.2⟩⟩
                clear hxg hc
                go_wp2
                go_round
                case rel => exact ⟨a, k + 1, out, by omega, by omega, rfl, rfl, by go_num, HN⟩
                case measure => simp [RowKit.intOf]; omega
            · have he : k = s.size ∨ s.data.toList.getD k 0 = 47 := .inl (by omega)
              obtain ⟨p, hp⟩ : ∃ p, p = (s.data.toList.drop a).take (k - a) := ⟨_, rfl⟩
              obtain ⟨n1, n2⟩ := crel_next s G k a out p HX.out.1 hak hlt HX.out.2.1 HX.out.2.2 hp he
              have hext : s.extract a k = str p := by rw [str_ext, hp]
              have hss : (str out).size + 1 + (str p).size ≤ 9223372036854775807 := by
                rw [str_size, str_size, hp, part_size _ _ _ (by rw [← size_of]; exact hlt) hak]
                have := HX.out.1
                omega
              have hss1 : (str out).size + 1 ≤ 9223372036854775807 := by omega
              have hss2 : (str out ++ ⟨#[47]⟩).size + (str p).size ≤ 9223372036854775807 := by rw [ByteArray.size_append]; exact hss
              have hss3 : (str out).size + (str p).size ≤ 9223372036854775807 := by omega
              clear hp he
              by_cases h1 : p = [46, 46]
              · have b1 : ((str p).toList == [46, 46]) = true := by rw [str_is]; simpa using h1
                have hR := HR.out
                rw [n1 h1] at hR
                simp only at hR
                subst hR
                clear h1 n1 n2
                go_wp2
                go_ret2
                exact ⟨rfl, rfl⟩
              · have b1 : ((str p).toList == [46, 46]) = false := by rw [str_is]; simpa using h1
                have HN := Lib.hid (n2 h1)
                clear h1 n1 n2
                by_cases h2 : p = []
                · have b2 : (str p).toList.isEmpty = true := by rw [str_empty]; simpa using h2
                  have HJ : Hid (joinP out p = out) := Lib.hid (by unfold joinP; rw [if_pos (.inl h2)])
                  clear h2
                  go_wp2
                  go_round
                  case rel => exact ⟨k + 1, k + 1, out, by omega, by omega, rfl, by go_num, by go_num, by have := HN.out; rw [HJ.out] at this; exact this⟩
                  case measure => simp [RowKit.intOf]; omega
                · have b2 : (str p).toList.isEmpty = false := by rw [str_empty]; simpa using h2
                  by_cases h3 : p = [46]
                  · have b3 : ((str p).toList == [46]) = true := by rw [str_is]; simpa using h3
                    have HJ : Hid (joinP out p = out) := Lib.hid (by unfold joinP; rw [if_pos (.inr h3)])
                    clear h2 h3
                    go_wp2
                    go_round
                    case rel => exact ⟨k + 1, k + 1, out, by omega, by omega, rfl, by go_num, by go_num, by have := HN.out; rw [HJ.out] at this; exact this⟩
                    case measure => simp [RowKit.intOf]; omega
                  · have b3 : ((str p).toList == [46]) = false := by rw [str_is]; simpa using h3
                    by_cases h4 : out = []
                    · have b4 : (str out).toList.isEmpty = true := by rw [str_empty]; simpa using h4
                      have HJ : Hid (str out ++ str p = str (joinP out p)) := Lib.hid (by unfold joinP; rw [if_neg (fun h => h.elim h2 h3), if_pos h4, str_app, h4]; rfl)
                      clear h2 h3 h4
                      go_wp2
                      go_round
                      case rel => exact ⟨k + 1, k + 1, joinP out p, by omega, by omega, by rw [← HJ.out], by go_num, by go_num, HN⟩
                      case measure => simp [RowKit.intOf]; omega
                    · have b4 : (str out).toList.isEmpty = false := by rw [str_empty]; simpa using h4
                      have HJ : Hid (str out ++ ⟨#[47]⟩ ++ str p = str (joinP out p)) := Lib.hid (by unfold joinP; rw [if_neg (fun h => h.elim h2 h3), if_neg h4, show (⟨#[47]⟩ : ByteArray) = str [47] from rfl, str_app, str_app]; simp)
                      clear h2 h3 h4
                      go_wp2
                      go_round
                      case rel => exact ⟨k + 1, k + 1, joinP out p, by omega, by omega, by rw [← HJ.out], by go_num, by go_num, HN⟩
                      case measure => simp [RowKit.intOf]; omega
          · obtain rfl : k = s.size + 1 := by omega
            have hl : ¬ (((s.size + 1 : Nat) : Int) ≤ (s.size : Int)) := by omega
            have hG : G = some out := by
              obtain ⟨h1, ⟨_, h2, _⟩ | ⟨_, _, h2⟩⟩ := hr.out
              · omega
              · exact h2
            have hR := HR.out
            rw [hG] at hR
            simp only at hR
            obtain ⟨n, hn⟩ : ∃ n, (str out).size = n := ⟨_, rfl⟩
            have hn' : n = out.length := by rw [← hn, str_size]
            by_cases ho : out = []
            · have hb1 : (str out).toList.isEmpty = true := by rw [str_empty]; simpa using ho
              rw [if_pos (.inl ho)] at hR
              subst hR
              clear ho hG hn' hr
              go_wp2
              go_ret2
              exact ⟨rfl, rfl⟩
            · have hb1 : (str out).toList.isEmpty = false := by rw [str_empty]; simpa using ho
              by_cases h2 : 200 < out.length
              · have hb2 : (200 : Int) < (n : Int) := by omega
                rw [if_pos (.inr h2)] at hR
                subst hR
                clear ho hG hn' hr h2
                go_wp2
                go_ret2
                exact ⟨rfl, rfl⟩
              · have hb2 : ¬ (200 : Int) < (n : Int) := by omega
                rw [if_neg (fun h => h.elim ho h2)] at hR
                subst hR
                clear ho hG hn' hr h2
                go_wp2
                go_ret2
                exact ⟨rfl, rfl⟩
end Go.Proofs.YtdjedimjhogdoaaGreatDoor.Path
end
section
namespace Go.Proofs.YtdjedimjhogdoaaGreatDoor.Path
open Go.ChangeShapes Go.WideShapes Go.ChangeAt Go.RowKit Go.Proofs.YtdjedimjhogdoaaGreatDoor.Base Go.Proofs.YtdjedimjhogdoaaGreatDoor.Byt Go.Proofs.YtdjedimjhogdoaaGreatDoor.Txt Go.Lib Go.Proofs.YtdjedimjhogdoaaGreatDoor.Num
set_option linter.unusedVariables false
set_option maxRecDepth 100000

theorem clean_of (l a : List UInt8) (e : Int) (h : cleanD 9 6 l = (a, e)) (hm : l.length ≤ 1000000000000) (w : World) (hT : Tabs w) :
    Calls Tryz.prog 60 #[.string (str l)] w fun r w' => r = .returned (.tuple #[.string (str a), .int .i64 e]) ∧ Below w.heap.size w w' := by
  have := clean_any l w hm hT
  rwa [h] at this
theorem target_of (l : List UInt8) (e : Int) (h : targetD 9 6 l = e) (hm : l.length ≤ 1000000000000) (w : World) (hT : Tabs w) :
    Calls Tryz.prog 92 #[.string (str l)] w fun r w' => r = .returned (.int .i64 e) ∧ Below w.heap.size w w' := by
  have := target_any l w hm hT
  rwa [h] at this
end Go.Proofs.YtdjedimjhogdoaaGreatDoor.Path
end
section
namespace Go.Proofs.YtdjedimjhogdoaaGreatDoor.Mem
open Go.ChangeShapes Go.WideShapes Go.ChangeAt Go.RowKit Go.Proofs.YtdjedimjhogdoaaGreatDoor.Base Go.Proofs.YtdjedimjhogdoaaGreatDoor.Byt Go.Proofs.YtdjedimjhogdoaaGreatDoor.Txt Go.Proofs.YtdjedimjhogdoaaGreatDoor.Bk Go.Proofs.YtdjedimjhogdoaaGreatDoor.Hp Go.Proofs.YtdjedimjhogdoaaGreatDoor.Head Go.Proofs.YtdjedimjhogdoaaGreatDoor.Num Go.Proofs.YtdjedimjhogdoaaGreatDoor.Path Go.Lib
set_option linter.unusedVariables false
set_option maxRecDepth 100000

theorem u8_lit (k : UInt8) (n : Nat) (hn : n < 256) : ((k.toNat : Int) = (n : Int)) ↔ k = UInt8.ofNat n := by
  constructor
  · intro h
    apply UInt8.toNat.inj
    rw [UInt8.toNat_ofNat']
    omega
  · rintro rfl
    rw [UInt8.toNat_ofNat']
    omega
theorem known_any (k : UInt8) (w : World) :
    Calls Tryz.prog 40 #[.int .u8 (k.toNat : Int)] w fun e w' => e = .returned (.bool (knownD k)) ∧ w = w' := by
  have hb := k.toNat_lt
  have e0 : (k.toNat : Int) = 48 ↔ k = 48 := u8_lit k 48 (by decide)
  have e1 : (k.toNat : Int) = 49 ↔ k = 49 := u8_lit k 49 (by decide)
  have e2 : (k.toNat : Int) = 50 ↔ k = 50 := u8_lit k 50 (by decide)
  have e3 : (k.toNat : Int) = 53 ↔ k = 53 := u8_lit k 53 (by decide)
  obtain ⟨r, hr⟩ : ∃ r, knownD k = r := ⟨_, rfl⟩
  rw [hr]
  unfold knownD at hr
  obtain ⟨x, hx⟩ : ∃ x : Int, x = (k.toNat : Int) := ⟨_, rfl⟩
  rw [← hx] at e0 e1 e2 e3 ⊢
  by_cases h0 : x = 48
  · obtain rfl : r = true := by rw [← hr]; simp [e0.1 h0]
    clear e0 e1 e2 e3 hr hx hb
    subst h0
    go_enter Tryz.func40, Tryz.ntmps40
    go_wp2
    go_ret
    exact ⟨rfl, rfl⟩
  · by_cases h1 : x = 49
    · obtain rfl : r = true := by rw [← hr]; simp [e1.1 h1]
      clear e0 e1 e2 e3 hr hx hb
      subst h1
      go_enter Tryz.func40, Tryz.ntmps40
      go_wp2
      go_ret
      exact ⟨rfl, rfl⟩
    · by_cases h2 : x = 50
      · obtain rfl : r = true := by rw [← hr]; simp [e2.1 h2]
        clear e0 e1 e2 e3 hr hx hb
        subst h2
        go_enter Tryz.func40, Tryz.ntmps40
        go_wp2
        go_ret
        exact ⟨rfl, rfl⟩
      · by_cases h3 : x = 53
        · obtain rfl : r = true := by rw [← hr]; simp [e3.1 h3]
          clear e0 e1 e2 e3 hr hx hb
          subst h3
          go_enter Tryz.func40, Tryz.ntmps40
          go_wp2
          go_ret
          exact ⟨rfl, rfl⟩
        · obtain rfl : r = false := by
            rw [← hr]
            have a0 : ¬ k = 48 := fun h => h0 (e0.2 h)
            have a1 : ¬ k = 49 := fun h => h1 (e1.2 h)
            have a2 : ¬ k = 50 := fun h => h2 (e2.2 h)
            have a3 : ¬ k = 53 := fun h => h3 (e3.2 h)
            simp [a0, a1, a2, a3]
          clear e0 e1 e2 e3 hr hx hb
          go_enter Tryz.func40, Tryz.ntmps40
          go_wp2
          go_ret
          exact ⟨rfl, rfl⟩
theorem size_any (k : UInt8) (n : Int) (w : World) :
    Calls Tryz.prog 63 #[.int .u8 (k.toNat : Int), .int .i64 n] w fun e w' => e = .returned (.int .i64 (sizeD k n)) ∧ w = w' := by
  have hb := k.toNat_lt
  have e0 : (k.toNat : Int) = 48 ↔ k = 48 := u8_lit k 48 (by decide)
  obtain ⟨r, hr⟩ : ∃ r, sizeD k n = r := ⟨_, rfl⟩
  rw [hr]
  unfold sizeD at hr
  obtain ⟨x, hx⟩ : ∃ x : Int, x = (k.toNat : Int) := ⟨_, rfl⟩
  rw [← hx] at e0 ⊢
  by_cases h0 : x = 48
  · have hk : k = 48 := e0.1 h0
    rw [if_neg (by simp [hk])] at hr
    by_cases h1 : 1048576 < n
    · rw [if_pos h1] at hr
      subst hr
      clear e0 hx hb
      subst h0
      go_enter Tryz.func63, Tryz.ntmps63
      go_wp2
      go_ret
      exact ⟨rfl, rfl⟩
    · rw [if_neg h1] at hr
      subst hr
      clear e0 hx hb
      subst h0
      go_enter Tryz.func63, Tryz.ntmps63
      go_wp2
      go_ret
      exact ⟨rfl, rfl⟩
  · have hk : ¬ k = 48 := fun h => h0 (e0.2 h)
    by_cases hn : n = 0
    · subst hn
      rw [if_neg (by simp), if_neg (by omega)] at hr
      subst hr
      clear e0 hx hb
      go_enter Tryz.func63, Tryz.ntmps63
      go_wp2
      go_ret
      exact ⟨rfl, rfl⟩
    · rw [if_pos ⟨hk, hn⟩] at hr
      subst hr
      clear e0 hx hb
      have b0 : (x != 48) = true := by simpa using h0
      have bn : (n != 0) = true := by simpa using hn
      go_enter Tryz.func63, Tryz.ntmps63
      go_wp2
      go_ret
      exact ⟨rfl, rfl⟩
theorem inBounds_any (a b c d : Int) (w : World) :
    Calls Tryz.prog 61 #[.agg #[.int .i64 a, .int .i64 b, .int .i64 c, .int .i64 d]] w fun e w' => e = .returned (.bool (metaOk a b c d)) ∧ Below w.heap.size w w' := by
  obtain ⟨r, hr⟩ : ∃ r, metaOk a b c d = r := ⟨_, rfl⟩
  rw [hr]
  unfold metaOk at hr
  have hb := (Below.refl w.heap.size w).alloc (Nat.le_refl _) (.cells #[.int .i64 a, .int .i64 b, .int .i64 c, .int .i64 d] 35)
  have HB := Lib.hid hb
  clear hb
  by_cases h1 : 0 ≤ a ∧ a ≤ 4095
  · by_cases h2 : 0 ≤ b ∧ b ≤ 2147483647
    · by_cases h3 : 0 ≤ c ∧ c ≤ 2147483647
      · by_cases h4 : 0 ≤ d ∧ d ≤ 1099511627776
        · obtain rfl : r = true := by rw [← hr]; simp only [decide_eq_true_eq]; omega
          clear hr
          go_enter Tryz.func61, Tryz.ntmps61
          go_wp2_with (go_at_call 91; refine (in_yes _ _ _ _ (by omega) (by omega)).mono ?_; rintro e w' ⟨rfl, rfl⟩)
          go_ret
          exact ⟨rfl, HB.out⟩
        · obtain rfl : r = false := by rw [← hr]; simp only [decide_eq_false_iff_not]; omega
          clear hr
          go_enter Tryz.func61, Tryz.ntmps61
          go_wp2_with (go_at_call 91; first | (refine (in_yes _ _ _ _ (by omega) (by omega)).mono ?_; rintro e w' ⟨rfl, rfl⟩) | (refine (in_no _ _ _ _ (by omega)).mono ?_; rintro e w' ⟨rfl, rfl⟩))
          go_ret
          exact ⟨rfl, HB.out⟩
      · obtain rfl : r = false := by rw [← hr]; simp only [decide_eq_false_iff_not]; omega
        clear hr
        go_enter Tryz.func61, Tryz.ntmps61
        go_wp2_with (go_at_call 91; first | (refine (in_yes _ _ _ _ (by omega) (by omega)).mono ?_; rintro e w' ⟨rfl, rfl⟩) | (refine (in_no _ _ _ _ (by omega)).mono ?_; rintro e w' ⟨rfl, rfl⟩))
        go_ret
        exact ⟨rfl, HB.out⟩
    · obtain rfl : r = false := by rw [← hr]; simp only [decide_eq_false_iff_not]; omega
      clear hr
      go_enter Tryz.func61, Tryz.ntmps61
      go_wp2_with (go_at_call 91; first | (refine (in_yes _ _ _ _ (by omega) (by omega)).mono ?_; rintro e w' ⟨rfl, rfl⟩) | (refine (in_no _ _ _ _ (by omega)).mono ?_; rintro e w' ⟨rfl, rfl⟩))
      go_ret
      exact ⟨rfl, HB.out⟩
  · obtain rfl : r = false := by rw [← hr]; simp only [decide_eq_false_iff_not]; omega
    clear hr
    go_enter Tryz.func61, Tryz.ntmps61
    go_wp2_with (go_at_call 91; first | (refine (in_yes _ _ _ _ (by omega) (by omega)).mono ?_; rintro e w' ⟨rfl, rfl⟩) | (refine (in_no _ _ _ _ (by omega)).mono ?_; rintro e w' ⟨rfl, rfl⟩))
    go_ret
    exact ⟨rfl, HB.out⟩
theorem goal_any (k : UInt8) (l : List UInt8) (w : World) (hm : l.length ≤ 1000000000000) (hT : Tabs w) :
    Calls Tryz.prog 62 #[.int .u8 (k.toNat : Int), .string (str l)] w fun e w' => e = .returned (.tuple #[.string (str (goalD k l).1), .int .i64 (goalD k l).2]) ∧ Below w.heap.size w w' := by
  have hC := clean_any l w hm hT
  have hG := target_any l w hm hT
  have e1 : (k.toNat : Int) = 49 ↔ k = 49 := u8_lit k 49 (by decide)
  have e2 : (k.toNat : Int) = 50 ↔ k = 50 := u8_lit k 50 (by decide)
  unfold goalD
  obtain ⟨x, hx⟩ : ∃ x : Int, x = (k.toNat : Int) := ⟨_, rfl⟩
  rw [← hx] at e1 e2 ⊢
  by_cases h1 : x = 49
  · rw [if_pos (e1.1 h1)]
    clear e1 e2 hx
    subst h1
    go_enter Tryz.func62, Tryz.ntmps62
    go_wp2_with (go_at_call 60; refine hC.mono ?_; rintro e w1 ⟨rfl, hb⟩)
    go_ret2
    exact ⟨rfl, hb⟩
  · rw [if_neg (fun h => h1 (e1.2 h))]
    by_cases h2 : x = 50
    · rw [if_pos (e2.1 h2)]
      clear e1 e2 hx
      subst h2
      go_enter Tryz.func62, Tryz.ntmps62
      go_wp2_with (go_at_call 92; refine hG.mono ?_; rintro e w1 ⟨rfl, hb⟩)
      go_ret2
      exact ⟨rfl, hb⟩
    · rw [if_neg (fun h => h2 (e2.2 h))]
      clear e1 e2 hx
      go_enter Tryz.func62, Tryz.ntmps62
      go_wp2
      go_ret2
      exact ⟨rfl, Below.refl _ _⟩
end Go.Proofs.YtdjedimjhogdoaaGreatDoor.Mem
end
section
namespace Go.Proofs.YtdjedimjhogdoaaGreatDoor.Mem
open Go.ChangeShapes Go.WideShapes Go.ChangeAt Go.RowKit Go.Proofs.YtdjedimjhogdoaaGreatDoor.Base Go.Proofs.YtdjedimjhogdoaaGreatDoor.Byt Go.Proofs.YtdjedimjhogdoaaGreatDoor.Txt Go.Proofs.YtdjedimjhogdoaaGreatDoor.Bk Go.Proofs.YtdjedimjhogdoaaGreatDoor.Hp Go.Proofs.YtdjedimjhogdoaaGreatDoor.Head Go.Proofs.YtdjedimjhogdoaaGreatDoor.Num Go.Proofs.YtdjedimjhogdoaaGreatDoor.Path Go.Lib
set_option linter.unusedVariables false
set_option maxRecDepth 100000

theorem load_mem (w : World) (g : Nat) (a b : ByteArray) (k m u i t : Int) (p : Option Addr) (n c : Nat) (h : Blk w g 37 #[.string a, .string b, .int .u8 k, .int .i64 m, .int .i64 u, .int .i64 i, .int .i64 t, .slice p n c]) :
    (loadVar 37 ⟨g, 0, none⟩).run Tryz.prog w = .ok (.agg #[.string a, .string b, .int .u8 k, .int .i64 m, .int .i64 u, .int .i64 i, .int .i64 t, .slice p n c]) w := by
  have c0 := h.cell 0
  have c1 := h.cell 1
  have c2 := h.cell 2
  have c3 := h.cell 3
  have c4 := h.cell 4
  have c5 := h.cell 5
  have c6 := h.cell 6
  have c7 := h.cell 7
  clear h
  go_simp
theorem ret_memB {fn : Func} (hf : fn.results = #[.cell 2 37, .tmp 3]) (tmps : Array Value) (w : World) (g : Nat) (v : Value) (ht : tmps.getD 2 undef = .pointer (some ⟨g, 0, none⟩)) (hv : tmps.getD 3 undef = v)
    (m : MemV) (p : Option Addr) (c : Nat) (hb : Blk w g 37 (memC m p c)) : (results fn tmps).run Tryz.prog w = .ok (.tuple #[.agg (memC m p c), v]) w := by
  rw [results_cell_tmp hf, ht, hv]
  have hl := load_mem w g _ _ _ _ _ _ _ _ _ _ hb
  simp only [asAddr, Sem.run_pure, hl, Result.andThen]
  rfl
theorem blk8 {w : World} {g : Nat} {m : MemV} {p : Option Addr} {c : Nat} (hb : Blk w g 37 (memC m p c)) (a0 a1 a2 a3 a4 a5 a6 a7 : Value) :
    Blk ((((((((w.setCell ⟨g, 0, none⟩ a0).setCell ⟨g, 1, none⟩ a1).setCell ⟨g, 2, none⟩ a2).setCell ⟨g, 3, none⟩ a3).setCell ⟨g, 4, none⟩ a4).setCell ⟨g, 5, none⟩ a5).setCell ⟨g, 6, none⟩ a6).setCell ⟨g, 7, none⟩ a7) g 37 #[a0, a1, a2, a3, a4, a5, a6, a7] :=
  (((((((hb.set 0 a0 (by show 0 < 8; decide)).set 1 a1 (by show 1 < 8; decide)).set 2 a2 (by show 2 < 8; decide)).set 3 a3 (by show 3 < 8; decide)).set 4 a4 (by show 4 < 8; decide)).set 5 a5 (by show 5 < 8; decide)).set 6 a6 (by show 6 < 8; decide)).set 7 a7 (by show 7 < 8; decide)
theorem below8 {w w' : World} {g : Nat} (hk : Below w.heap.size w w') (hg : w.heap.size ≤ g) (a0 a1 a2 a3 a4 a5 a6 a7 : Value) :
    Below w.heap.size w ((((((((w'.setCell ⟨g, 0, none⟩ a0).setCell ⟨g, 1, none⟩ a1).setCell ⟨g, 2, none⟩ a2).setCell ⟨g, 3, none⟩ a3).setCell ⟨g, 4, none⟩ a4).setCell ⟨g, 5, none⟩ a5).setCell ⟨g, 6, none⟩ a6).setCell ⟨g, 7, none⟩ a7) :=
  ((((((((hk.setCell (p := ⟨g, 0, none⟩) hg a0).setCell (p := ⟨g, 1, none⟩) hg a1).setCell (p := ⟨g, 2, none⟩) hg a2).setCell (p := ⟨g, 3, none⟩) hg a3).setCell (p := ⟨g, 4, none⟩) hg a4).setCell (p := ⟨g, 5, none⟩) hg a5).setCell (p := ⟨g, 6, none⟩) hg a6).setCell (p := ⟨g, 7, none⟩) hg a7)
/-- what a step keeps: the head's block, the answer's as it was -/
def FMid (w wi : World) (h : HeadV) : Prop := Below w.heap.size w wi ∧ Blk wi w.heap.size 57 (headC h) ∧ Blk wi (w.heap.size + 1) 37 (memC noM none 0)
theorem FMid.below {w wi wj : World} {h : HeadV} (hm : FMid w wi h) (hb : Below wi.heap.size wi wj) : FMid w wj h :=
  ⟨hm.1.trans (hb.mono hm.1.size), hm.2.1.below hb hm.2.1.lt, hm.2.2.below hb hm.2.2.lt⟩
set_option maxHeartbeats 4000000 in
theorem fromHead_any (h : HeadV) (w : World) (h1 : h.name.length ≤ 1000000000000) (h2 : h.link.length ≤ 1000000000000) (hT : Tabs w) :
    Calls Tryz.prog 41 #[.agg (headC h)] w fun e w' => e = .returned (.tuple #[.agg (memC (fromD h).1 none 0), .int .i64 (fromD h).2]) ∧ Below w.heap.size w w' := by
  obtain ⟨⟨cp, ce⟩, hc⟩ : ∃ x, cleanD 9 6 h.name = x := ⟨_, rfl⟩
  obtain ⟨⟨gp, ge⟩, hg⟩ : ∃ x, goalD h.kind h.link = x := ⟨_, rfl⟩
  obtain ⟨mo, hmo⟩ : ∃ x, metaOk h.mode h.uid h.gid h.time = x := ⟨_, rfl⟩
  obtain ⟨sz, hsz⟩ : ∃ x, sizeD h.kind h.size = x := ⟨_, rfl⟩
  have CC : Hid (∀ wi, Below w.heap.size w wi → Calls Tryz.prog 60 #[.string (str h.name)] wi fun e w' => e = .returned (.tuple #[.string (str cp), .int .i64 ce]) ∧ Below wi.heap.size wi w') :=
    Lib.hid (fun wi hb => by have := clean_any h.name wi h1 (hT.below hb); rwa [hc] at this)
  have CM : Hid (∀ wi, Calls Tryz.prog 61 #[.agg #[.int .i64 h.mode, .int .i64 h.uid, .int .i64 h.gid, .int .i64 h.time]] wi fun e w' => e = .returned (.bool mo) ∧ Below wi.heap.size wi w') :=
    Lib.hid (fun wi => by have := inBounds_any h.mode h.uid h.gid h.time wi; rwa [hmo] at this)
  have CG : Hid (∀ wi, Below w.heap.size w wi → Calls Tryz.prog 62 #[.int .u8 (h.kind.toNat : Int), .string (str h.link)] wi fun e w' => e = .returned (.tuple #[.string (str gp), .int .i64 ge]) ∧ Below wi.heap.size wi w') :=
    Lib.hid (fun wi hb => by have := goal_any h.kind h.link wi h2 (hT.below hb); rwa [hg] at this)
  have CS : Hid (∀ wi, Calls Tryz.prog 63 #[.int .u8 (h.kind.toNat : Int), .int .i64 h.size] wi fun e w' => e = .returned (.int .i64 sz) ∧ wi = w') :=
    Lib.hid (fun wi => by have := size_any h.kind h.size wi; rwa [hsz] at this)
  obtain ⟨U, hU⟩ : ∃ U, fromD h = U := ⟨_, rfl⟩
  rw [hU]
  have HE : Hid (U = if ce ≠ 0 then (noM, ce) else if mo = false then (noM, 4) else if ge ≠ 0 then (noM, ge) else if sz ≠ 0 then (noM, sz) else (⟨cp, gp, h.kind, h.mode, h.uid, h.gid, h.time, []⟩, 0)) :=
    Lib.hid (by rw [← hU]; unfold fromD; rw [hc, hg, hmo, hsz])
  clear h1 h2 hT hU hc hg hmo hsz
  have HM0 : Hid (FMid w ((w.alloc (.cells (headC h) 57)).alloc (.cells (memC noM none 0) 37)) h) := by
    have b1 := Blk.new (w.alloc (.cells (headC h) 57)) 37 (memC noM none 0)
    rw [World.size_alloc] at b1
    exact Lib.hid ⟨((Below.refl _ w).alloc (Nat.le_refl _) _).alloc (by simp) _, (Blk.new w 57 (headC h)).alloc _, b1⟩
  obtain ⟨kn, hkn⟩ : ∃ kn : Int, (h.kind.toNat : Int) = kn := ⟨_, rfl⟩
  have HKN := Lib.hid hkn
  simp only [headC, hkn] at HM0 ⊢
  rw [hkn] at CG CS
  clear hkn
  by_cases a1 : ce = 0
  · subst a1
    cases mo with
    | false =>
      have E : Hid (U = (noM, 4)) := Lib.hid (by rw [HE.out]; simp)
      go_enter Tryz.func41, Tryz.ntmps41
      go_wp2_with fail
      refine (CC.out _ HM0.out.1).mono ?_
      rintro e w1 ⟨rfl, hb⟩
      have HM1 := Lib.hid (HM0.out.below hb)
      clear hb HM0
      have b1 := HM1.out.2.1
      have x3 := b1.cell 3
      have x4 := b1.cell 4
      have x5 := b1.cell 5
      have x6 := b1.cell 6
      simp only [headC, List.getElem?_toArray, List.getElem?_cons_zero, List.getElem?_cons_succ] at x3 x4 x5 x6
      clear b1
      go_wp2_with fail
      refine (CM.out _).mono ?_
      rintro e w2 ⟨rfl, hb⟩
      have HM2 := Lib.hid (HM1.out.below hb)
      clear hb HM1 x3 x4 x5 x6
      have b2 := HM2.out.2.2
      have r0 := b2.cell 0
      have f0 := b2.frozen 0
      have r1 := b2.cell 1
      have f1 := b2.frozen 1
      have r2 := b2.cell 2
      have f2 := b2.frozen 2
      have r3 := b2.cell 3
      have f3 := b2.frozen 3
      have r4 := b2.cell 4
      have f4 := b2.frozen 4
      have r5 := b2.cell 5
      have f5 := b2.frozen 5
      have r6 := b2.cell 6
      have f6 := b2.frozen 6
      have r7 := b2.cell 7
      have f7 := b2.frozen 7
      simp only [memC, noM, List.getElem?_toArray, List.getElem?_cons_zero, List.getElem?_cons_succ] at r0 r1 r2 r3 r4 r5 r6 r7
      clear b2
      go_wp2
      refine bodyPost_ret (ret_memB rfl _ _ (w.heap.size + 1) _ rfl rfl noM none 0 (blk8 HM2.out.2.2 _ _ _ _ _ _ _ _)) rfl ?_
      exact ⟨by rw [E.out]; rfl, below8 HM2.out.1 (by omega) _ _ _ _ _ _ _ _⟩
    | true =>
      by_cases a2 : ge = 0
      · subst a2
        by_cases a3 : sz = 0
        · subst a3
          have E : Hid (U = (⟨cp, gp, h.kind, h.mode, h.uid, h.gid, h.time, []⟩, 0)) := Lib.hid (by rw [HE.out]; simp)
          go_enter Tryz.func41, Tryz.ntmps41
          go_wp2_with fail
          refine (CC.out _ HM0.out.1).mono ?_
          rintro e w1 ⟨rfl, hb⟩
          have HM1 := Lib.hid (HM0.out.below hb)
          clear hb HM0
          have b1 := HM1.out.2.1
          have x3 := b1.cell 3
          have x4 := b1.cell 4
          have x5 := b1.cell 5
          have x6 := b1.cell 6
          simp only [headC, List.getElem?_toArray, List.getElem?_cons_zero, List.getElem?_cons_succ] at x3 x4 x5 x6
          clear b1
          go_wp2_with fail
          refine (CM.out _).mono ?_
          rintro e w2 ⟨rfl, hb⟩
          have HM2 := Lib.hid (HM1.out.below hb)
          clear hb HM1 x3 x4 x5 x6
          have b1 := HM2.out.2.1
          have x1 := b1.cell 1
          have x2 := b1.cell 2
          simp only [headC, List.getElem?_toArray, List.getElem?_cons_zero, List.getElem?_cons_succ, HKN.out] at x1 x2
          clear b1
          go_wp2_with fail
          refine (CG.out _ HM2.out.1).mono ?_
          rintro e w3 ⟨rfl, hb⟩
          have HM3 := Lib.hid (HM2.out.below hb)
          clear hb HM2 x1 x2
          have b1 := HM3.out.2.1
          have x2 := b1.cell 2
          have x7 := b1.cell 7
          simp only [headC, List.getElem?_toArray, List.getElem?_cons_zero, List.getElem?_cons_succ, HKN.out] at x2 x7
          clear b1
          go_wp2_with fail
          refine (CS.out _).mono ?_
          rintro e w4 ⟨rfl, rfl⟩
          clear x2 x7
          have b1 := HM3.out.2.1
          have x2 := b1.cell 2
          have x3 := b1.cell 3
          have x4 := b1.cell 4
          have x5 := b1.cell 5
          have x6 := b1.cell 6
          simp only [headC, List.getElem?_toArray, List.getElem?_cons_zero, List.getElem?_cons_succ, HKN.out] at x2 x3 x4 x5 x6
          clear b1
          have hkk := HKN.out
          subst hkk
          have b2 := HM3.out.2.2
          have r0 := b2.cell 0
          have f0 := b2.frozen 0
          have r1 := b2.cell 1
          have f1 := b2.frozen 1
          have r2 := b2.cell 2
          have f2 := b2.frozen 2
          have r3 := b2.cell 3
          have f3 := b2.frozen 3
          have r4 := b2.cell 4
          have f4 := b2.frozen 4
          have r5 := b2.cell 5
          have f5 := b2.frozen 5
          have r6 := b2.cell 6
          have f6 := b2.frozen 6
          have r7 := b2.cell 7
          have f7 := b2.frozen 7
          simp only [memC, noM, List.getElem?_toArray, List.getElem?_cons_zero, List.getElem?_cons_succ] at r0 r1 r2 r3 r4 r5 r6 r7
          clear b2
          go_wp2
          refine bodyPost_ret (ret_memB rfl _ _ (w.heap.size + 1) _ rfl rfl ⟨cp, gp, h.kind, h.mode, h.uid, h.gid, h.time, []⟩ none 0 (blk8 HM3.out.2.2 _ _ _ _ _ _ _ _)) rfl ?_
          exact ⟨by rw [E.out]; rfl, below8 HM3.out.1 (by omega) _ _ _ _ _ _ _ _⟩
        · have E : Hid (U = (noM, sz)) := Lib.hid (by rw [HE.out]; simp [a3])
          go_enter Tryz.func41, Tryz.ntmps41
          go_wp2_with fail
          refine (CC.out _ HM0.out.1).mono ?_
          rintro e w1 ⟨rfl, hb⟩
          have HM1 := Lib.hid (HM0.out.below hb)
          clear hb HM0
          have b1 := HM1.out.2.1
          have x3 := b1.cell 3
          have x4 := b1.cell 4
          have x5 := b1.cell 5
          have x6 := b1.cell 6
          simp only [headC, List.getElem?_toArray, List.getElem?_cons_zero, List.getElem?_cons_succ] at x3 x4 x5 x6
          clear b1
          go_wp2_with fail
          refine (CM.out _).mono ?_
          rintro e w2 ⟨rfl, hb⟩
          have HM2 := Lib.hid (HM1.out.below hb)
          clear hb HM1 x3 x4 x5 x6
          have b1 := HM2.out.2.1
          have x1 := b1.cell 1
          have x2 := b1.cell 2
          simp only [headC, List.getElem?_toArray, List.getElem?_cons_zero, List.getElem?_cons_succ, HKN.out] at x1 x2
          clear b1
          go_wp2_with fail
          refine (CG.out _ HM2.out.1).mono ?_
          rintro e w3 ⟨rfl, hb⟩
          have HM3 := Lib.hid (HM2.out.below hb)
          clear hb HM2 x1 x2
          have b1 := HM3.out.2.1
          have x2 := b1.cell 2
          have x7 := b1.cell 7
          simp only [headC, List.getElem?_toArray, List.getElem?_cons_zero, List.getElem?_cons_succ, HKN.out] at x2 x7
          clear b1
          go_wp2_with fail
          refine (CS.out _).mono ?_
          rintro e w4 ⟨rfl, rfl⟩
          clear x2 x7
          have b2 := HM3.out.2.2
          have r0 := b2.cell 0
          have f0 := b2.frozen 0
          have r1 := b2.cell 1
          have f1 := b2.frozen 1
          have r2 := b2.cell 2
          have f2 := b2.frozen 2
          have r3 := b2.cell 3
          have f3 := b2.frozen 3
          have r4 := b2.cell 4
          have f4 := b2.frozen 4
          have r5 := b2.cell 5
          have f5 := b2.frozen 5
          have r6 := b2.cell 6
          have f6 := b2.frozen 6
          have r7 := b2.cell 7
          have f7 := b2.frozen 7
          simp only [memC, noM, List.getElem?_toArray, List.getElem?_cons_zero, List.getElem?_cons_succ] at r0 r1 r2 r3 r4 r5 r6 r7
          clear b2
          go_wp2
          refine bodyPost_ret (ret_memB rfl _ _ (w.heap.size + 1) _ rfl rfl noM none 0 (blk8 HM3.out.2.2 _ _ _ _ _ _ _ _)) rfl ?_
          exact ⟨by rw [E.out]; rfl, below8 HM3.out.1 (by omega) _ _ _ _ _ _ _ _⟩
      · have E : Hid (U = (noM, ge)) := Lib.hid (by rw [HE.out]; simp [a2])
        go_enter Tryz.func41, Tryz.ntmps41
        go_wp2_with fail
        refine (CC.out _ HM0.out.1).mono ?_
        rintro e w1 ⟨rfl, hb⟩
        have HM1 := Lib.hid (HM0.out.below hb)
        clear hb HM0
        have b1 := HM1.out.2.1
        have x3 := b1.cell 3
        have x4 := b1.cell 4
        have x5 := b1.cell 5
        have x6 := b1.cell 6
        simp only [headC, List.getElem?_toArray, List.getElem?_cons_zero, List.getElem?_cons_succ] at x3 x4 x5 x6
        clear b1
        go_wp2_with fail
        refine (CM.out _).mono ?_
        rintro e w2 ⟨rfl, hb⟩
        have HM2 := Lib.hid (HM1.out.below hb)
        clear hb HM1 x3 x4 x5 x6
        have b1 := HM2.out.2.1
        have x1 := b1.cell 1
        have x2 := b1.cell 2
        simp only [headC, List.getElem?_toArray, List.getElem?_cons_zero, List.getElem?_cons_succ, HKN.out] at x1 x2
        clear b1
        go_wp2_with fail
        refine (CG.out _ HM2.out.1).mono ?_
        rintro e w3 ⟨rfl, hb⟩
        have HM3 := Lib.hid (HM2.out.below hb)
        clear hb HM2 x1 x2
        have b2 := HM3.out.2.2
        have r0 := b2.cell 0
        have f0 := b2.frozen 0
        have r1 := b2.cell 1
        have f1 := b2.frozen 1
        have r2 := b2.cell 2
        have f2 := b2.frozen 2
        have r3 := b2.cell 3
        have f3 := b2.frozen 3
        have r4 := b2.cell 4
        have f4 := b2.frozen 4
        have r5 := b2.cell 5
        have f5 := b2.frozen 5
        have r6 := b2.cell 6
        have f6 := b2.frozen 6
        have r7 := b2.cell 7
        have f7 := b2.frozen 7
        simp only [memC, noM, List.getElem?_toArray, List.getElem?_cons_zero, List.getElem?_cons_succ] at r0 r1 r2 r3 r4 r5 r6 r7
        clear b2
        go_wp2
        refine bodyPost_ret (ret_memB rfl _ _ (w.heap.size + 1) _ rfl rfl noM none 0 (blk8 HM3.out.2.2 _ _ _ _ _ _ _ _)) rfl ?_
        exact ⟨by rw [E.out]; rfl, below8 HM3.out.1 (by omega) _ _ _ _ _ _ _ _⟩
  · have E : Hid (U = (noM, ce)) := Lib.hid (by rw [HE.out]; simp [a1])
    go_enter Tryz.func41, Tryz.ntmps41
    go_wp2_with fail
    refine (CC.out _ HM0.out.1).mono ?_
    rintro e w1 ⟨rfl, hb⟩
    have HM1 := Lib.hid (HM0.out.below hb)
    clear hb HM0
    have b2 := HM1.out.2.2
    have r0 := b2.cell 0
    have f0 := b2.frozen 0
    have r1 := b2.cell 1
    have f1 := b2.frozen 1
    have r2 := b2.cell 2
    have f2 := b2.frozen 2
    have r3 := b2.cell 3
    have f3 := b2.frozen 3
    have r4 := b2.cell 4
    have f4 := b2.frozen 4
    have r5 := b2.cell 5
    have f5 := b2.frozen 5
    have r6 := b2.cell 6
    have f6 := b2.frozen 6
    have r7 := b2.cell 7
    have f7 := b2.frozen 7
    simp only [memC, noM, List.getElem?_toArray, List.getElem?_cons_zero, List.getElem?_cons_succ] at r0 r1 r2 r3 r4 r5 r6 r7
    clear b2
    go_wp2
    refine bodyPost_ret (ret_memB rfl _ _ (w.heap.size + 1) _ rfl rfl noM none 0 (blk8 HM1.out.2.2 _ _ _ _ _ _ _ _)) rfl ?_
    exact ⟨by rw [E.out]; rfl, below8 HM1.out.1 (by omega) _ _ _ _ _ _ _ _⟩
end Go.Proofs.YtdjedimjhogdoaaGreatDoor.Mem
end
section
namespace Go.Proofs.YtdjedimjhogdoaaGreatDoor.Mem
open Go.ChangeShapes Go.WideShapes Go.ChangeAt Go.RowKit Go.Proofs.YtdjedimjhogdoaaGreatDoor.Base Go.Proofs.YtdjedimjhogdoaaGreatDoor.Byt Go.Proofs.YtdjedimjhogdoaaGreatDoor.Txt Go.Proofs.YtdjedimjhogdoaaGreatDoor.Bk Go.Proofs.YtdjedimjhogdoaaGreatDoor.Hp Go.Proofs.YtdjedimjhogdoaaGreatDoor.Head Go.Proofs.YtdjedimjhogdoaaGreatDoor.Num Go.Proofs.YtdjedimjhogdoaaGreatDoor.Path Go.Lib
set_option linter.unusedVariables false
set_option maxRecDepth 100000

theorem rmeta_any (a b c d : Int) (w : World) :
    Calls Tryz.prog 38 #[.agg #[.int .i64 a, .int .i64 b, .int .i64 c, .int .i64 d]] w fun e w' => e = .returned (.bool (metaOk a b c d)) ∧ Below w.heap.size w w' := by
  obtain ⟨r, hr⟩ : ∃ r, metaOk a b c d = r := ⟨_, rfl⟩
  rw [hr]
  unfold metaOk at hr
  have HB := Lib.hid ((Below.refl w.heap.size w).alloc (Nat.le_refl _) (.cells #[.int .i64 a, .int .i64 b, .int .i64 c, .int .i64 d] 35))
  by_cases h0 : 0 ≤ a
  · by_cases h1 : a ≤ 4095
    · by_cases h2 : 0 ≤ b
      · by_cases h3 : b < 2147483648
        · by_cases h4 : 0 ≤ c
          · by_cases h5 : c < 2147483648
            · by_cases h6 : 0 ≤ d
              · by_cases h7 : d ≤ 1099511627776
                · obtain rfl : r = true := by rw [← hr]; simp only [decide_eq_true_eq]; omega
                  clear hr
                  go_enter Tryz.func38, Tryz.ntmps38
                  go_wp2
                  go_ret
                  exact ⟨rfl, HB.out⟩
                · obtain rfl : r = false := by rw [← hr]; simp only [decide_eq_false_iff_not]; omega
                  have hd : decide (d ≤ 1099511627776) = false := by simpa using h7
                  clear hr
                  go_enter Tryz.func38, Tryz.ntmps38
                  go_wp2
                  go_ret
                  exact ⟨rfl, HB.out⟩
              · obtain rfl : r = false := by rw [← hr]; simp only [decide_eq_false_iff_not]; omega
                have hd : decide (0 ≤ d) = false := by simpa using h6
                clear hr
                go_enter Tryz.func38, Tryz.ntmps38
                go_wp2
                go_ret
                exact ⟨rfl, HB.out⟩
            · obtain rfl : r = false := by rw [← hr]; simp only [decide_eq_false_iff_not]; omega
              have hd : decide (c < 2147483648) = false := by simpa using h5
              clear hr
              go_enter Tryz.func38, Tryz.ntmps38
              go_wp2
              go_ret
              exact ⟨rfl, HB.out⟩
          · obtain rfl : r = false := by rw [← hr]; simp only [decide_eq_false_iff_not]; omega
            have hd : decide (0 ≤ c) = false := by simpa using h4
            clear hr
            go_enter Tryz.func38, Tryz.ntmps38
            go_wp2
            go_ret
            exact ⟨rfl, HB.out⟩
        · obtain rfl : r = false := by rw [← hr]; simp only [decide_eq_false_iff_not]; omega
          have hd : decide (b < 2147483648) = false := by simpa using h3
          clear hr
          go_enter Tryz.func38, Tryz.ntmps38
          go_wp2
          go_ret
          exact ⟨rfl, HB.out⟩
      · obtain rfl : r = false := by rw [← hr]; simp only [decide_eq_false_iff_not]; omega
        have hd : decide (0 ≤ b) = false := by simpa using h2
        clear hr
        go_enter Tryz.func38, Tryz.ntmps38
        go_wp2
        go_ret
        exact ⟨rfl, HB.out⟩
    · obtain rfl : r = false := by rw [← hr]; simp only [decide_eq_false_iff_not]; omega
      have hd : decide (a ≤ 4095) = false := by simpa using h1
      clear hr
      go_enter Tryz.func38, Tryz.ntmps38
      go_wp2
      go_ret
      exact ⟨rfl, HB.out⟩
  · obtain rfl : r = false := by rw [← hr]; simp only [decide_eq_false_iff_not]; omega
    have hd : decide (0 ≤ a) = false := by simpa using h0
    clear hr
    go_enter Tryz.func38, Tryz.ntmps38
    go_wp2
    go_ret
    exact ⟨rfl, HB.out⟩
theorem rtarget_any (l : List UInt8) (w : World) (hm : l.length ≤ 140737488351232) :
    Calls Tryz.prog 39 #[.string (str l)] w fun e w' => e = .returned (.int .i64 (targetD 9 6 l)) ∧ w = w' := by
  have hT := rtext_any (str l) w (by rw [str_size]; omega)
  rw [str_data] at hT
  have hs : (str l).size = l.length := str_size l
  obtain ⟨r, hr⟩ : ∃ r, targetD 9 6 l = r := ⟨_, rfl⟩
  rw [hr]
  unfold targetD at hr
  cases hx : textD l with
  | false =>
    rw [hx] at hr hT
    simp only [if_true] at hr
    subst hr
    go_enter Tryz.func39, Tryz.ntmps39
    go_wp2_with fail
    refine hT.mono ?_
    rintro e w1 ⟨rfl, rfl⟩
    go_wp2
    go_ret
    exact ⟨rfl, rfl⟩
  | true =>
    rw [hx] at hr hT
    by_cases h0 : l = []
    · subst h0
      simp at hr
      subst hr
      go_enter Tryz.func39, Tryz.ntmps39
      go_wp2_with fail
      refine hT.mono ?_
      rintro e w1 ⟨rfl, rfl⟩
      have e0 : (str []).toList.isEmpty = true := by rw [str_empty]; rfl
      go_wp2
      go_ret
      exact ⟨rfl, rfl⟩
    · have e0 : (str l).toList.isEmpty = false := by rw [str_empty]; simpa using h0
      by_cases h1 : 200 < l.length
      · have h2 : (200 : Int) < (l.length : Int) := by omega
        simp [h0, h1] at hr
        subst hr
        go_enter Tryz.func39, Tryz.ntmps39
        go_wp2_with fail
        refine hT.mono ?_
        rintro e w1 ⟨rfl, rfl⟩
        go_wp2
        go_ret
        exact ⟨rfl, rfl⟩
      · have h2 : ¬ (200 : Int) < (l.length : Int) := by omega
        simp [h0, h1] at hr
        subst hr
        go_enter Tryz.func39, Tryz.ntmps39
        go_wp2_with fail
        refine hT.mono ?_
        rintro e w1 ⟨rfl, rfl⟩
        go_wp2
        go_ret
        exact ⟨rfl, rfl⟩
theorem rcl_any (l : List UInt8) (w : World) (hm : l.length ≤ 140737488351232) :
    Calls Tryz.prog 42 #[.string (str l)] w fun e w' => e = .returned (.bool (cleanOk l)) ∧ w = w' := by
  have hC := rclean_any (str l) w (by rw [str_size]; omega)
  rw [str_data] at hC
  obtain ⟨r, hr⟩ : ∃ r, cleanOk l = r := ⟨_, rfl⟩
  rw [hr]
  unfold cleanOk at hr
  obtain ⟨⟨cp, ce⟩, hc⟩ : ∃ x, cleanD 9 6 l = x := ⟨_, rfl⟩
  rw [hc] at hC hr
  clear hc
  simp only [Prod.mk.injEq] at hr
  by_cases h0 : ce = 0
  · by_cases h1 : l = cp
    · have e1 : ((str l).toList == (str cp).toList) = true := by rw [str_toList, str_toList]; simpa using h1
      have hr' : r = true := by rw [← hr]; simp [h0, h1]
      subst h0 hr'
      clear hr h1
      go_enter Tryz.func42, Tryz.ntmps42
      go_wp2_with fail
      refine hC.mono ?_
      rintro e w1 ⟨rfl, rfl⟩
      go_wp2
      go_ret
      exact ⟨rfl, rfl⟩
    · have e1 : ((str l).toList == (str cp).toList) = false := by rw [str_toList, str_toList]; simpa using h1
      have hr' : r = false := by rw [← hr]; simp; exact fun h => absurd h.symm h1
      subst h0 hr'
      clear hr h1
      go_enter Tryz.func42, Tryz.ntmps42
      go_wp2_with fail
      refine hC.mono ?_
      rintro e w1 ⟨rfl, rfl⟩
      go_wp2
      go_ret
      exact ⟨rfl, rfl⟩
  · have e1 : (ce == 0) = false := by simpa using h0
    have hr' : r = false := by rw [← hr]; simp [h0]
    subst hr'
    clear hr
    go_enter Tryz.func42, Tryz.ntmps42
    go_wp2_with fail
    refine hC.mono ?_
    rintro e w1 ⟨rfl, rfl⟩
    go_wp2
    go_ret
    exact ⟨rfl, rfl⟩
end Go.Proofs.YtdjedimjhogdoaaGreatDoor.Mem
end
