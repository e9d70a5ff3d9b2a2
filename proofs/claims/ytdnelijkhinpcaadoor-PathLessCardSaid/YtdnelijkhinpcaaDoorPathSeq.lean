/- Layer path's parts: the iterator by its contract: the parts of a text, one by one, or a beginning of them. -/
import Derived.RangeFuncNested
import Derived.RangeFuncBound
import Derived.RangeFuncCalls
import Derived.RangeFuncLeaves
import Derived.Shelf.Abstract
import Derived.Shelf.RegionOpen
import Derived.WalkKit
import Derived.OwnWalkIn
import Derived.TacticsInMore
import Derived.LoopNIn
import Derived.LoopIn
import Derived.Test.YtdnelijkhinpcaaDoorPathRight
namespace Go.Proofs.YtdnelijkhinpcaaDoor.Path
open Go.ChangeShapes Go.WideShapes Go.ChangeAt Go.RowKit Go.Shelf Go.Proofs.YtdnelijkhinpcaaDoor.Base Go.Proofs.YtdnelijkhinpcaaDoor.Byt Go.Proofs.YtdnelijkhinpcaaDoor.Txt Go.Lib Go.Proofs.YtdnelijkhinpcaaDoor.Num
set_option linter.unusedVariables false
set_option maxRecDepth 100000
attribute [local go_sem] Oper.semAt_some

theorem abides_drewN {β : Type} {B : Nat} {J : β → World → Prop} (h : AbidesFrom B J) {s : β} {w : World} (hs : J s w) (n : Nat) : J s (w.drewN n) :=
  match n with
  | 0 => hs
  | n + 1 => h s (w.drewN n) _ none (abides_drewN h hs n) ⟨rfl, rfl, rfl, Nat.le_refl _, fun _ _ _ => rfl⟩ (fun r e => by cases e)
/-- what is left to be cut -/
def leftL (m : Bool) (l : List UInt8) : List (List UInt8) := if m then partsL l else []
theorem left_cut (l : List UInt8) : leftL true l = (cutL l).1 :: leftL (cutL l).2.2 (cutL l).2.1 := by
  unfold leftL cutL
  rw [if_pos rfl]
  obtain ⟨h1, h2⟩ := parts_cut l
  by_cases h : 0 ≤ Lib.indexByte l 47
  · rw [if_pos h, h1 h]
    simp
  · rw [if_neg h, h2 h]
    simp
theorem cut_less (l : List UInt8) : (cutL l).2.1.length + (if (cutL l).2.2 then 1 else 0) < l.length + 1 := by
  unfold cutL
  by_cases h : 0 ≤ Lib.indexByte l 47
  · rw [if_pos h]
    obtain ⟨k, hk⟩ : ∃ k : Nat, Lib.indexByte l 47 = k := ⟨(Lib.indexByte l 47).toNat, by omega⟩
    have hlt := (List.getElem?_eq_some_iff.1 (Lib.indexByte_some hk).1).1
    simp only [List.length_drop, hk, Int.toNat_natCast, if_true]
    omega
  · rw [if_neg h]
    simp
/-- how much a round has ahead of it -/
def leftN (r m : Value) : Nat := (match r with | .string s => s.size | _ => 0) + (match m with | .bool true => 1 | _ => 0)
/-- a part that is no longer than any text may be -/
abbrev Part := { x : List UInt8 // x.length ≤ 1000000000000 }
theorem parts_len (l : List UInt8) : ∀ p ∈ partsL l, p.length ≤ l.length := by
  induction l with
  | nil => simp [partsL]
  | cons b l ih =>
    unfold partsL
    by_cases hb : b = 47
    · rw [if_pos hb]
      intro p hp
      rcases List.mem_cons.1 hp with rfl | hp
      · simp
      · have := ih p hp; rw [List.length_cons]; omega
    · rw [if_neg hb]
      cases hq : partsL l with
      | nil => exact absurd hq (parts_ne l)
      | cons q qs =>
        rw [hq] at ih
        intro p hp
        rcases List.mem_cons.1 hp with rfl | hp
        · have := ih q (by simp)
          simp only [List.headD_cons, List.length_cons]
          omega
        · have := ih p (List.mem_cons_of_mem _ hp); rw [List.length_cons]; omega
theorem some_parts (s : List UInt8) (hm : s.length ≤ 1000000000000) : ∃ ps : List Part, ps.map (·.1) = partsL s := by
  refine ⟨(partsL s).attachWith _ (fun p hp => Nat.le_trans (parts_len s p hp) hm), ?_⟩
  simp
set_option maxHeartbeats 1000000 in
theorem seq_in (F : Fence) (n : Nat) (hF : F = Fence.wide) (hn : 1 ≤ n) (l Bn : Nat) (s : List UInt8) (hm : s.length ≤ 1000000000000) (ps : List Part) (hps : ps.map (·.1) = partsL s) (J Jx : List Part → World → Prop) (B : Nat) (hJ : AbidesFrom B J)
    (hY : ∀ pre x W, J pre W → pre.length < ps.length → YieldAt F (n - 1) Tryd.prog l #[.string (str x.1)] W fun e W' =>
      (e = .returned (.bool true) ∧ J (pre ++ [x]) W' ∧ True) ∨ (e = .returned (.bool false) ∧ Jx (pre ++ [x]) W'))
    (W : World) (hBn : W.cell? ⟨Bn, 0, none⟩ = some (.string (str s))) (h0 : J [] W) :
    CallsIn F n Tryd.prog 22 #[.func (.yield l) #[] #[], .pointer (some ⟨Bn, 0, none⟩)] W fun e W' => (∃ v, e = .returned v) ∧
      ((∃ ys, ys = ps ∧ J ys W') ∨ (∃ pre, pre <+: ps ∧ Jx pre W')) := by
  subst hF
  refine callsIn_of_wp Tryd.func22 rfl trivial ?_ rfl
  simp only [Tryd.ntmps22, List.size_toArray, List.length_cons, List.length_nil, Nat.reduceAdd, Nat.reduceSub, Array.replicate_succ, Array.replicate_zero, List.push_toArray, List.append_toArray, List.nil_append, List.cons_append]
  gi_wp2
  gi_loopw [3, 4] (fun r m wr => ∃ (pre tl : List Part) (rest : List UInt8) (b : Bool), r = .string (str rest) ∧ m = .bool b ∧ Hid (ps = pre ++ tl ∧ tl.map (·.1) = leftL b rest) ∧ rest.length ≤ 1000000000000 ∧ J pre wr)
    (fun r m wr => leftN r m)
  case atStart => exact ⟨[], ps, s, true, rfl, rfl, ⟨rfl, hps⟩, hm, h0⟩
  case round =>
    obtain ⟨pre, tl, rest, b, rfl, rfl, hx, hr, hJs⟩ := hrel
    cases b with
    | false =>
      gi_wp2
      go_end0
      exact ⟨⟨_, rfl⟩, .inl ⟨pre, by obtain ⟨h1, h2⟩ := hx.out; obtain rfl : tl = [] := List.map_eq_nil_iff.1 h2; simp [h1], hJs⟩⟩
    | true =>
      obtain ⟨hx1, hx2⟩ := hx.out
      rw [left_cut] at hx2
      obtain ⟨x, tl', htl⟩ : ∃ x tl', tl = x :: tl' := by
        cases tl with
        | nil => simp at hx2
        | cons x tl' => exact ⟨x, tl', rfl⟩
      rw [htl, List.map_cons, List.cons.injEq] at hx2
      have hc := cutSlash_any rest wr hr
      have hl := cut_less rest
      have hsz : (str rest).size = rest.length := str_size rest
      obtain ⟨p, hp⟩ : ∃ p : List UInt8, p = x.1 := ⟨_, rfl⟩
      obtain ⟨q, hq⟩ : ∃ q, q = (cutL rest).2.1 := ⟨_, rfl⟩
      obtain ⟨b, hb⟩ : ∃ b, b = (cutL rest).2.2 := ⟨_, rfl⟩
      rw [← hx2.1, ← hp, ← hq, ← hb] at hc
      rw [← hq, ← hb] at hx2
      rw [htl] at hx1
      rw [← hq, ← hb] at hl
      have HX := Lib.hid (And.intro hx1 hx2.2)
      have HL := Lib.hid hl
      have HS := Lib.hid hsz
      have hgo0 : ∀ k, YieldAt Fence.wide (n - 1) Tryd.prog l #[.string (str x.1)] (wr.drewN k) fun e W' =>
          (e = .returned (.bool true) ∧ J (pre ++ [x]) W' ∧ True) ∨ (e = .returned (.bool false) ∧ Jx (pre ++ [x]) W') :=
        fun k => hY pre x _ (abides_drewN hJ hJs k) (by rw [hx1]; simp)
      rw [← hp] at hgo0
      clear hp hq hb hx1 hx2 hl hsz hx htl hY
      gi_wp2_with (refine ⟨trivial, ?_⟩; gi_at_call 23; refine (callsIn_wide.2 hc).mono ?_; rintro e w' ⟨rfl, k, rfl⟩; obtain ⟨fn, tmps, assign, body, hy, hR⟩ := hgo0 k)
      refine hR.mono ?_
      rintro e W3 (⟨rfl, hJ3, -⟩ | ⟨rfl, hJx3⟩)
      · gi_wp2
        go_roundw
        case rel => exact ⟨pre ++ [x], tl', q, b, rfl, rfl, ⟨by rw [HX.out.1]; simp, HX.out.2⟩, by have := HL.out; omega, hJ3⟩
        case measure =>
          have h1 := HL.out
          have h2 := HS.out
          have h3 : (str q).size = q.length := str_size q
          cases b <;> simp [leftN, h2, h3] at h1 ⊢ <;> omega
      · gi_wp2
        refine bodyPost_ret (results_none rfl _ _ _) rfl ?_
        exact ⟨⟨_, rfl⟩, .inr ⟨pre ++ [x], by rw [HX.out.1]; exact ⟨tl', by simp⟩, hJx3⟩⟩
theorem seq_stops (n : Nat) (hn : 1 ≤ n) (Bn : Nat) (s : List UInt8) (hm : s.length ≤ 1000000000000) (ps : List Part) (hps : ps.map (·.1) = partsL s) (w : World) (hBn : Bn < w.heap.size) (hc : w.cell? ⟨Bn, 0, none⟩ = some (.string (str s))) :
    SeqStopsK Fence.wide n Tryd.prog 22 #[.pointer (some ⟨Bn, 0, none⟩)] (fun x : Part => #[Value.string (str x.1)]) (fun _ _ => True) (fun ys => ys = ps) (fun pre => pre <+: ps) ps.length w := fun l J Jx W hW hJ _ hY h0 =>
  seq_in Fence.wide n rfl hn l Bn s hm ps hps J Jx _ hJ hY W ((hW.cell (p := ⟨Bn, 0, none⟩) hBn).trans hc) h0
theorem parts_any (s : List UInt8) (w : World) :
    Calls Tryd.prog 16 #[.string (str s)] w fun e w' => e = .returned (.func (.func 22) #[] #[.pointer (some ⟨w.heap.size, 0, none⟩)]) ∧ w' = w.alloc (.cells #[.string (str s)] 9) := by
  go_enter Tryd.func16, Tryd.ntmps16
  go_wp2
  go_ret
  exact ⟨rfl, rfl⟩
end Go.Proofs.YtdnelijkhinpcaaDoor.Path
