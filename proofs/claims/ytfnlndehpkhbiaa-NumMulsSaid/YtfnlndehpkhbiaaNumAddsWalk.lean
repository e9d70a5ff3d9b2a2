/- The walk over NumAdds: it returns true for every list, and writes nothing that was there. -/
import Derived.Test.YtfnlndehpkhbiaaNumLaws
import Derived.OwnWalk
import Derived.Laws.AppendOwnNone
namespace Go.Proofs.Ytfnlndehpkhbiaa.Walk
open Go.ChangeShapes Go.WideShapes Go.ChangeAt Go.RowKit Go.Proofs.Ytfnlndehpkhbiaa.Base Go.Proofs.Ytfnlndehpkhbiaa.Num
set_option linter.unusedVariables false

theorem infoInt : (Try.prog.info? 3).map (fun i => (i.zero, i.size, i.bytes)) = some (some (.int .i64 0), 1, 8) := by kernel_rfl

/-- Add of a list that the call itself made -/
theorem add_owned (base : Nat) (v : Value) (n : Nat) (zs : List Int) (w : World) (hn : zs.length = n) (hm : n ≤ maxLen) (h : w.ownsRow base 3 1 v n (zs.map (Value.int .i64))) :
    Calls Try.prog 8 #[v] w fun e w' => e = .returned (.tuple #[.int .i64 (valO (sumF zs 0)), .bool (okO (sumF zs 0))]) ∧ w = w' := by
  have h' := h
  rcases h.2 with ⟨rfl, rfl⟩ | ⟨g, cap, cur, rfl, _⟩
  · obtain rfl : zs = [] := List.length_eq_zero_iff.1 hn
    exact add_empty _ _ _
  · refine add_some g 0 n cap zs w hn hm (fun i hi => ?_)
    rw [Nat.zero_add, h'.cellAt i (by omega), List.getElem?_map, List.getElem?_eq_getElem (by omega)]
    simp [List.getD, hn, hi]

theorem addsNil (w : World) :
    Calls Try.prog 3 #[.slice none 0 0] w fun e w' => e = .returned (.bool true) ∧ Below w.heap.size w w' := by
  obtain ⟨i0, hi, hz0, hz1, hz2⟩ := info_parts infoInt
  have HI := Lib.hid hi
  clear hi hz0 hz1 hz2
  go_enter Try.func3, Try.ntmps3
  go_wp2_with (at_builtin; refine wpList_append_own_none rfl _ _ 22 rfl w.heap.size 3 i0 1 Try.underlying22 HI.out _ 0 [] rfl (World.ownsRow_made w #[] 0 (Nat.le_refl _) (by decide) rfl) rfl ?_)
  refine (add_empty _ _ _).mono ?_
  rintro e w3 ⟨rfl, rfl⟩
  go_wp2_with fail
  refine (radd_empty _ _ _).mono ?_
  rintro e w3 ⟨rfl, rfl⟩
  go_wp2_with fail
  refine (answers_any _).mono ?_
  rintro e w5 ⟨rfl, hb2⟩
  go_wp2
  go_ret
  exact ⟨rfl, ((Below.refl _ _).alloc (Nat.le_refl _) _).trans (hb2.mono (by simp))⟩
set_option maxHeartbeats 800000 in
theorem addsSome (b off len cap : Nat) (zs : List Int) (w : World) (hb : cap * 8 ≤ 140737488351232) (hlc : len ≤ cap) (hl : zs.length = len) (hbW : b < w.heap.size)
    (hc : ∀ i, i < len → w.cell? ⟨b, off + i, none⟩ = some (.int .i64 (zs.getD i 0))) :
    Calls Try.prog 3 #[.slice (some ⟨b, off, none⟩) len cap] w fun e w' => e = .returned (.bool true) ∧ Below w.heap.size w w' := by
  obtain ⟨i0, hi, hz0, hz1, hz2⟩ := info_parts infoInt
  obtain ⟨x, p, hx⟩ : ∃ x p, valO (sumF zs 0) = x ∧ okO (sumF zs 0) = p := ⟨_, _, rfl, rfl⟩
  have HX := Lib.hid hx
  have HL := Lib.hid hl
  have HC := Lib.hid hc
  have HI := Lib.hid hi
  have HZ0 := Lib.hid hz0
  have HZ1 := Lib.hid hz1
  have HZ2 := Lib.hid hz2
  clear hx hl hc hi hz0 hz1 hz2
  go_enter Try.func3, Try.ntmps3
  go_wp2_with (at_builtin; refine wpList_append_own _ rfl _ _ 22 rfl w.heap.size 3 i0 (.int .i64 0) 1 8 Try.underlying22 HI.out HZ0.out HZ1.out HZ2.out rfl (by decide) _ 0 [] rfl (World.ownsRow_made w #[] 0 (Nat.le_refl _) (by decide) rfl) ⟨b, off, none⟩ len cap (zs.map (Value.int .i64)) rfl ?c0 ?c1 ?c2 ?c3 ?c4 ?c5 ?_)
  case c0 => rw [List.length_map, HL.out]; omega
  case c1 =>
    intro j u hj
    rw [List.getElem?_map, Option.map_eq_some_iff] at hj
    obtain ⟨z, hz, rfl⟩ := hj
    have hjl : j < len := by rw [← HL.out]; exact (List.getElem?_eq_some_iff.1 hz).1
    rw [add_plain, World.cell?_alloc_past _ _ _ hbW, HC.out j hjl, List.getD, hz]
    rfl
  case c2 => intro u hu; obtain ⟨z, _, rfl⟩ := List.mem_map.1 hu; rfl
  case c3 => unfold maxLen; omega
  case c4 => omega
  case c5 => simp
  · intro v' w1 hown hgrow _
    have hbel : Below w.heap.size w w1 := ((Below.refl _ _).alloc (Nat.le_refl _) _).grown hgrow (by simp) (by intro k hk; simp [Value.ownBlock] at hk; omega)
    go_wp2_with fail
    refine (add_owned _ _ len zs _ HL.out (by unfold maxLen; omega) hown).mono ?_
    rintro e w3 ⟨rfl, rfl⟩
    rw [HX.out.1, HX.out.2]
    go_wp2_with fail
    refine (radd_some b off len cap zs _ HL.out (by unfold maxLen; omega) (fun i hi => by rw [hbel.cell (by exact hbW)]; exact HC.out i hi)).mono ?_
    rintro e w3 ⟨rfl, rfl⟩
    rw [HX.out.1, HX.out.2]
    go_wp2_with fail
    refine (answers_any _).mono ?_
    rintro e w5 ⟨rfl, hb2⟩
    go_wp2
    go_ret
    exact ⟨rfl, hbel.trans (hb2.mono hbel.size)⟩
/-- an empty list that is not nil: its place may be any -/
theorem addsEmpty (ad : Addr) (cap : Nat) (w : World) :
    Calls Try.prog 3 #[.slice (some ad) 0 cap] w fun e w' => e = .returned (.bool true) ∧ Below w.heap.size w w' := by
  obtain ⟨i0, hi, hz0, hz1, hz2⟩ := info_parts infoInt
  have HI := Lib.hid hi
  have HZ0 := Lib.hid hz0
  have HZ1 := Lib.hid hz1
  have HZ2 := Lib.hid hz2
  clear hi hz0 hz1 hz2
  go_enter Try.func3, Try.ntmps3
  go_wp2_with (at_builtin; refine wpList_append_own _ rfl _ _ 22 rfl w.heap.size 3 i0 (.int .i64 0) 1 8 Try.underlying22 HI.out HZ0.out HZ1.out HZ2.out rfl (by decide) _ 0 [] rfl (World.ownsRow_made w #[] 0 (Nat.le_refl _) (by decide) rfl) ad 0 cap [] rfl rfl ?c1 ?c2 ?c3 ?c4 ?c5 ?_)
  case c1 => intro j u hj; simp at hj
  case c2 => intro u hu; simp at hu
  case c3 => decide
  case c4 => omega
  case c5 => simp
  · intro v' w1 hown hgrow _
    have hbel : Below w.heap.size w w1 := ((Below.refl _ _).alloc (Nat.le_refl _) _).grown hgrow (by simp) (by intro k hk; simp [Value.ownBlock] at hk; omega)
    go_wp2_with fail
    refine (add_owned _ _ 0 [] _ rfl (by decide) hown).mono ?_
    rintro e w3 ⟨rfl, rfl⟩
    go_wp2_with fail
    refine (radd_empty _ _ _).mono ?_
    rintro e w3 ⟨rfl, rfl⟩
    go_wp2_with fail
    refine (answers_any _).mono ?_
    rintro e w5 ⟨rfl, hb2⟩
    go_wp2
    go_ret
    exact ⟨rfl, hbel.trans (hb2.mono hbel.size)⟩

theorem numAdds (a : Option Addr) (len cap : Nat) (zs : List Int) (w : World) (w0 : IsRow .i64 w a len cap zs) (b0 : cap * 8 ≤ 140737488351232) :
    Calls Try.prog 3 #[.slice a len cap] w fun e w' => e = .returned (.bool true) ∧ Below w.heap.size w w' := by
  by_cases h : 0 < len
  · obtain ⟨b, off, rfl, h1, h2, h3, h4, h5, h6⟩ := row_at w0 h
    exact addsSome b off len cap (zs.take len) w b0 h1 h6 h4 h5
  · obtain rfl : len = 0 := by omega
    rcases w0 with ⟨rfl, _, rfl, _⟩ | ⟨x, rfl, _⟩
    · exact addsNil w
    · exact addsEmpty x cap w
end Go.Proofs.Ytfnlndehpkhbiaa.Walk
