/- Layer path's right and Target, by contracts. The tables of unicode/utf8 as their initialisers lay them: 'Tabs'. -/
import Derived.Test.YtdnelijkhinpcaaDoorPathFns
import Derived.Test.YtdnelijkhinpcaaDoorPathValid
namespace Go.Proofs.YtdnelijkhinpcaaDoor.Path
open Go.ChangeShapes Go.WideShapes Go.ChangeAt Go.RowKit Go.Shelf Go.Proofs.YtdnelijkhinpcaaDoor.Base Go.Proofs.YtdnelijkhinpcaaDoor.Byt Go.Proofs.YtdnelijkhinpcaaDoor.Txt Go.Lib Go.Proofs.YtdnelijkhinpcaaDoor.Num
set_option linter.unusedVariables false
set_option maxRecDepth 100000

/-- the tables of unicode/utf8 are there -/
def Tabs (w : World) : Prop := Lib.Utf8Tabs (Tryd.laysValid_ren.g 3) (Tryd.laysValid_ren.g 4) w
/-- the tables lie at the beginning -/
def Wide (w : World) : Prop := Tryd.laysValid_ren.g 3 < w.heap.size ∧ Tryd.laysValid_ren.g 4 < w.heap.size
theorem Tabs.below {w w' : World} (h : Tabs w) (hb : Below w.heap.size w w') : Tabs w' := by
  refine ⟨fun c hc => ?_, fun i hi => ⟨?_, ?_⟩⟩
  · have := h.1 c hc
    rwa [hb.cell (p := ⟨_, c, none⟩) (World.block_lt_of_cell? _ _ this)]
  · have := (h.2 i hi).1
    rwa [hb.cell (p := ⟨_, 2 * i, none⟩) (World.block_lt_of_cell? _ _ this)]
  · have := (h.2 i hi).2
    rwa [hb.cell (p := ⟨_, 2 * i + 1, none⟩) (World.block_lt_of_cell? _ _ this)]
theorem right_any (l : List UInt8) (w : World) (hm : l.length ≤ 1000000000000) (hT : Tabs w) :
    Calls Tryd.prog 14 #[.string (str l)] w fun e w' => e = .returned (.bool (textD l)) ∧ Below w.heap.size w w' := by
  have hV := Any.utf8_ValidString Tryd.laysValid (str l) w (by rw [str_size]; omega) hT
  have hC := fun w => Any.strings_Contains_one Tryd.laysConts (str l) 0 w
  rw [str_data] at hV
  simp only [str_data, index_has] at hC
  rw [text_valid]
  have mixed : Tryd.prog.follows .mixedOrders = true := by kernel_rfl
  clear hT hm
  cases hv : Lib.validD l with
  | false =>
    rw [hv] at hV
    clear hC
    go_enter Tryd.func14, Tryd.ntmps14
    go_wp2_with (go_at_call 19; refine hV.mono ?_; rintro e w1 ⟨rfl, hb⟩)
    go_ret
    exact ⟨rfl, hb⟩
  | true =>
    rw [hv] at hV
    cases hc : l.contains 0 with
    | false =>
      rw [hc] at hC
      go_enter Tryd.func14, Tryd.ntmps14
      go_wp2_with (first | (go_at_call 19; refine hV.mono ?_; rintro e w1 ⟨rfl, hb⟩) | (go_at_call 20; refine (hC _).mono ?_; rintro e w2 ⟨rfl, rfl⟩))
      go_ret
      exact ⟨rfl, hb⟩
    | true =>
      rw [hc] at hC
      go_enter Tryd.func14, Tryd.ntmps14
      go_wp2_with (first | (go_at_call 19; refine hV.mono ?_; rintro e w1 ⟨rfl, hb⟩) | (go_at_call 20; refine (hC _).mono ?_; rintro e w2 ⟨rfl, rfl⟩))
      go_ret
      exact ⟨rfl, hb⟩
theorem target_any (l : List UInt8) (w : World) (hm : l.length ≤ 1000000000000) (hT : Tabs w) :
    Calls Tryd.prog 12 #[.string (str l)] w fun e w' => e = .returned (.int .i64 (targetD 9 6 l)) ∧ Below w.heap.size w w' := by
  have hR := right_any l w hm hT
  have hs : (str l).size = l.length := str_size l
  unfold targetD
  clear hT
  cases ht : textD l with
  | false =>
    rw [ht] at hR
    rw [if_pos rfl]
    clear hm hs
    go_enter Tryd.func12, Tryd.ntmps12
    go_wp2_with (go_at_call 14; refine hR.mono ?_; rintro e w1 ⟨rfl, hb⟩)
    go_ret
    exact ⟨rfl, hb⟩
  | true =>
    rw [ht] at hR
    rw [if_neg (by simp)]
    obtain ⟨n, hn⟩ : ∃ n, (str l).size = n := ⟨_, rfl⟩
    by_cases h : l = [] ∨ 200 < l.length
    · have hi : inB (n : Int) 1 200 = false := by
        refine inB_false ?_
        rw [← hn, hs]
        rcases h with rfl | h
        · simp
        · omega
      rw [if_pos h]
      clear hm hs h
      go_enter Tryd.func12, Tryd.ntmps12
      go_wp2_with (first | (go_at_call 14; refine hR.mono ?_; rintro e w1 ⟨rfl, hb⟩) | (go_at_call 18; refine (in_any _ _ _ _).mono ?_; rw [hi]; rintro e w2 ⟨rfl, rfl⟩))
      go_ret
      exact ⟨rfl, hb⟩
    · have hi : inB (n : Int) 1 200 = true := by
        have : 0 < l.length := List.length_pos_iff.2 fun e => h (.inl e)
        exact inB_true (by omega) (by omega)
      rw [if_neg h]
      clear hm hs h
      go_enter Tryd.func12, Tryd.ntmps12
      go_wp2_with (first | (go_at_call 14; refine hR.mono ?_; rintro e w1 ⟨rfl, hb⟩) | (go_at_call 18; refine (in_any _ _ _ _).mono ?_; rw [hi]; rintro e w2 ⟨rfl, rfl⟩))
      go_ret
      exact ⟨rfl, hb⟩
end Go.Proofs.YtdnelijkhinpcaaDoor.Path
