/- Layer path's answers that no idle program gives, by contract; and Clean of any string. -/
import Derived.Test.YtdnelijkhinpcaaDoorPathClean
import Derived.Test.YtdnelijkhinpcaaDoorRefClean
namespace Go.Proofs.YtdnelijkhinpcaaDoor.Path
open Go.ChangeShapes Go.WideShapes Go.ChangeAt Go.RowKit Go.Proofs.YtdnelijkhinpcaaDoor.Base Go.Proofs.YtdnelijkhinpcaaDoor.Byt Go.Proofs.YtdnelijkhinpcaaDoor.Txt Go.Lib Go.Proofs.YtdnelijkhinpcaaDoor.Num
set_option linter.unusedVariables false
set_option maxRecDepth 100000

theorem clean_of (l a : List UInt8) (e : Int) (h : cleanD 9 6 l = (a, e)) (hm : l.length ≤ 1000000000000) (w : World) (hT : Tabs w) :
    Calls Tryd.prog 9 #[.string (str l)] w fun r w' => r = .returned (.tuple #[.string (str a), .int .i64 e]) ∧ Below w.heap.size w w' := by
  have := clean_any l w hm hT
  rwa [h] at this
theorem target_of (l : List UInt8) (e : Int) (h : targetD 9 6 l = e) (hm : l.length ≤ 1000000000000) (w : World) (hT : Tabs w) :
    Calls Tryd.prog 12 #[.string (str l)] w fun r w' => r = .returned (.int .i64 e) ∧ Below w.heap.size w w' := by
  have := target_any l w hm hT
  rwa [h] at this
theorem less_of (a b : List UInt8) (r : Bool) (h : Op.bytesLess a b = r) (w : World) :
    Calls Tryd.prog 13 #[.string (str a), .string (str b)] w fun e w' => e = .returned (.bool r) ∧ w = w' := by
  have := less_any a b w
  rwa [h] at this
theorem ans05_any (w : World) (hT : Tabs w) : Calls Tryd.prog 8 #[] w fun e w' => e = .returned (.bool true) ∧ Below w.heap.size w w' := by
  have hab : ((str [97, 47, 98]).toList == [97, 47, 98]) = true := by rw [str_is]; simp
  go_enter Tryd.func8, Tryd.ntmps8
  go_wp2_with fail
  refine (clean_of [46, 47, 97, 47, 47, 98, 47] [97, 47, 98] 0 (by decide +kernel) (by decide) _ hT).mono ?_
  rintro e w1 ⟨rfl, hb1⟩
  have hT1 := hT.below hb1
  have HB1 := Lib.hid hb1
  clear hb1
  go_wp2_with fail
  refine (clean_of [97, 47, 46, 46, 47, 98] [] 6 (by decide +kernel) (by decide) _ hT1).mono ?_
  rintro e w2 ⟨rfl, hb2⟩
  have hT2 := hT1.below hb2
  have HB2 := Lib.hid (HB1.out.trans (hb2.mono HB1.out.size))
  clear hb2
  go_wp2_with fail
  refine (target_of [] 6 (by decide +kernel) (by decide) _ hT2).mono ?_
  rintro e w3 ⟨rfl, hb3⟩
  have HB3 := Lib.hid (HB2.out.trans (hb3.mono HB2.out.size))
  clear hb3
  go_wp2_with fail
  refine (less_of [97] [98] true (by decide +kernel) _).mono ?_
  rintro e w4 ⟨rfl, rfl⟩
  go_wp2_with fail
  refine (less_of [98] [97] false (by decide +kernel) _).mono ?_
  rintro e w4 ⟨rfl, rfl⟩
  go_wp2
  go_ret
  exact ⟨rfl, HB3.out⟩
end Go.Proofs.YtdnelijkhinpcaaDoor.Path
