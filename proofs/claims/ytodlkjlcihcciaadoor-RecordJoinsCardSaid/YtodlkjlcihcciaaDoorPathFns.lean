/- Layer path's small functions, by contracts: Less, join, strings.Cut at a slash. -/
import Derived.Test.YtodlkjlcihcciaaDoorTxt
import Derived.Test.YtodlkjlcihcciaaDoorPathPlain
import Derived.Test.YtodlkjlcihcciaaDoorPathStr
import Derived.Test.YtodlkjlcihcciaaDoorNum
import Derived.Deep.Draws
import Derived.BigCall
import Derived.Shelf.RegionOpenPlain
namespace Go.Proofs.YtodlkjlcihcciaaDoor.Path
open Go.ChangeShapes Go.WideShapes Go.ChangeAt Go.RowKit Go.Shelf Go.Proofs.YtodlkjlcihcciaaDoor.Base Go.Proofs.YtodlkjlcihcciaaDoor.Byt Go.Proofs.YtodlkjlcihcciaaDoor.Txt Go.Lib
set_option linter.unusedVariables false
set_option maxRecDepth 100000

/-- at the first slash -/
def cutL (l : List UInt8) : List UInt8 × List UInt8 × Bool :=
  if 0 ≤ Lib.indexByte l 47 then (l.take (Lib.indexByte l 47).toNat, l.drop ((Lib.indexByte l 47).toNat + 1), true) else (l, [], false)
theorem slCut_any (l : List UInt8) (w : World) (hm : l.length ≤ 1000000000000) :
    Calls Tryd.prog 28 #[.string (str l), .string ⟨#[47]⟩] w fun e w' => e = .returned (.tuple #[.string (str (cutL l).1), .string (str (cutL l).2.1), .bool (cutL l).2.2]) ∧ ∃ n, w' = w.drewN n := by
  have hidx := Any.stringslite_Index_one Tryd.laysIndex (str l) 47 w
  rw [str_data] at hidx
  have hs : (str l).size = l.length := str_size l
  unfold cutL
  by_cases h : 0 ≤ Lib.indexByte l 47
  · obtain ⟨k, hk⟩ : ∃ k : Nat, Lib.indexByte l 47 = k := ⟨(Lib.indexByte l 47).toNat, by omega⟩
    have hlt := (List.getElem?_eq_some_iff.1 (Lib.indexByte_some hk).1).1
    rw [if_pos h, hk, Int.toNat_natCast]
    rw [hk] at hidx
    clear h hk
    simp only
    have e1 : (str l).extract 0 k = str (l.take k) := str_take l k
    have e2 : (str l).extract (k + 1) (str l).size = str (l.drop (k + 1)) := str_drop l (k + 1) _ hs
    rw [← e1, ← e2]
    have c1 : (0 : Int) ≤ (k : Int) := by omega
    have c2 : (k : Int) ≤ ((str l).size : Int) := by omega
    have c3 : (0 : Int) ≤ (k : Int) + 1 := by omega
    have c4 : (k : Int) + 1 ≤ ((str l).size : Int) := by omega
    have c5 : ((str l).size : Int) ≤ 1000000000000 := by omega
    clear e1 e2
    have mixed : Tryd.prog.follows .mixedOrders = true := by kernel_rfl
    go_enter Tryd.func28, Tryd.ntmps28
    go_wp2_with (go_at_call 34; refine hidx.mono ?_; rintro e w' ⟨rfl, rfl⟩)
    go_region_o
    go_wp2
    go_ret3
    exact ⟨rfl, 1, rfl⟩
  · rw [if_neg h]
    have hn : Lib.indexByte l 47 = -1 := by have := Lib.indexByte_ge l 47; omega
    rw [hn] at hidx
    clear h hn
    go_enter Tryd.func28, Tryd.ntmps28
    go_wp2_with (go_at_call 34; refine hidx.mono ?_; rintro e w' ⟨rfl, rfl⟩)
    go_ret3
    exact ⟨rfl, 0, rfl⟩
theorem cutSlash_any (l : List UInt8) (w : World) (hm : l.length ≤ 1000000000000) :
    Calls Tryd.prog 19 #[.string (str l), .string ⟨#[47]⟩] w fun e w' => e = .returned (.tuple #[.string (str (cutL l).1), .string (str (cutL l).2.1), .bool (cutL l).2.2]) ∧ ∃ n, w' = w.drewN n := by
  have hc := slCut_any l w hm
  go_enter Tryd.func19, Tryd.ntmps19
  go_wp2_with (go_at_call 28; refine hc.mono ?_; rintro e w' ⟨rfl, n, rfl⟩)
  go_ret3
  exact ⟨rfl, n, rfl⟩
end Go.Proofs.YtodlkjlcihcciaaDoor.Path
