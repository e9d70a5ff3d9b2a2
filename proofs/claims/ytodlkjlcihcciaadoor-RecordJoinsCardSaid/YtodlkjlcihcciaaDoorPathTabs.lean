/- The tables of unicode/utf8 as their initialisers lay them: 'Tabs'. -/
import Derived.Test.YtodlkjlcihcciaaDoorPathFns
import Derived.Test.YtodlkjlcihcciaaDoorPathValid
import Derived.Shelf.Unicode.DecodeSlow
namespace Go.Proofs.YtodlkjlcihcciaaDoor.Path
open Go.ChangeShapes Go.WideShapes Go.ChangeAt Go.RowKit Go.Shelf Go.Proofs.YtodlkjlcihcciaaDoor.Base Go.Proofs.YtodlkjlcihcciaaDoor.Byt Go.Proofs.YtodlkjlcihcciaaDoor.Txt Go.Lib Go.Proofs.YtodlkjlcihcciaaDoor.Num
set_option linter.unusedVariables false
set_option maxRecDepth 100000

/-- the tables of unicode/utf8 are there -/
def Tabs (w : World) : Prop := Lib.Utf8Tabs (Tryd.laysValid_ren.g 3) (Tryd.laysValid_ren.g 4) w
/-- the tables lie at the beginning -/
def Wide (w : World) : Prop := Tryd.laysValid_ren.g 3 < w.heap.size ∧ Tryd.laysValid_ren.g 4 < w.heap.size
theorem Tabs.below {w w' : World} (h : Tabs w) (hb : Below w.heap.size w w') : Tabs w' := by
  refine ⟨fun c hc => ?_, fun i hi => ⟨?_, ?_⟩⟩
  · have := h.1 c hc
    rwa [hb.cell (p := ⟨_, c, none⟩) (World.block_lt_of_cell? _ _ this)]
  · have := (h.2 i hi).1
    rwa [hb.cell (p := ⟨_, 2 * i, none⟩) (World.block_lt_of_cell? _ _ this)]
  · have := (h.2 i hi).2
    rwa [hb.cell (p := ⟨_, 2 * i + 1, none⟩) (World.block_lt_of_cell? _ _ this)]
end Go.Proofs.YtodlkjlcihcciaaDoor.Path
