/- Merged. -/
import Derived.Test.YtdhibldkldlfpaaGreatDoorEmitLeastX16
import Derived.Test.YtdhibldkldlfpaaGreatDoorEmitLeastX3
import Derived.Shelf.Unicode.DecodeSlow
namespace Go.Proofs.YtdhibldkldlfpaaGreatDoor
set_option linter.unusedVariables false
set_option maxRecDepth 100000
namespace Path
open Go.ChangeShapes Go.WideShapes Go.ChangeAt Go.RowKit Go.Shelf Base bJ cn Go.Lib qd
def Tabs (w:World):Prop:=Lib.Utf8Tabs (Tryz.jT.g 3) (Tryz.jT.g 4) w
theorem Tabs.below {w w':World} (h:Tabs w) (hb:Below w.heap.size w w'):Tabs w':=by
 refine⟨fun c hc=>?_,fun i hi=>⟨?_,?_⟩⟩
 ·have:=h.1 c hc
  rwa [hb.cell (p:=⟨_,c,none⟩) (World.block_lt_of_cell? _ _ this)]
 ·have:=(h.2 i hi).1
  rwa [hb.cell (p:=⟨_,2*i,none⟩) (World.block_lt_of_cell? _ _ this)]
 ·have:=(h.2 i hi).2
  rwa [hb.cell (p:=⟨_,2*i+1,none⟩) (World.block_lt_of_cell? _ _ this)]
end Path
end Go.Proofs.YtdhibldkldlfpaaGreatDoor
