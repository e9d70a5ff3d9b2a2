/- Texts of this seat, merged: what the proof reaches. -/
import Derived.Test.YtfhelebejclalaaDoorLinksBackX10
import Derived.Test.YtfhelebejclalaaDoorLinksBackX3
import Derived.Shelf.Unicode.DecodeSlow
namespace Go.Proofs.YtfhelebejclalaaDoor
namespace Base
end Base
namespace Byt
end Byt
namespace Num
end Num
namespace Txt
end Txt
end Go.Proofs.YtfhelebejclalaaDoor
section
namespace Go.Proofs.YtfhelebejclalaaDoor.Path
open Go.ChangeShapes Go.WideShapes Go.ChangeAt Go.RowKit Go.Shelf Base Byt Txt Go.Lib Num
set_option linter.unusedVariables false
set_option maxRecDepth 100000
def Tabs (w:World):Prop:=Lib.Utf8Tabs (Tryd.laysValid_ren.g 3) (Tryd.laysValid_ren.g 4) w
theorem Tabs.below {w w':World} (h:Tabs w) (hb:Below w.heap.size w w'):Tabs w':=by
 refine ⟨fun c hc => ?_,fun i hi => ⟨?_,?_⟩⟩
 ·have:=h.1 c hc
  rwa [hb.cell (p:=⟨_,c,none⟩) (World.block_lt_of_cell? _ _ this)]
 ·have:=(h.2 i hi).1
  rwa [hb.cell (p:=⟨_,2 * i,none⟩) (World.block_lt_of_cell? _ _ this)]
 ·have:=(h.2 i hi).2
  rwa [hb.cell (p:=⟨_,2 * i+1,none⟩) (World.block_lt_of_cell? _ _ this)]
end Go.Proofs.YtfhelebejclalaaDoor.Path
end
