/- Merged. -/
import Derived.Test.YtdhibldkldlfpaaGreatDoorEmitOnceX11
import Derived.OpenShut
namespace Go.Proofs.YtdhibldkldlfpaaGreatDoor
set_option linter.unusedVariables false
set_option maxRecDepth 100000
namespace Head
open Go.ChangeShapes Go.WideShapes Go.ChangeAt Go.RowKit Base bJ cr Hp Go.Lib
theorem dX:Tryz.prog.cellsOf 66=9:=by kernel_rfl
section
variable {H:Type} {enc:TypeId × Value→H} {w:World} {base:Nat} {held:Bool} {spare:Nat→Bool}
end
end Head
end Go.Proofs.YtdhibldkldlfpaaGreatDoor
