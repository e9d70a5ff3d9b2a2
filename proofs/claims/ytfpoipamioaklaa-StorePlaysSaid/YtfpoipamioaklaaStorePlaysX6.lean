/- Texts of this seat, merged: what the proof reaches. -/
import Derived.Test.YtfpoipamioaklaaStorePlaysX3
import Derived.OpenShut
import Derived.SizedLaws
namespace Go.Proofs.Ytfpoipamioaklaa
namespace Base
end Base
namespace Byt
end Byt
namespace Hp
end Hp
namespace Txt
end Txt
end Go.Proofs.Ytfpoipamioaklaa
section
namespace Go.Proofs.Ytfpoipamioaklaa.Head
open Go.ChangeShapes Go.WideShapes Go.ChangeAt Go.RowKit Base Byt Txt Hp Go.Lib
set_option linter.unusedVariables false
set_option maxRecDepth 100000
theorem cellsI:Try.prog.cellsOf 3=1:=by kernel_rfl
theorem cellsU:Try.prog.cellsOf 5=1:=by kernel_rfl
section
variable {H:Type} {enc:TypeId × Value → H} {w:World} {base:Nat} {held:Bool} {spare:Nat → Bool}
end
end Go.Proofs.Ytfpoipamioaklaa.Head
end
