/- Texts of this seat, merged: what the proof reaches. -/
import Derived.Test.YtnpkcneojilmkaaGreatDoorMemberGNUX11
import Derived.OpenShut
import Derived.SizedLaws
section
namespace Go.Proofs.YtnpkcneojilmkaaGreatDoor.Head
open Go.ChangeShapes Go.WideShapes Go.ChangeAt Go.RowKit Base Byt Txt Hp Go.Lib
set_option linter.unusedVariables false
set_option maxRecDepth 100000
theorem list4 {α:Type} (l:List α) (h:l.length=4):∃ a b c d,l=[a,b,c,d]:=by
 match l,h with
 | [a,b,c,d],_ => exact ⟨a,b,c,d,rfl⟩
theorem cellsM:Tryz.prog.cellsOf 23=4:=by kernel_rfl
theorem cellsS:Tryz.prog.cellsOf 9=1:=by kernel_rfl
theorem cellsI:Tryz.prog.cellsOf 3=1:=by kernel_rfl
theorem cellsU:Tryz.prog.cellsOf 5=1:=by kernel_rfl
section
variable {H:Type} {enc:TypeId × Value → H} {w:World} {base:Nat} {held:Bool} {spare:Nat → Bool}
end
end Go.Proofs.YtnpkcneojilmkaaGreatDoor.Head
end
