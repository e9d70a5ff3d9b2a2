/- Merged. -/
import Derived.Test.YtdhibldkldlfpaaGreatDoorEmitLeastX11
import Derived.OpenShut
namespace Go.Proofs.YtdhibldkldlfpaaGreatDoor
set_option linter.unusedVariables false
set_option maxRecDepth 100000
namespace Head
open Go.ChangeShapes Go.WideShapes Go.ChangeAt Go.RowKit Base bJ cn Hp Go.Lib
variable {α:Type}
theorem Pm (l:List α) (h:l.length=9):∃a b c d e f g i j,l=[a,b,c,d,e,f,g,i,j]:=by
 match l,h with
 |[a,b,c,d,e,f,g,i,j],_=>exact⟨a,b,c,d,e,f,g,i,j,rfl⟩
theorem Uy (l:List α) (h:l.length=4):∃a b c d,l=[a,b,c,d]:=by
 match l,h with
 |[a,b,c,d],_=>exact⟨a,b,c,d,rfl⟩
theorem Pk (l:List α) (h:l.length=6):∃a b c d e f,l=[a,b,c,d,e,f]:=by
 match l,h with
 |[a,b,c,d,e,f],_=>exact⟨a,b,c,d,e,f,rfl⟩
theorem dD:Tryz.prog.cellsOf 66=9:=by kernel_rfl
theorem P7:Tryz.prog.cellsOf 46=4:=by kernel_rfl
theorem P8:Tryz.prog.cellsOf 9=1:=by kernel_rfl
theorem P6:Tryz.prog.cellsOf 3=1:=by kernel_rfl
theorem JR:Tryz.prog.cellsOf 5=1:=by kernel_rfl
section
variable {H:Type} {enc:TypeId × Value→H} {w:World} {base:Nat} {held:Bool} {spare:Nat→Bool}
end
end Head
end Go.Proofs.YtdhibldkldlfpaaGreatDoor
