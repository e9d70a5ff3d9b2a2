/- Merged. -/
import Derived.Test.YtdhibldkldlfpaaGreatDoorEmitPacksX11
import Derived.OpenShut
namespace Go.Proofs.YtdhibldkldlfpaaGreatDoor
set_option linter.unusedVariables false
set_option maxRecDepth 100000
namespace Head
open Go.ChangeShapes Go.WideShapes Go.ChangeAt Go.RowKit Base cf cN Hp Go.Lib
variable {α:Type}
theorem Uh (l:List α) (h:l.length=9):∃a b c d e f g i j,l=[a,b,c,d,e,f,g,i,j]:=by
 match l,h with
 |[a,b,c,d,e,f,g,i,j],_=>exact⟨a,b,c,d,e,f,g,i,j,rfl⟩
theorem ZT (l:List α) (h:l.length=4):∃a b c d,l=[a,b,c,d]:=by
 match l,h with
 |[a,b,c,d],_=>exact⟨a,b,c,d,rfl⟩
theorem Ug (l:List α) (h:l.length=6):∃a b c d e f,l=[a,b,c,d,e,f]:=by
 match l,h with
 |[a,b,c,d,e,f],_=>exact⟨a,b,c,d,e,f,rfl⟩
theorem dF:Tryz.prog.cellsOf 66=9:=by kernel_rfl
theorem U8:Tryz.prog.cellsOf 46=4:=by kernel_rfl
theorem U9:Tryz.prog.cellsOf 9=1:=by kernel_rfl
theorem U7:Tryz.prog.cellsOf 3=1:=by kernel_rfl
theorem Nz:Tryz.prog.cellsOf 5=1:=by kernel_rfl
section
variable {H:Type} {enc:TypeId × Value→H} {w:World} {base:Nat} {held:Bool} {spare:Nat→Bool}
end
end Head
end Go.Proofs.YtdhibldkldlfpaaGreatDoor
