/- Texts of this seat, merged: what the proof reaches. -/
import Derived.Test.YtphehianajckaaaHeapPlaysX12
import Derived.Deep.SlicePairs
import Derived.OpenShut
import Derived.SizedLaws
namespace Go.Proofs.Ytphehianajckaaa
namespace Base
end Base
namespace Byt
end Byt
namespace Txt
end Txt
end Go.Proofs.Ytphehianajckaaa
section
namespace Go.Proofs.Ytphehianajckaaa.Rec
open Go.ChangeShapes Go.WideShapes Go.ChangeAt Go.RowKit Go.Deep Base Byt Txt Go.Lib
set_option linter.unusedVariables false
set_option maxRecDepth 100000
section
variable {H:Type} {enc:TypeId × Value → H} {w:World} {base:Nat} {held:Bool} {spare:Nat → Bool}
theorem weights_all {P:Program} {e:TypeId} {l:List (DataW H)} {d:DataW H} (hd:d ∈ l) {n:Nat} (hn:n ∈ d.weights P e):n ∈ DataW.weightsAll P e l:=by
 induction l with
 | nil => cases hd
 | cons a l ih =>
   simp only [DataW.weightsAll,List.mem_append];rcases List.mem_cons.1 hd with rfl | h
   ·exact .inl hn
   ·exact .inr (ih h)
end
end Go.Proofs.Ytphehianajckaaa.Rec
end
