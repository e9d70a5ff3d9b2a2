/- Texts of this seat, merged: what the proof reaches. -/
import Derived.Test.YtphehianajckaaaHeapPlaysX7
import Derived.Deep.AppendLies
namespace Go.Proofs.Ytphehianajckaaa
namespace Base
end Base
namespace Byt
end Byt
namespace Fp
end Fp
namespace Num
end Num
end Go.Proofs.Ytphehianajckaaa
section
namespace Go.Proofs.Ytphehianajckaaa.Field
open Go.ChangeShapes Go.WideShapes Go.ChangeAt Go.RowKit Base Num Fp Byt
set_option linter.unusedVariables false
def lie (j:Nat) (tl:List Int):List Value:=(List.replicate j (0:Int)++tl).map (Value.int .u8)
def LieRow (w0 wr:World) (count j:Nat) (tl:List Int):Prop:=
 wr.ownsRow w0.heap.size 5 1 (.slice (some ⟨w0.heap.size,0,none⟩) count count) count (lie j tl)∧Below w0.heap.size w0 wr
theorem LieRow.frozen {w0 wr:World} {count j:Nat} {tl:List Int} (h:LieRow w0 wr count j tl) (k:Nat):wr.frozen? ⟨w0.heap.size,k,none⟩=false:=h.1.frozenAt k
end Go.Proofs.Ytphehianajckaaa.Field
end
