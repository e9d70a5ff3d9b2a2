/- Texts of this seat, merged: what the proof reaches. -/
import Derived.Test.YtpdpgjilalojjaaRecSortsX7
import Derived.Deep.AppendLies
namespace Go.Proofs.Ytpdpgjilalojjaa
namespace Base
end Base
namespace Byt
end Byt
namespace Fp
end Fp
namespace Num
end Num
end Go.Proofs.Ytpdpgjilalojjaa
section
namespace Go.Proofs.Ytpdpgjilalojjaa.Field
open Go.ChangeShapes Go.WideShapes Go.ChangeAt Go.RowKit Base Num Fp Byt
set_option linter.unusedVariables false
theorem infoByte:(Try.prog.info? 5).map (fun i => (i.zero,i.size,i.bytes))=some (some (.int .u8 0),1,1):=by kernel_rfl
def lie (j:Nat) (tl:List Int):List Value:=(List.replicate j (0:Int)++tl).map (Value.int .u8)
def LieRow (w0 wr:World) (count j:Nat) (tl:List Int):Prop:=
 wr.ownsRow w0.heap.size 5 1 (.slice (some ⟨w0.heap.size,0,none⟩) count count) count (lie j tl)∧Below w0.heap.size w0 wr
theorem LieRow.frozen {w0 wr:World} {count j:Nat} {tl:List Int} (h:LieRow w0 wr count j tl) (k:Nat):wr.frozen? ⟨w0.heap.size,k,none⟩=false:=h.1.frozenAt k
end Go.Proofs.Ytpdpgjilalojjaa.Field
end
