/- Texts of this seat, merged: what the proof reaches. -/
import Derived.Test.YtpdpgjilalojjaaRecPutsX7
import Derived.Deep.AppendLies
namespace Go.Proofs.Ytpdpgjilalojjaa
namespace Base
end Base
namespace Byt
end Byt
namespace Fp
end Fp
namespace Num
end Num
end Go.Proofs.Ytpdpgjilalojjaa
section
namespace Go.Proofs.Ytpdpgjilalojjaa.Field
open Go.ChangeShapes Go.WideShapes Go.ChangeAt Go.RowKit Base Num Fp Byt
set_option linter.unusedVariables false
theorem infoByte:(Try.prog.info? 5).map (fun i => (i.zero,i.size,i.bytes))=some (some (.int .u8 0),1,1):=by kernel_rfl
def lie (j:Nat) (tl:List Int):List Value:=(List.replicate j (0:Int)++tl).map (Value.int .u8)
theorem lie_set (j:Nat) (tl:List Int) (x:Int):(lie (j+1) tl).set j (.int .u8 x)=lie j (x :: tl):=by
 unfold lie;rw [← List.map_set,List.set_append_left _ _ (by simp)]
 congr 1
 rw [List.replicate_succ',List.set_append_right _ _ (by simp)]
 simp
theorem lie_get (j k:Nat) (tl:List Int) (h:k < j):(lie j tl)[k]? = some (.int .u8 0):=by
 unfold lie;rw [List.getElem?_map,List.getElem?_append_left (by simpa using h),List.getElem?_replicate,if_pos h]
 rfl
theorem lie_made (n:Nat):(madeCells #[Value.int .u8 0] n).toList=lie n []:=by
 rw [toList_madeCells_one,lie,List.append_nil,List.map_replicate]
def LieRow (w0 wr:World) (count j:Nat) (tl:List Int):Prop:=
 wr.ownsRow w0.heap.size 5 1 (.slice (some ⟨w0.heap.size,0,none⟩) count count) count (lie j tl)∧Below w0.heap.size w0 wr
theorem LieRow.cell {w0 wr:World} {count j:Nat} {tl:List Int} (h:LieRow w0 wr count j tl) (k:Nat) (hk:k < j) (hj:j≤count):wr.cell? ⟨w0.heap.size,k,none⟩=some (.int .u8 0):=by
 rw [h.1.cellAt k (by omega),lie_get j k tl hk]
theorem LieRow.frozen {w0 wr:World} {count j:Nat} {tl:List Int} (h:LieRow w0 wr count j tl) (k:Nat):wr.frozen? ⟨w0.heap.size,k,none⟩=false:=h.1.frozenAt k
theorem LieRow.store {w0 wr:World} {count j:Nat} {tl:List Int} (h:LieRow w0 wr count (j+1) tl) (x:Int):LieRow w0 (wr.setCell ⟨w0.heap.size,j,none⟩ (.int .u8 x)) count j (x :: tl):=by
 have:=(h.1.stored j (.int .u8 x)).1;rw [lie_set] at this;exact ⟨this,h.2.setCell (by simp) _⟩
end Go.Proofs.Ytpdpgjilalojjaa.Field
end
