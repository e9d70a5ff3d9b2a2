/- Texts of this seat, merged: what the proof reaches. -/
import Derived.Test.YthaoohbdjlbaeaaDoorRows
import Derived.Shelf.Lays
section
namespace Go.Proofs.YthaoohbdjlbaeaaDoor
open Go.Shelf
def Tryd.laysValid_ren:Go.Shelf.Ren:=⟨fun | 196 => 68 | 259 => 83 | n => n,fun | 9 => 9 | 4 => 4 | 3 => 3 | 5 => 5 | 12 => 12 | 119 => 114 | 0 => 0 | 46 => 93 | 139 => 117 | 138 => 116 | 53 => 112 | n => n,fun | 3 => 0 | 4 => 1 | n => n⟩
theorem Tryd.laysValid:Go.Proofs.Lays.n196 Tryd.prog Tryd.laysValid_ren:={
 mixed:=by kernel_rfl
 f196:=Tryd.func68.trans (congrArg some (by kernel_rfl))
 f259:=Tryd.func83.trans (congrArg some (by kernel_rfl))
 t0:=Tryd.underlying0
 a0:=Tryd.isAgg0
 z0:=Tryd.sizeOf0
 v0:=Tryd.zeroValue0
 t3:=Tryd.underlying3
 a3:=Tryd.isAgg3
 z3:=Tryd.sizeOf3
 v3:=Tryd.zeroValue3
 t4:=Tryd.underlying4
 a4:=Tryd.isAgg4
 z4:=Tryd.sizeOf4
 v4:=Tryd.zeroValue4
 t5:=Tryd.underlying5
 a5:=Tryd.isAgg5
 z5:=Tryd.sizeOf5
 v5:=Tryd.zeroValue5
 t9:=Tryd.underlying9
 a9:=Tryd.isAgg9
 z9:=Tryd.sizeOf9
 v9:=Tryd.zeroValue9
 t12:=Tryd.underlying12
 a12:=Tryd.isAgg12
 z12:=Tryd.sizeOf12
 v12:=Tryd.zeroValue12
 t46:=Tryd.underlying93
 a46:=Tryd.isAgg93
 z46:=Tryd.sizeOf93
 v46:=Tryd.zeroValue93
 t53:=Tryd.underlying112
 a53:=Tryd.isAgg112
 z53:=Tryd.sizeOf112
 v53:=Tryd.zeroValue112
 t119:=Tryd.underlying114
 a119:=Tryd.isAgg114
 z119:=Tryd.sizeOf114
 t138:=Tryd.underlying116
 a138:=Tryd.isAgg116
 z138:=Tryd.sizeOf116
 v138:=Tryd.zeroValue116
 t139:=Tryd.underlying117
 a139:=Tryd.isAgg117
 z139:=Tryd.sizeOf117
 v139:=Tryd.zeroValue117
 g3:=by kernel_rfl
 g4:=by kernel_rfl }
end Go.Proofs.YthaoohbdjlbaeaaDoor
end
