/- Texts of this seat, merged: what the proof reaches. -/
import Derived.Test.YtnpkcneojilmkaaDoorRows
import Derived.Shelf.Lays
section
namespace Go.Proofs.YtnpkcneojilmkaaDoor
open Go.Shelf
def Tryd.laysValid_ren:Go.Shelf.Ren:=⟨fun | 196 => 72 | 259 => 82 | n => n,fun | 9 => 9 | 4 => 4 | 3 => 3 | 5 => 5 | 12 => 12 | 119 => 110 | 0 => 0 | 46 => 114 | 139 => 113 | 138 => 112 | 53 => 116 | n => n,fun | 3 => 0 | 4 => 1 | n => n⟩
theorem Tryd.laysValid:Go.Proofs.Lays.n196 Tryd.prog Tryd.laysValid_ren:={
 mixed:=by kernel_rfl
 f196:=Tryd.func72.trans (congrArg some (by kernel_rfl))
 f259:=Tryd.func82.trans (congrArg some (by kernel_rfl))
 t0:=Tryd.underlying0
 a0:=Tryd.isAgg0
 z0:=Tryd.sizeOf0
 v0:=Tryd.zeroValue0
 t3:=Tryd.underlying3
 a3:=Tryd.isAgg3
 z3:=Tryd.sizeOf3
 v3:=Tryd.zeroValue3
 t4:=Tryd.underlying4
 a4:=Tryd.isAgg4
 z4:=Tryd.sizeOf4
 v4:=Tryd.zeroValue4
 t5:=Tryd.underlying5
 a5:=Tryd.isAgg5
 z5:=Tryd.sizeOf5
 v5:=Tryd.zeroValue5
 t9:=Tryd.underlying9
 a9:=Tryd.isAgg9
 z9:=Tryd.sizeOf9
 v9:=Tryd.zeroValue9
 t12:=Tryd.underlying12
 a12:=Tryd.isAgg12
 z12:=Tryd.sizeOf12
 v12:=Tryd.zeroValue12
 t46:=Tryd.underlying114
 a46:=Tryd.isAgg114
 z46:=Tryd.sizeOf114
 v46:=Tryd.zeroValue114
 t53:=Tryd.underlying116
 a53:=Tryd.isAgg116
 z53:=Tryd.sizeOf116
 v53:=Tryd.zeroValue116
 t119:=Tryd.underlying110
 a119:=Tryd.isAgg110
 z119:=Tryd.sizeOf110
 t138:=Tryd.underlying112
 a138:=Tryd.isAgg112
 z138:=Tryd.sizeOf112
 v138:=Tryd.zeroValue112
 t139:=Tryd.underlying113
 a139:=Tryd.isAgg113
 z139:=Tryd.sizeOf113
 v139:=Tryd.zeroValue113
 g3:=by kernel_rfl
 g4:=by kernel_rfl }
end Go.Proofs.YtnpkcneojilmkaaDoor
end
