/- Texts of this seat, merged: what the proof reaches. -/
import Derived.Test.YtfhelebejclalaaDoorRows
import Derived.Shelf.Lays
section
namespace Go.Proofs.YtfhelebejclalaaDoor
open Go.Shelf
def Tryd.laysValid_ren:Go.Shelf.Ren:=⟨fun | 196 => 63 | 259 => 78 | n => n,fun | 9 => 9 | 4 => 4 | 3 => 3 | 5 => 5 | 12 => 12 | 119 => 113 | 0 => 0 | 46 => 98 | 139 => 116 | 138 => 115 | 53 => 111 | n => n,fun | 3 => 0 | 4 => 1 | n => n⟩
theorem Tryd.laysValid:Go.Proofs.Lays.n196 Tryd.prog Tryd.laysValid_ren:={
 mixed:=by kernel_rfl
 f196:=Tryd.func63.trans (congrArg some (by kernel_rfl))
 f259:=Tryd.func78.trans (congrArg some (by kernel_rfl))
 t0:=Tryd.underlying0
 a0:=Tryd.isAgg0
 z0:=Tryd.sizeOf0
 v0:=Tryd.zeroValue0
 t3:=Tryd.underlying3
 a3:=Tryd.isAgg3
 z3:=Tryd.sizeOf3
 v3:=Tryd.zeroValue3
 t4:=Tryd.underlying4
 a4:=Tryd.isAgg4
 z4:=Tryd.sizeOf4
 v4:=Tryd.zeroValue4
 t5:=Tryd.underlying5
 a5:=Tryd.isAgg5
 z5:=Tryd.sizeOf5
 v5:=Tryd.zeroValue5
 t9:=Tryd.underlying9
 a9:=Tryd.isAgg9
 z9:=Tryd.sizeOf9
 v9:=Tryd.zeroValue9
 t12:=Tryd.underlying12
 a12:=Tryd.isAgg12
 z12:=Tryd.sizeOf12
 v12:=Tryd.zeroValue12
 t46:=Tryd.underlying98
 a46:=Tryd.isAgg98
 z46:=Tryd.sizeOf98
 v46:=Tryd.zeroValue98
 t53:=Tryd.underlying111
 a53:=Tryd.isAgg111
 z53:=Tryd.sizeOf111
 v53:=Tryd.zeroValue111
 t119:=Tryd.underlying113
 a119:=Tryd.isAgg113
 z119:=Tryd.sizeOf113
 t138:=Tryd.underlying115
 a138:=Tryd.isAgg115
 z138:=Tryd.sizeOf115
 v138:=Tryd.zeroValue115
 t139:=Tryd.underlying116
 a139:=Tryd.isAgg116
 z139:=Tryd.sizeOf116
 v139:=Tryd.zeroValue116
 g3:=by kernel_rfl
 g4:=by kernel_rfl }
end Go.Proofs.YtfhelebejclalaaDoor
end
