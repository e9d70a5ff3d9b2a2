/- Contracts of the library's shelf, laid at this dump: the numbers of its functions and types, each body compared by the kernel. -/
import Derived.Test.YtefgljapmncncaaDoorRows
import Derived.Shelf.Bytes.SlCut
namespace Go.Proofs.YtefgljapmncncaaDoor
open Go.Shelf
def Tryd.laysCut_ren : Go.Shelf.Ren := ⟨fun | 4 => 41 | 5 => 54 | 6 => 60 | 7 => 61 | 8 => 62 | 9 => 63 | 10 => 64 | 11 => 70 | 12 => 71 | n => n, fun | 22 => 22 | 4 => 4 | 3 => 3 | 0 => 0 | 5 => 5 | 29 => 92 | 9 => 9 | 31 => 95 | 30 => 94 | n => n, fun | 0 => 0 | n => n⟩
theorem Tryd.laysCut : Go.Proofs.SlLaysT.n4 Tryd.prog Tryd.laysCut_ren := {
  mixed := by kernel_rfl
  f4 := Tryd.func41.trans (congrArg some (by kernel_rfl))
  f5 := Tryd.func54.trans (congrArg some (by kernel_rfl))
  f6 := Tryd.func60.trans (congrArg some (by kernel_rfl))
  f7 := Tryd.func61.trans (congrArg some (by kernel_rfl))
  f8 := Tryd.func62.trans (congrArg some (by kernel_rfl))
  f9 := Tryd.func63.trans (congrArg some (by kernel_rfl))
  f10 := Tryd.func64.trans (congrArg some (by kernel_rfl))
  f11 := Tryd.func70.trans (congrArg some (by kernel_rfl))
  f12 := Tryd.func71.trans (congrArg some (by kernel_rfl))
  t0 := Tryd.underlying0
  a0 := Tryd.isAgg0
  z0 := Tryd.sizeOf0
  v0 := Tryd.zeroValue0
  t3 := Tryd.underlying3
  a3 := Tryd.isAgg3
  z3 := Tryd.sizeOf3
  v3 := Tryd.zeroValue3
  t4 := Tryd.underlying4
  a4 := Tryd.isAgg4
  z4 := Tryd.sizeOf4
  v4 := Tryd.zeroValue4
  t5 := Tryd.underlying5
  a5 := Tryd.isAgg5
  z5 := Tryd.sizeOf5
  v5 := Tryd.zeroValue5
  t9 := Tryd.underlying9
  a9 := Tryd.isAgg9
  z9 := Tryd.sizeOf9
  v9 := Tryd.zeroValue9
  t22 := Tryd.underlying22
  a22 := Tryd.isAgg22
  z22 := Tryd.sizeOf22
  v22 := Tryd.zeroValue22
  t29 := Tryd.underlying92
  a29 := Tryd.isAgg92
  z29 := Tryd.sizeOf92
  v29 := Tryd.zeroValue92
  t30 := Tryd.underlying94
  a30 := Tryd.isAgg94
  z30 := Tryd.sizeOf94
  v30 := Tryd.zeroValue94
  t31 := Tryd.underlying95
  a31 := Tryd.isAgg95
  z31 := Tryd.sizeOf95
  v31 := Tryd.zeroValue95
  g0 := by kernel_rfl }
end Go.Proofs.YtefgljapmncncaaDoor
