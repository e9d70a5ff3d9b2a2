/- Contracts of the library's shelf, laid at this dump: the numbers of its functions and types, each body compared by the kernel. -/
import Derived.Test.YtdnelijkhinpcabDoorRows
import Derived.Shelf.Bytes.SlCut
namespace Go.Proofs.YtdnelijkhinpcabDoor
open Go.Shelf
def Tryd.laysCut_ren : Go.Shelf.Ren := ⟨fun | 4 => 37 | 5 => 48 | 6 => 57 | 7 => 58 | 8 => 59 | 9 => 51 | 10 => 60 | 11 => 65 | 12 => 66 | n => n, fun | 22 => 27 | 4 => 4 | 3 => 3 | 0 => 0 | 5 => 5 | 29 => 81 | 9 => 9 | 31 => 89 | 30 => 88 | n => n, fun | 0 => 0 | n => n⟩
theorem Tryd.laysCut : Go.Proofs.SlLaysT.n4 Tryd.prog Tryd.laysCut_ren := {
  mixed := by kernel_rfl
  f4 := Tryd.func37.trans (congrArg some (by kernel_rfl))
  f5 := Tryd.func48.trans (congrArg some (by kernel_rfl))
  f6 := Tryd.func57.trans (congrArg some (by kernel_rfl))
  f7 := Tryd.func58.trans (congrArg some (by kernel_rfl))
  f8 := Tryd.func59.trans (congrArg some (by kernel_rfl))
  f9 := Tryd.func51.trans (congrArg some (by kernel_rfl))
  f10 := Tryd.func60.trans (congrArg some (by kernel_rfl))
  f11 := Tryd.func65.trans (congrArg some (by kernel_rfl))
  f12 := Tryd.func66.trans (congrArg some (by kernel_rfl))
  t0 := Tryd.underlying0
  a0 := Tryd.isAgg0
  z0 := Tryd.sizeOf0
  v0 := Tryd.zeroValue0
  t3 := Tryd.underlying3
  a3 := Tryd.isAgg3
  z3 := Tryd.sizeOf3
  v3 := Tryd.zeroValue3
  t4 := Tryd.underlying4
  a4 := Tryd.isAgg4
  z4 := Tryd.sizeOf4
  v4 := Tryd.zeroValue4
  t5 := Tryd.underlying5
  a5 := Tryd.isAgg5
  z5 := Tryd.sizeOf5
  v5 := Tryd.zeroValue5
  t9 := Tryd.underlying9
  a9 := Tryd.isAgg9
  z9 := Tryd.sizeOf9
  v9 := Tryd.zeroValue9
  t22 := Tryd.underlying27
  a22 := Tryd.isAgg27
  z22 := Tryd.sizeOf27
  v22 := Tryd.zeroValue27
  t29 := Tryd.underlying81
  a29 := Tryd.isAgg81
  z29 := Tryd.sizeOf81
  v29 := Tryd.zeroValue81
  t30 := Tryd.underlying88
  a30 := Tryd.isAgg88
  z30 := Tryd.sizeOf88
  v30 := Tryd.zeroValue88
  t31 := Tryd.underlying89
  a31 := Tryd.isAgg89
  z31 := Tryd.sizeOf89
  v31 := Tryd.zeroValue89
  g0 := by kernel_rfl }
end Go.Proofs.YtdnelijkhinpcabDoor
