/- Contracts of the library's shelf, laid at this dump: the numbers of its functions and types, each body compared by the kernel. -/
import Derived.Test.YtodlkjlcihcciaaDoorRows
import Derived.Shelf.Bytes.SlCut
namespace Go.Proofs.YtodlkjlcihcciaaDoor
open Go.Shelf
def Tryd.laysCut_ren : Go.Shelf.Ren := ⟨fun | 4 => 25 | 5 => 32 | 6 => 38 | 7 => 39 | 8 => 40 | 9 => 41 | 10 => 42 | 11 => 50 | 12 => 51 | n => n, fun | 22 => 22 | 4 => 4 | 3 => 3 | 0 => 0 | 5 => 5 | 29 => 67 | 9 => 9 | 31 => 71 | 30 => 39 | n => n, fun | 0 => 0 | n => n⟩
theorem Tryd.laysCut : Go.Proofs.SlLaysT.n4 Tryd.prog Tryd.laysCut_ren := {
  mixed := by kernel_rfl
  f4 := Tryd.func25.trans (congrArg some (by kernel_rfl))
  f5 := Tryd.func32.trans (congrArg some (by kernel_rfl))
  f6 := Tryd.func38.trans (congrArg some (by kernel_rfl))
  f7 := Tryd.func39.trans (congrArg some (by kernel_rfl))
  f8 := Tryd.func40.trans (congrArg some (by kernel_rfl))
  f9 := Tryd.func41.trans (congrArg some (by kernel_rfl))
  f10 := Tryd.func42.trans (congrArg some (by kernel_rfl))
  f11 := Tryd.func50.trans (congrArg some (by kernel_rfl))
  f12 := Tryd.func51.trans (congrArg some (by kernel_rfl))
  t0 := Tryd.underlying0
  a0 := Tryd.isAgg0
  z0 := Tryd.sizeOf0
  v0 := Tryd.zeroValue0
  t3 := Tryd.underlying3
  a3 := Tryd.isAgg3
  z3 := Tryd.sizeOf3
  v3 := Tryd.zeroValue3
  t4 := Tryd.underlying4
  a4 := Tryd.isAgg4
  z4 := Tryd.sizeOf4
  v4 := Tryd.zeroValue4
  t5 := Tryd.underlying5
  a5 := Tryd.isAgg5
  z5 := Tryd.sizeOf5
  v5 := Tryd.zeroValue5
  t9 := Tryd.underlying9
  a9 := Tryd.isAgg9
  z9 := Tryd.sizeOf9
  v9 := Tryd.zeroValue9
  t22 := Tryd.underlying22
  a22 := Tryd.isAgg22
  z22 := Tryd.sizeOf22
  v22 := Tryd.zeroValue22
  t29 := Tryd.underlying67
  a29 := Tryd.isAgg67
  z29 := Tryd.sizeOf67
  v29 := Tryd.zeroValue67
  t30 := Tryd.underlying39
  a30 := Tryd.isAgg39
  z30 := Tryd.sizeOf39
  v30 := Tryd.zeroValue39
  t31 := Tryd.underlying71
  a31 := Tryd.isAgg71
  z31 := Tryd.sizeOf71
  v31 := Tryd.zeroValue71
  g0 := by kernel_rfl }
end Go.Proofs.YtodlkjlcihcciaaDoor
