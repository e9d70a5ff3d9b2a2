/- Contracts of the library's shelf, laid at this dump: the numbers of its functions and types, each body compared by the kernel. -/
import Derived.Test.YtindibabpfdljaaDoorRows
import Derived.Shelf.Bytes.SlTrim
namespace Go.Proofs.YtindibabpfdljaaDoor
open Go.Shelf
def Tryd.laysTrimLeft_ren : Go.Shelf.Ren := ⟨fun | 8 => 24 | 9 => 28 | 11 => 29 | 12 => 30 | 14 => 31 | 16 => 33 | 17 => 34 | 18 => 35 | 20 => 36 | n => n, fun | 22 => 22 | 9 => 9 | 3 => 3 | 4 => 4 | 5 => 5 | 28 => 65 | 27 => 64 | 0 => 0 | 31 => 68 | 33 => 70 | 21 => 21 | 36 => 73 | 37 => 74 | 40 => 77 | 39 => 76 | n => n, fun | 0 => 0 | 1 => 1 | n => n⟩
theorem Tryd.laysTrimLeft : Go.Proofs.SlLaysV.n8 Tryd.prog Tryd.laysTrimLeft_ren := {
  mixed := by kernel_rfl
  f8 := Tryd.func24.trans (congrArg some (by kernel_rfl))
  f9 := Tryd.func28.trans (congrArg some (by kernel_rfl))
  f11 := Tryd.func29.trans (congrArg some (by kernel_rfl))
  f12 := Tryd.func30.trans (congrArg some (by kernel_rfl))
  f14 := Tryd.func31.trans (congrArg some (by kernel_rfl))
  f16 := Tryd.func33.trans (congrArg some (by kernel_rfl))
  f17 := Tryd.func34.trans (congrArg some (by kernel_rfl))
  f18 := Tryd.func35.trans (congrArg some (by kernel_rfl))
  f20 := Tryd.func36.trans (congrArg some (by kernel_rfl))
  t0 := Tryd.underlying0
  a0 := Tryd.isAgg0
  z0 := Tryd.sizeOf0
  v0 := Tryd.zeroValue0
  t3 := Tryd.underlying3
  a3 := Tryd.isAgg3
  z3 := Tryd.sizeOf3
  v3 := Tryd.zeroValue3
  t4 := Tryd.underlying4
  a4 := Tryd.isAgg4
  z4 := Tryd.sizeOf4
  v4 := Tryd.zeroValue4
  t5 := Tryd.underlying5
  a5 := Tryd.isAgg5
  z5 := Tryd.sizeOf5
  v5 := Tryd.zeroValue5
  t9 := Tryd.underlying9
  a9 := Tryd.isAgg9
  z9 := Tryd.sizeOf9
  v9 := Tryd.zeroValue9
  t21 := Tryd.underlying21
  a21 := Tryd.isAgg21
  z21 := Tryd.sizeOf21
  v21 := Tryd.zeroValue21
  t22 := Tryd.underlying22
  a22 := Tryd.isAgg22
  z22 := Tryd.sizeOf22
  v22 := Tryd.zeroValue22
  t27 := Tryd.underlying64
  a27 := Tryd.isAgg64
  z27 := Tryd.sizeOf64
  t28 := Tryd.underlying65
  a28 := Tryd.isAgg65
  z28 := Tryd.sizeOf65
  v28 := Tryd.zeroValue65
  t31 := Tryd.underlying68
  a31 := Tryd.isAgg68
  z31 := Tryd.sizeOf68
  v31 := Tryd.zeroValue68
  t33 := Tryd.underlying70
  a33 := Tryd.isAgg70
  z33 := Tryd.sizeOf70
  v33 := Tryd.zeroValue70
  t36 := Tryd.underlying73
  a36 := Tryd.isAgg73
  z36 := Tryd.sizeOf73
  t37 := Tryd.underlying74
  a37 := Tryd.isAgg74
  z37 := Tryd.sizeOf74
  v37 := Tryd.zeroValue74
  t39 := Tryd.underlying76
  a39 := Tryd.isAgg76
  z39 := Tryd.sizeOf76
  v39 := Tryd.zeroValue76
  t40 := Tryd.underlying77
  a40 := Tryd.isAgg77
  z40 := Tryd.sizeOf77
  v40 := Tryd.zeroValue77 }
end Go.Proofs.YtindibabpfdljaaDoor
