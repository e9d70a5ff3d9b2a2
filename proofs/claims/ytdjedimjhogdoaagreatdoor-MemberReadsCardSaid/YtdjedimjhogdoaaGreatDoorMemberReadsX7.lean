/- Texts of this seat, merged: what the proof reaches. -/
import Derived.Test.YtdjedimjhogdoaaGreatDoorRows
import Derived.Shelf.Bytes.SlCut
section
namespace Go.Proofs.YtdjedimjhogdoaaGreatDoor
open Go.Shelf
def Tryz.laysCut_ren:Go.Shelf.Ren:=⟨fun | 4 => 80 | 5 => 100 | 6 => 123 | 7 => 43 | 8 => 124 | 9 => 125 | 10 => 126 | 11 => 138 | 12 => 139 | n => n,fun | 22 => 22 | 4 => 4 | 3 => 3 | 0 => 0 | 5 => 5 | 29 => 174 | 9 => 9 | 31 => 190 | 30 => 42 | n => n,fun | 0 => 0 | n => n⟩
theorem Tryz.laysCut:Go.Proofs.SlLaysT.n4 Tryz.prog Tryz.laysCut_ren:={
 mixed:=by kernel_rfl
 f4:=Tryz.func80.trans (congrArg some (by kernel_rfl))
 f5:=Tryz.func100.trans (congrArg some (by kernel_rfl))
 f6:=Tryz.func123.trans (congrArg some (by kernel_rfl))
 f7:=Tryz.func43.trans (congrArg some (by kernel_rfl))
 f8:=Tryz.func124.trans (congrArg some (by kernel_rfl))
 f9:=Tryz.func125.trans (congrArg some (by kernel_rfl))
 f10:=Tryz.func126.trans (congrArg some (by kernel_rfl))
 f11:=Tryz.func138.trans (congrArg some (by kernel_rfl))
 f12:=Tryz.func139.trans (congrArg some (by kernel_rfl))
 t0:=Tryz.underlying0
 a0:=Tryz.isAgg0
 z0:=Tryz.sizeOf0
 v0:=Tryz.zeroValue0
 t3:=Tryz.underlying3
 a3:=Tryz.isAgg3
 z3:=Tryz.sizeOf3
 v3:=Tryz.zeroValue3
 t4:=Tryz.underlying4
 a4:=Tryz.isAgg4
 z4:=Tryz.sizeOf4
 v4:=Tryz.zeroValue4
 t5:=Tryz.underlying5
 a5:=Tryz.isAgg5
 z5:=Tryz.sizeOf5
 v5:=Tryz.zeroValue5
 t9:=Tryz.underlying9
 a9:=Tryz.isAgg9
 z9:=Tryz.sizeOf9
 v9:=Tryz.zeroValue9
 t22:=Tryz.underlying22
 a22:=Tryz.isAgg22
 z22:=Tryz.sizeOf22
 v22:=Tryz.zeroValue22
 t29:=Tryz.underlying174
 a29:=Tryz.isAgg174
 z29:=Tryz.sizeOf174
 v29:=Tryz.zeroValue174
 t30:=Tryz.underlying42
 a30:=Tryz.isAgg42
 z30:=Tryz.sizeOf42
 v30:=Tryz.zeroValue42
 t31:=Tryz.underlying190
 a31:=Tryz.isAgg190
 z31:=Tryz.sizeOf190
 v31:=Tryz.zeroValue190
 g0:=by kernel_rfl }
end Go.Proofs.YtdjedimjhogdoaaGreatDoor
end
