/- Texts of this seat, merged: what the proof reaches. -/
import Derived.Test.YtnpkcneojilmkaaGreatDoorRows
import Derived.Shelf.Bytes.SlCut
section
namespace Go.Proofs.YtnpkcneojilmkaaGreatDoor
open Go.Shelf
def Tryz.laysCut_ren:Go.Shelf.Ren:=⟨fun | 4 => 80 | 5 => 106 | 6 => 136 | 7 => 44 | 8 => 137 | 9 => 138 | 10 => 139 | 11 => 153 | 12 => 154 | n => n,fun | 22 => 24 | 4 => 4 | 3 => 3 | 0 => 0 | 5 => 5 | 29 => 183 | 9 => 9 | 31 => 202 | 30 => 201 | n => n,fun | 0 => 0 | n => n⟩
theorem Tryz.laysCut:Go.Proofs.SlLaysT.n4 Tryz.prog Tryz.laysCut_ren:={
 mixed:=by kernel_rfl
 f4:=Tryz.func80.trans (congrArg some (by kernel_rfl))
 f5:=Tryz.func106.trans (congrArg some (by kernel_rfl))
 f6:=Tryz.func136.trans (congrArg some (by kernel_rfl))
 f7:=Tryz.func44.trans (congrArg some (by kernel_rfl))
 f8:=Tryz.func137.trans (congrArg some (by kernel_rfl))
 f9:=Tryz.func138.trans (congrArg some (by kernel_rfl))
 f10:=Tryz.func139.trans (congrArg some (by kernel_rfl))
 f11:=Tryz.func153.trans (congrArg some (by kernel_rfl))
 f12:=Tryz.func154.trans (congrArg some (by kernel_rfl))
 t0:=Tryz.underlying0
 a0:=Tryz.isAgg0
 z0:=Tryz.sizeOf0
 v0:=Tryz.zeroValue0
 t3:=Tryz.underlying3
 a3:=Tryz.isAgg3
 z3:=Tryz.sizeOf3
 v3:=Tryz.zeroValue3
 t4:=Tryz.underlying4
 a4:=Tryz.isAgg4
 z4:=Tryz.sizeOf4
 v4:=Tryz.zeroValue4
 t5:=Tryz.underlying5
 a5:=Tryz.isAgg5
 z5:=Tryz.sizeOf5
 v5:=Tryz.zeroValue5
 t9:=Tryz.underlying9
 a9:=Tryz.isAgg9
 z9:=Tryz.sizeOf9
 v9:=Tryz.zeroValue9
 t22:=Tryz.underlying24
 a22:=Tryz.isAgg24
 z22:=Tryz.sizeOf24
 v22:=Tryz.zeroValue24
 t29:=Tryz.underlying183
 a29:=Tryz.isAgg183
 z29:=Tryz.sizeOf183
 v29:=Tryz.zeroValue183
 t30:=Tryz.underlying201
 a30:=Tryz.isAgg201
 z30:=Tryz.sizeOf201
 v30:=Tryz.zeroValue201
 t31:=Tryz.underlying202
 a31:=Tryz.isAgg202
 z31:=Tryz.sizeOf202
 v31:=Tryz.zeroValue202
 g0:=by kernel_rfl }
end Go.Proofs.YtnpkcneojilmkaaGreatDoor
end
