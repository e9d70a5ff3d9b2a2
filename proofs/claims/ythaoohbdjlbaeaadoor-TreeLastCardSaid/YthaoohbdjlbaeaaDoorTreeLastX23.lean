/- Texts of this seat, merged: what the proof reaches. -/
import Derived.Test.YthaoohbdjlbaeaaDoorRows
import Derived.Shelf.SlIter.Collect
section
namespace Go.Proofs.YthaoohbdjlbaeaaDoor
open Go.Shelf
def Tryd.laysKeys_ren:Go.Shelf.Ren:=⟨fun | 7 => 46 | 10 => 58 | n => n,fun | 23 => 75 | 26 => 9 | 3 => 3 | 28 => 81 | 0 => 0 | 27 => 80 | 33 => 67 | 4 => 4 | n => n,fun | n => n⟩
theorem Tryd.laysKeys:Go.Proofs.SlLaysZ.n7 Tryd.prog Tryd.laysKeys_ren:={
 mixed:=by kernel_rfl
 f7:=⟨Tryd.f46.name,by decide,Tryd.func46.trans (congrArg some (by kernel_rfl))⟩
 f10:=⟨Tryd.f58.name,by decide,Tryd.func58.trans (congrArg some (by kernel_rfl))⟩
 t0:=Tryd.underlying0
 a0:=Tryd.isAgg0
 z0:=Tryd.sizeOf0
 v0:=Tryd.zeroValue0
 t4:=Tryd.underlying4
 a4:=Tryd.isAgg4
 z4:=Tryd.sizeOf4
 v4:=Tryd.zeroValue4
 t23:=Tryd.underlying75
 a23:=Tryd.isAgg75
 z23:=Tryd.sizeOf75
 v23:=Tryd.zeroValue75
 t26:=Tryd.underlying9
 a26:=Tryd.isAgg9
 z26:=Tryd.sizeOf9
 v26:=Tryd.zeroValue9
 t27:=Tryd.underlying80
 a27:=Tryd.isAgg80
 z27:=Tryd.sizeOf80
 v27:=Tryd.zeroValue80
 t28:=Tryd.underlying81
 a28:=Tryd.isAgg81
 z28:=Tryd.sizeOf81
 v28:=Tryd.zeroValue81
 t33:=Tryd.underlying67
 a33:=Tryd.isAgg67
 z33:=Tryd.sizeOf67
 v33:=Tryd.zeroValue67 }
def Tryd.laysColl_ren:Go.Shelf.Ren:=⟨fun | 8 => 56 | 11 => 65 | n => n,fun | 26 => 9 | 28 => 81 | 24 => 78 | 0 => 0 | 33 => 67 | 4 => 4 | n => n,fun | n => n⟩
theorem Tryd.laysColl:Go.Proofs.SlLaysZ.n8 Tryd.prog Tryd.laysColl_ren:={
 mixed:=by kernel_rfl
 f8:=⟨Tryd.f56.name,by decide,Tryd.func56.trans (congrArg some (by kernel_rfl))⟩
 f11:=⟨Tryd.f65.name,by decide,Tryd.func65.trans (congrArg some (by kernel_rfl))⟩
 t0:=Tryd.underlying0
 a0:=Tryd.isAgg0
 z0:=Tryd.sizeOf0
 v0:=Tryd.zeroValue0
 t24:=Tryd.underlying78
 a24:=Tryd.isAgg78
 z24:=Tryd.sizeOf78
 v24:=Tryd.zeroValue78
 t26:=Tryd.underlying9
 a26:=Tryd.isAgg9
 z26:=Tryd.sizeOf9
 v26:=Tryd.zeroValue9
 t28:=Tryd.underlying81
 a28:=Tryd.isAgg81
 z28:=Tryd.sizeOf81
 v28:=Tryd.zeroValue81
 i26:=by kernel_rfl }
end Go.Proofs.YthaoohbdjlbaeaaDoor
end
