/- Texts of this seat, merged: what the proof reaches. -/
import Derived.Test.YtfhelebejclalaaDoorRows
import Derived.Shelf.SlIter.Collect
section
namespace Go.Proofs.YtfhelebejclalaaDoor
open Go.Shelf
def Tryd.laysKeys_ren:Go.Shelf.Ren:=⟨fun | 7 => 42 | 10 => 52 | n => n,fun | 23 => 57 | 26 => 9 | 3 => 3 | 28 => 81 | 0 => 0 | 27 => 80 | 33 => 69 | 4 => 4 | n => n,fun | n => n⟩
theorem Tryd.laysKeys:Go.Proofs.SlLaysZ.n7 Tryd.prog Tryd.laysKeys_ren:={
 mixed:=by kernel_rfl
 f7:=⟨Tryd.f42.name,by decide,Tryd.func42.trans (congrArg some (by kernel_rfl))⟩
 f10:=⟨Tryd.f52.name,by decide,Tryd.func52.trans (congrArg some (by kernel_rfl))⟩
 t0:=Tryd.underlying0
 a0:=Tryd.isAgg0
 z0:=Tryd.sizeOf0
 v0:=Tryd.zeroValue0
 t4:=Tryd.underlying4
 a4:=Tryd.isAgg4
 z4:=Tryd.sizeOf4
 v4:=Tryd.zeroValue4
 t23:=Tryd.underlying57
 a23:=Tryd.isAgg57
 z23:=Tryd.sizeOf57
 v23:=Tryd.zeroValue57
 t26:=Tryd.underlying9
 a26:=Tryd.isAgg9
 z26:=Tryd.sizeOf9
 v26:=Tryd.zeroValue9
 t27:=Tryd.underlying80
 a27:=Tryd.isAgg80
 z27:=Tryd.sizeOf80
 v27:=Tryd.zeroValue80
 t28:=Tryd.underlying81
 a28:=Tryd.isAgg81
 z28:=Tryd.sizeOf81
 v28:=Tryd.zeroValue81
 t33:=Tryd.underlying69
 a33:=Tryd.isAgg69
 z33:=Tryd.sizeOf69
 v33:=Tryd.zeroValue69 }
def Tryd.laysColl_ren:Go.Shelf.Ren:=⟨fun | 8 => 50 | 11 => 60 | n => n,fun | 26 => 9 | 28 => 81 | 24 => 26 | 0 => 0 | 33 => 69 | 4 => 4 | n => n,fun | n => n⟩
theorem Tryd.laysColl:Go.Proofs.SlLaysZ.n8 Tryd.prog Tryd.laysColl_ren:={
 mixed:=by kernel_rfl
 f8:=⟨Tryd.f50.name,by decide,Tryd.func50.trans (congrArg some (by kernel_rfl))⟩
 f11:=⟨Tryd.f60.name,by decide,Tryd.func60.trans (congrArg some (by kernel_rfl))⟩
 t0:=Tryd.underlying0
 a0:=Tryd.isAgg0
 z0:=Tryd.sizeOf0
 v0:=Tryd.zeroValue0
 t24:=Tryd.underlying26
 a24:=Tryd.isAgg26
 z24:=Tryd.sizeOf26
 v24:=Tryd.zeroValue26
 t26:=Tryd.underlying9
 a26:=Tryd.isAgg9
 z26:=Tryd.sizeOf9
 v26:=Tryd.zeroValue9
 t28:=Tryd.underlying81
 a28:=Tryd.isAgg81
 z28:=Tryd.sizeOf81
 v28:=Tryd.zeroValue81
 i26:=by kernel_rfl }
end Go.Proofs.YtfhelebejclalaaDoor
end
