/- Merged. -/
import Derived.Test.YtdhibldkldlfpaaGreatDoorRows
import Derived.Shelf.Bytes.SlCut
namespace Go.Proofs.YtdhibldkldlfpaaGreatDoor
section
open Go.Shelf
def Tryz.zI:Go.Shelf.Ren:=⟨fun|4=>109|5=>139|6=>176|7=>78|8=>177|9=>178|10=>179|11=>205|12=>206|n=>n,fun|22=>26|4=>4|3=>3|0=>0|5=>5|29=>211|9=>9|31=>254|30=>248|n=>n,fun|0=>0|n=>n⟩
theorem Tryz.jz:Go.Proofs.SlLaysT.n4 Tryz.prog Tryz.zI:={
 mixed:=by kernel_rfl
 f4:=Tryz.func109.trans (congrArg some (by kernel_rfl))
 f5:=Tryz.func139.trans (congrArg some (by kernel_rfl))
 f6:=Tryz.func176.trans (congrArg some (by kernel_rfl))
 f7:=Tryz.func78.trans (congrArg some (by kernel_rfl))
 f8:=Tryz.func177.trans (congrArg some (by kernel_rfl))
 f9:=Tryz.func178.trans (congrArg some (by kernel_rfl))
 f10:=Tryz.func179.trans (congrArg some (by kernel_rfl))
 f11:=Tryz.func205.trans (congrArg some (by kernel_rfl))
 f12:=Tryz.func206.trans (congrArg some (by kernel_rfl))
 t0:=Tryz.underlying0
 a0:=Tryz.isAgg0
 z0:=Tryz.sizeOf0
 v0:=Tryz.zeroValue0
 t3:=Tryz.underlying3
 a3:=Tryz.isAgg3
 z3:=Tryz.sizeOf3
 v3:=Tryz.zeroValue3
 t4:=Tryz.underlying4
 a4:=Tryz.isAgg4
 z4:=Tryz.sizeOf4
 v4:=Tryz.zeroValue4
 t5:=Tryz.underlying5
 a5:=Tryz.isAgg5
 z5:=Tryz.sizeOf5
 v5:=Tryz.zeroValue5
 t9:=Tryz.underlying9
 a9:=Tryz.isAgg9
 z9:=Tryz.sizeOf9
 v9:=Tryz.zeroValue9
 t22:=Tryz.underlying26
 a22:=Tryz.isAgg26
 z22:=Tryz.sizeOf26
 v22:=Tryz.zeroValue26
 t29:=Tryz.underlying211
 a29:=Tryz.isAgg211
 z29:=Tryz.sizeOf211
 v29:=Tryz.zeroValue211
 t30:=Tryz.underlying248
 a30:=Tryz.isAgg248
 z30:=Tryz.sizeOf248
 v30:=Tryz.zeroValue248
 t31:=Tryz.underlying254
 a31:=Tryz.isAgg254
 z31:=Tryz.sizeOf254
 v31:=Tryz.zeroValue254
 g0:=by kernel_rfl}
end
end Go.Proofs.YtdhibldkldlfpaaGreatDoor
