/- Texts of this seat, merged: what the proof reaches. -/
import Derived.Test.YthaoohbdjlbaeaaDoorRows
import Derived.Shelf.SlSortCmp.NoneTotal
section
namespace Go.Proofs.YthaoohbdjlbaeaaDoor
open Go.Shelf
def Tryd.laysSortZ_ren:Go.Shelf.Ren:=⟨fun | 6 => 57 | 15 => 67 | 14 => 66 | 28 => 81 | 29 => 82 | 20 => 73 | 21 => 74 | 22 => 75 | 23 => 76 | 24 => 77 | 25 => 78 | 26 => 79 | 27 => 80 | 46 => 86 | 47 => 87 | 48 => 88 | 49 => 89 | 50 => 90 | 57 => 92 | n => n,fun | 22 => 78 | 24 => 9 | 25 => 83 | 3 => 3 | 39 => 93 | 0 => 0 | 53 => 110 | 55 => 112 | 4 => 4 | 46 => 104 | 45 => 103 | 50 => 62 | 5 => 5 | 9 => 9 | 66 => 118 | 70 => 122 | 76 => 124 | 77 => 125 | n => n,fun | n => n⟩
theorem Tryd.laysSortZ:Go.Proofs.SlLaysF0.n6 Tryd.prog Tryd.laysSortZ_ren:={
 mixed:=by kernel_rfl
 f6:=⟨Tryd.f57.name,by decide,Tryd.func57.trans (congrArg some (by kernel_rfl))⟩
 f14:=⟨Tryd.f66.name,by decide,Tryd.func66.trans (congrArg some (by kernel_rfl))⟩
 f15:=Tryd.func67.trans (congrArg some (by kernel_rfl))
 f20:=⟨Tryd.f73.name,by decide,Tryd.func73.trans (congrArg some (by kernel_rfl))⟩
 f21:=⟨Tryd.f74.name,by decide,Tryd.func74.trans (congrArg some (by kernel_rfl))⟩
 f22:=⟨Tryd.f75.name,by decide,Tryd.func75.trans (congrArg some (by kernel_rfl))⟩
 f23:=⟨Tryd.f76.name,by decide,Tryd.func76.trans (congrArg some (by kernel_rfl))⟩
 f24:=⟨Tryd.f77.name,by decide,Tryd.func77.trans (congrArg some (by kernel_rfl))⟩
 f25:=⟨Tryd.f78.name,by decide,Tryd.func78.trans (congrArg some (by kernel_rfl))⟩
 f26:=⟨Tryd.f79.name,by decide,Tryd.func79.trans (congrArg some (by kernel_rfl))⟩
 f27:=⟨Tryd.f80.name,by decide,Tryd.func80.trans (congrArg some (by kernel_rfl))⟩
 f28:=Tryd.func81.trans (congrArg some (by kernel_rfl))
 f29:=Tryd.func82.trans (congrArg some (by kernel_rfl))
 f46:=⟨Tryd.f86.name,by decide,Tryd.func86.trans (congrArg some (by kernel_rfl))⟩
 f47:=Tryd.func87.trans (congrArg some (by kernel_rfl))
 f48:=Tryd.func88.trans (congrArg some (by kernel_rfl))
 f49:=⟨Tryd.f89.name,by decide,Tryd.func89.trans (congrArg some (by kernel_rfl))⟩
 f50:=⟨Tryd.f90.name,by decide,Tryd.func90.trans (congrArg some (by kernel_rfl))⟩
 f57:=⟨Tryd.f92.name,by decide,Tryd.func92.trans (congrArg some (by kernel_rfl))⟩
 t0:=Tryd.underlying0
 a0:=Tryd.isAgg0
 z0:=Tryd.sizeOf0
 v0:=Tryd.zeroValue0
 t3:=Tryd.underlying3
 a3:=Tryd.isAgg3
 z3:=Tryd.sizeOf3
 v3:=Tryd.zeroValue3
 t4:=Tryd.underlying4
 a4:=Tryd.isAgg4
 z4:=Tryd.sizeOf4
 v4:=Tryd.zeroValue4
 t5:=Tryd.underlying5
 a5:=Tryd.isAgg5
 z5:=Tryd.sizeOf5
 v5:=Tryd.zeroValue5
 t9:=Tryd.underlying9
 a9:=Tryd.isAgg9
 z9:=Tryd.sizeOf9
 v9:=Tryd.zeroValue9
 t22:=Tryd.underlying78
 a22:=Tryd.isAgg78
 z22:=Tryd.sizeOf78
 v22:=Tryd.zeroValue78
 t25:=Tryd.underlying83
 a25:=Tryd.isAgg83
 z25:=Tryd.sizeOf83
 v25:=Tryd.zeroValue83
 t39:=Tryd.underlying93
 a39:=Tryd.isAgg93
 z39:=Tryd.sizeOf93
 v39:=Tryd.zeroValue93
 t45:=Tryd.underlying103
 a45:=Tryd.isAgg103
 z45:=Tryd.sizeOf103
 v45:=Tryd.zeroValue103
 t46:=Tryd.underlying104
 a46:=Tryd.isAgg104
 z46:=Tryd.sizeOf104
 v46:=Tryd.zeroValue104
 t50:=Tryd.underlying62
 a50:=Tryd.isAgg62
 z50:=Tryd.sizeOf62
 v50:=Tryd.zeroValue62
 t53:=Tryd.underlying110
 a53:=Tryd.isAgg110
 z53:=Tryd.sizeOf110
 v53:=Tryd.zeroValue110
 t55:=Tryd.underlying112
 a55:=Tryd.isAgg112
 z55:=Tryd.sizeOf112
 v55:=Tryd.zeroValue112
 t66:=Tryd.underlying118
 a66:=Tryd.isAgg118
 z66:=Tryd.sizeOf118
 v66:=Tryd.zeroValue118
 t70:=Tryd.underlying122
 a70:=Tryd.isAgg122
 z70:=Tryd.sizeOf122
 v70:=Tryd.zeroValue122
 t76:=Tryd.underlying124
 a76:=Tryd.isAgg124
 z76:=Tryd.sizeOf124
 v76:=Tryd.zeroValue124
 t77:=Tryd.underlying125
 a77:=Tryd.isAgg125
 z77:=Tryd.sizeOf125
 v77:=Tryd.zeroValue125 }
end Go.Proofs.YthaoohbdjlbaeaaDoor
end
