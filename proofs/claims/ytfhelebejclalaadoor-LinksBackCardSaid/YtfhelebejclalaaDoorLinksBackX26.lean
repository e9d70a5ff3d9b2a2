/- Texts of this seat, merged: what the proof reaches. -/
import Derived.Test.YtfhelebejclalaaDoorRows
import Derived.Shelf.SlSortCmp.NoneTotal
section
namespace Go.Proofs.YtfhelebejclalaaDoor
open Go.Shelf
def Tryd.laysSortZ_ren:Go.Shelf.Ren:=⟨fun | 6 => 51 | 15 => 62 | 14 => 61 | 28 => 76 | 29 => 77 | 20 => 68 | 21 => 69 | 22 => 70 | 23 => 71 | 24 => 72 | 25 => 73 | 26 => 74 | 27 => 75 | 46 => 81 | 47 => 82 | 48 => 83 | 49 => 84 | 50 => 85 | 57 => 87 | n => n,fun | 22 => 26 | 24 => 9 | 25 => 83 | 3 => 3 | 39 => 98 | 0 => 0 | 53 => 109 | 55 => 111 | 4 => 4 | 46 => 103 | 45 => 102 | 50 => 58 | 5 => 5 | 9 => 9 | 66 => 117 | 70 => 121 | 76 => 123 | 77 => 124 | n => n,fun | n => n⟩
theorem Tryd.laysSortZ:Go.Proofs.SlLaysF0.n6 Tryd.prog Tryd.laysSortZ_ren:={
 mixed:=by kernel_rfl
 f6:=⟨Tryd.f51.name,by decide,Tryd.func51.trans (congrArg some (by kernel_rfl))⟩
 f14:=⟨Tryd.f61.name,by decide,Tryd.func61.trans (congrArg some (by kernel_rfl))⟩
 f15:=Tryd.func62.trans (congrArg some (by kernel_rfl))
 f20:=⟨Tryd.f68.name,by decide,Tryd.func68.trans (congrArg some (by kernel_rfl))⟩
 f21:=⟨Tryd.f69.name,by decide,Tryd.func69.trans (congrArg some (by kernel_rfl))⟩
 f22:=⟨Tryd.f70.name,by decide,Tryd.func70.trans (congrArg some (by kernel_rfl))⟩
 f23:=⟨Tryd.f71.name,by decide,Tryd.func71.trans (congrArg some (by kernel_rfl))⟩
 f24:=⟨Tryd.f72.name,by decide,Tryd.func72.trans (congrArg some (by kernel_rfl))⟩
 f25:=⟨Tryd.f73.name,by decide,Tryd.func73.trans (congrArg some (by kernel_rfl))⟩
 f26:=⟨Tryd.f74.name,by decide,Tryd.func74.trans (congrArg some (by kernel_rfl))⟩
 f27:=⟨Tryd.f75.name,by decide,Tryd.func75.trans (congrArg some (by kernel_rfl))⟩
 f28:=Tryd.func76.trans (congrArg some (by kernel_rfl))
 f29:=Tryd.func77.trans (congrArg some (by kernel_rfl))
 f46:=⟨Tryd.f81.name,by decide,Tryd.func81.trans (congrArg some (by kernel_rfl))⟩
 f47:=Tryd.func82.trans (congrArg some (by kernel_rfl))
 f48:=Tryd.func83.trans (congrArg some (by kernel_rfl))
 f49:=⟨Tryd.f84.name,by decide,Tryd.func84.trans (congrArg some (by kernel_rfl))⟩
 f50:=⟨Tryd.f85.name,by decide,Tryd.func85.trans (congrArg some (by kernel_rfl))⟩
 f57:=⟨Tryd.f87.name,by decide,Tryd.func87.trans (congrArg some (by kernel_rfl))⟩
 t0:=Tryd.underlying0
 a0:=Tryd.isAgg0
 z0:=Tryd.sizeOf0
 v0:=Tryd.zeroValue0
 t3:=Tryd.underlying3
 a3:=Tryd.isAgg3
 z3:=Tryd.sizeOf3
 v3:=Tryd.zeroValue3
 t4:=Tryd.underlying4
 a4:=Tryd.isAgg4
 z4:=Tryd.sizeOf4
 v4:=Tryd.zeroValue4
 t5:=Tryd.underlying5
 a5:=Tryd.isAgg5
 z5:=Tryd.sizeOf5
 v5:=Tryd.zeroValue5
 t9:=Tryd.underlying9
 a9:=Tryd.isAgg9
 z9:=Tryd.sizeOf9
 v9:=Tryd.zeroValue9
 t22:=Tryd.underlying26
 a22:=Tryd.isAgg26
 z22:=Tryd.sizeOf26
 v22:=Tryd.zeroValue26
 t25:=Tryd.underlying83
 a25:=Tryd.isAgg83
 z25:=Tryd.sizeOf83
 v25:=Tryd.zeroValue83
 t39:=Tryd.underlying98
 a39:=Tryd.isAgg98
 z39:=Tryd.sizeOf98
 v39:=Tryd.zeroValue98
 t45:=Tryd.underlying102
 a45:=Tryd.isAgg102
 z45:=Tryd.sizeOf102
 v45:=Tryd.zeroValue102
 t46:=Tryd.underlying103
 a46:=Tryd.isAgg103
 z46:=Tryd.sizeOf103
 v46:=Tryd.zeroValue103
 t50:=Tryd.underlying58
 a50:=Tryd.isAgg58
 z50:=Tryd.sizeOf58
 v50:=Tryd.zeroValue58
 t53:=Tryd.underlying109
 a53:=Tryd.isAgg109
 z53:=Tryd.sizeOf109
 v53:=Tryd.zeroValue109
 t55:=Tryd.underlying111
 a55:=Tryd.isAgg111
 z55:=Tryd.sizeOf111
 v55:=Tryd.zeroValue111
 t66:=Tryd.underlying117
 a66:=Tryd.isAgg117
 z66:=Tryd.sizeOf117
 v66:=Tryd.zeroValue117
 t70:=Tryd.underlying121
 a70:=Tryd.isAgg121
 z70:=Tryd.sizeOf121
 v70:=Tryd.zeroValue121
 t76:=Tryd.underlying123
 a76:=Tryd.isAgg123
 z76:=Tryd.sizeOf123
 v76:=Tryd.zeroValue123
 t77:=Tryd.underlying124
 a77:=Tryd.isAgg124
 z77:=Tryd.sizeOf124
 v77:=Tryd.zeroValue124 }
end Go.Proofs.YtfhelebejclalaaDoor
end
