/- Texts of this seat, merged: what the proof reaches. -/
import Derived.Test.YthaoohbdjlbaeaaDoorRows
import Derived.Shelf.Strings.Search3
import Derived.Shelf.Strings.Prefix
section
namespace Go.Proofs.YthaoohbdjlbaeaaDoor
open Go.Shelf
def Tryd.laysConts_ren:Go.Shelf.Ren:=⟨fun | 144 => 69 | 143 => 84 | 219 => 91 | 217 => 93 | 225 => 94 | 224 => 95 | 267 => 96 | 266 => 97 | 314 => 98 | n => n,fun | 9 => 9 | 4 => 4 | 3 => 3 | 5 => 5 | 46 => 93 | 146 => 129 | 51 => 110 | n => n,fun | 1 => 2 | n => n⟩
theorem Tryd.laysConts:Go.Proofs.Lays.n144 Tryd.prog Tryd.laysConts_ren:={
 mixed:=by kernel_rfl
 f143:=Tryd.func84.trans (congrArg some (by kernel_rfl))
 f144:=Tryd.func69.trans (congrArg some (by kernel_rfl))
 f217:=Tryd.func93.trans (congrArg some (by kernel_rfl))
 f219:=Tryd.func91.trans (congrArg some (by kernel_rfl))
 f224:=Tryd.func95.trans (congrArg some (by kernel_rfl))
 f225:=Tryd.func94.trans (congrArg some (by kernel_rfl))
 f266:=Tryd.func97.trans (congrArg some (by kernel_rfl))
 f267:=Tryd.func96.trans (congrArg some (by kernel_rfl))
 f314:=Tryd.func98.trans (congrArg some (by kernel_rfl))
 t3:=Tryd.underlying3
 a3:=Tryd.isAgg3
 z3:=Tryd.sizeOf3
 v3:=Tryd.zeroValue3
 t4:=Tryd.underlying4
 a4:=Tryd.isAgg4
 z4:=Tryd.sizeOf4
 v4:=Tryd.zeroValue4
 t5:=Tryd.underlying5
 a5:=Tryd.isAgg5
 z5:=Tryd.sizeOf5
 v5:=Tryd.zeroValue5
 t9:=Tryd.underlying9
 a9:=Tryd.isAgg9
 z9:=Tryd.sizeOf9
 v9:=Tryd.zeroValue9
 t46:=Tryd.underlying93
 a46:=Tryd.isAgg93
 z46:=Tryd.sizeOf93
 v46:=Tryd.zeroValue93
 t51:=Tryd.underlying110
 a51:=Tryd.isAgg110
 z51:=Tryd.sizeOf110
 v51:=Tryd.zeroValue110
 t146:=Tryd.underlying129
 a146:=Tryd.isAgg129
 z146:=Tryd.sizeOf129
 v146:=Tryd.zeroValue129
 g1:=by kernel_rfl }
def Tryd.laysIndex_ren:Go.Shelf.Ren:=⟨fun | 219 => 91 | 217 => 93 | 225 => 94 | 224 => 95 | 267 => 96 | 266 => 97 | 314 => 98 | n => n,fun | 9 => 9 | 3 => 3 | 4 => 4 | 5 => 5 | 46 => 93 | 146 => 129 | 51 => 110 | n => n,fun | 1 => 2 | n => n⟩
theorem Tryd.laysIndex:Go.Proofs.Lays.n219 Tryd.prog Tryd.laysIndex_ren:={
 mixed:=by kernel_rfl
 f217:=Tryd.func93.trans (congrArg some (by kernel_rfl))
 f219:=Tryd.func91.trans (congrArg some (by kernel_rfl))
 f224:=Tryd.func95.trans (congrArg some (by kernel_rfl))
 f225:=Tryd.func94.trans (congrArg some (by kernel_rfl))
 f266:=Tryd.func97.trans (congrArg some (by kernel_rfl))
 f267:=Tryd.func96.trans (congrArg some (by kernel_rfl))
 f314:=Tryd.func98.trans (congrArg some (by kernel_rfl))
 t3:=Tryd.underlying3
 a3:=Tryd.isAgg3
 z3:=Tryd.sizeOf3
 v3:=Tryd.zeroValue3
 t4:=Tryd.underlying4
 a4:=Tryd.isAgg4
 z4:=Tryd.sizeOf4
 v4:=Tryd.zeroValue4
 t5:=Tryd.underlying5
 a5:=Tryd.isAgg5
 z5:=Tryd.sizeOf5
 v5:=Tryd.zeroValue5
 t9:=Tryd.underlying9
 a9:=Tryd.isAgg9
 z9:=Tryd.sizeOf9
 v9:=Tryd.zeroValue9
 t46:=Tryd.underlying93
 a46:=Tryd.isAgg93
 z46:=Tryd.sizeOf93
 v46:=Tryd.zeroValue93
 t51:=Tryd.underlying110
 a51:=Tryd.isAgg110
 z51:=Tryd.sizeOf110
 v51:=Tryd.zeroValue110
 t146:=Tryd.underlying129
 a146:=Tryd.isAgg129
 z146:=Tryd.sizeOf129
 v146:=Tryd.zeroValue129
 g1:=by kernel_rfl }
def Tryd.laysPrefix_ren:Go.Shelf.Ren:=⟨fun | 99 => 60 | 206 => 70 | n => n,fun | 9 => 9 | 4 => 4 | 3 => 3 | n => n,fun | n => n⟩
theorem Tryd.laysPrefix:Go.Proofs.Lays.n99 Tryd.prog Tryd.laysPrefix_ren:={
 mixed:=by kernel_rfl
 f99:=Tryd.func60.trans (congrArg some (by kernel_rfl))
 f206:=Tryd.func70.trans (congrArg some (by kernel_rfl))
 t3:=Tryd.underlying3
 a3:=Tryd.isAgg3
 z3:=Tryd.sizeOf3
 v3:=Tryd.zeroValue3
 t4:=Tryd.underlying4
 a4:=Tryd.isAgg4
 z4:=Tryd.sizeOf4
 v4:=Tryd.zeroValue4
 t9:=Tryd.underlying9
 a9:=Tryd.isAgg9
 z9:=Tryd.sizeOf9
 v9:=Tryd.zeroValue9 }
end Go.Proofs.YthaoohbdjlbaeaaDoor
end
