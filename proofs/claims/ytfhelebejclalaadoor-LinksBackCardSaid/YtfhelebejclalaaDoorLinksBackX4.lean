/- Texts of this seat, merged: what the proof reaches. -/
import Derived.Test.YtfhelebejclalaaDoorRows
import Derived.Shelf.Strings.Search3
import Derived.Shelf.Strings.Prefix
section
namespace Go.Proofs.YtfhelebejclalaaDoor
open Go.Shelf
def Tryd.laysConts_ren:Go.Shelf.Ren:=⟨fun | 144 => 64 | 143 => 79 | 219 => 86 | 217 => 88 | 225 => 89 | 224 => 90 | 267 => 91 | 266 => 92 | 314 => 93 | n => n,fun | 9 => 9 | 4 => 4 | 3 => 3 | 5 => 5 | 46 => 98 | 146 => 128 | 51 => 109 | n => n,fun | 1 => 2 | n => n⟩
theorem Tryd.laysConts:Go.Proofs.Lays.n144 Tryd.prog Tryd.laysConts_ren:={
 mixed:=by kernel_rfl
 f143:=Tryd.func79.trans (congrArg some (by kernel_rfl))
 f144:=Tryd.func64.trans (congrArg some (by kernel_rfl))
 f217:=Tryd.func88.trans (congrArg some (by kernel_rfl))
 f219:=Tryd.func86.trans (congrArg some (by kernel_rfl))
 f224:=Tryd.func90.trans (congrArg some (by kernel_rfl))
 f225:=Tryd.func89.trans (congrArg some (by kernel_rfl))
 f266:=Tryd.func92.trans (congrArg some (by kernel_rfl))
 f267:=Tryd.func91.trans (congrArg some (by kernel_rfl))
 f314:=Tryd.func93.trans (congrArg some (by kernel_rfl))
 t3:=Tryd.underlying3
 a3:=Tryd.isAgg3
 z3:=Tryd.sizeOf3
 v3:=Tryd.zeroValue3
 t4:=Tryd.underlying4
 a4:=Tryd.isAgg4
 z4:=Tryd.sizeOf4
 v4:=Tryd.zeroValue4
 t5:=Tryd.underlying5
 a5:=Tryd.isAgg5
 z5:=Tryd.sizeOf5
 v5:=Tryd.zeroValue5
 t9:=Tryd.underlying9
 a9:=Tryd.isAgg9
 z9:=Tryd.sizeOf9
 v9:=Tryd.zeroValue9
 t46:=Tryd.underlying98
 a46:=Tryd.isAgg98
 z46:=Tryd.sizeOf98
 v46:=Tryd.zeroValue98
 t51:=Tryd.underlying109
 a51:=Tryd.isAgg109
 z51:=Tryd.sizeOf109
 v51:=Tryd.zeroValue109
 t146:=Tryd.underlying128
 a146:=Tryd.isAgg128
 z146:=Tryd.sizeOf128
 v146:=Tryd.zeroValue128
 g1:=by kernel_rfl }
def Tryd.laysIndex_ren:Go.Shelf.Ren:=⟨fun | 219 => 86 | 217 => 88 | 225 => 89 | 224 => 90 | 267 => 91 | 266 => 92 | 314 => 93 | n => n,fun | 9 => 9 | 3 => 3 | 4 => 4 | 5 => 5 | 46 => 98 | 146 => 128 | 51 => 109 | n => n,fun | 1 => 2 | n => n⟩
theorem Tryd.laysIndex:Go.Proofs.Lays.n219 Tryd.prog Tryd.laysIndex_ren:={
 mixed:=by kernel_rfl
 f217:=Tryd.func88.trans (congrArg some (by kernel_rfl))
 f219:=Tryd.func86.trans (congrArg some (by kernel_rfl))
 f224:=Tryd.func90.trans (congrArg some (by kernel_rfl))
 f225:=Tryd.func89.trans (congrArg some (by kernel_rfl))
 f266:=Tryd.func92.trans (congrArg some (by kernel_rfl))
 f267:=Tryd.func91.trans (congrArg some (by kernel_rfl))
 f314:=Tryd.func93.trans (congrArg some (by kernel_rfl))
 t3:=Tryd.underlying3
 a3:=Tryd.isAgg3
 z3:=Tryd.sizeOf3
 v3:=Tryd.zeroValue3
 t4:=Tryd.underlying4
 a4:=Tryd.isAgg4
 z4:=Tryd.sizeOf4
 v4:=Tryd.zeroValue4
 t5:=Tryd.underlying5
 a5:=Tryd.isAgg5
 z5:=Tryd.sizeOf5
 v5:=Tryd.zeroValue5
 t9:=Tryd.underlying9
 a9:=Tryd.isAgg9
 z9:=Tryd.sizeOf9
 v9:=Tryd.zeroValue9
 t46:=Tryd.underlying98
 a46:=Tryd.isAgg98
 z46:=Tryd.sizeOf98
 v46:=Tryd.zeroValue98
 t51:=Tryd.underlying109
 a51:=Tryd.isAgg109
 z51:=Tryd.sizeOf109
 v51:=Tryd.zeroValue109
 t146:=Tryd.underlying128
 a146:=Tryd.isAgg128
 z146:=Tryd.sizeOf128
 v146:=Tryd.zeroValue128
 g1:=by kernel_rfl }
def Tryd.laysPrefix_ren:Go.Shelf.Ren:=⟨fun | 99 => 55 | 206 => 65 | n => n,fun | 9 => 9 | 4 => 4 | 3 => 3 | n => n,fun | n => n⟩
theorem Tryd.laysPrefix:Go.Proofs.Lays.n99 Tryd.prog Tryd.laysPrefix_ren:={
 mixed:=by kernel_rfl
 f99:=Tryd.func55.trans (congrArg some (by kernel_rfl))
 f206:=Tryd.func65.trans (congrArg some (by kernel_rfl))
 t3:=Tryd.underlying3
 a3:=Tryd.isAgg3
 z3:=Tryd.sizeOf3
 v3:=Tryd.zeroValue3
 t4:=Tryd.underlying4
 a4:=Tryd.isAgg4
 z4:=Tryd.sizeOf4
 v4:=Tryd.zeroValue4
 t9:=Tryd.underlying9
 a9:=Tryd.isAgg9
 z9:=Tryd.sizeOf9
 v9:=Tryd.zeroValue9 }
end Go.Proofs.YtfhelebejclalaaDoor
end
