/- Texts of this seat, merged: what the proof reaches. -/
import Derived.Test.YtfpoipamioaklaaStorePlaysX9
import Derived.Test.YtfpoipamioaklaaStorePlaysX3
import Derived.Lib.ParseIntB
import Derived.Lib.AtoiTie
import Derived.Lib.ItoaNum
import Derived.Lib.IndexLaws
import Derived.Lib.AtoiAll
import Derived.Lib.SlTrimSet
import Derived.Test.YtfpoipamioaklaaStorePlaysX8
import Derived.Test.YtfpoipamioaklaaStorePlaysX1
namespace Go.Proofs.Ytfpoipamioaklaa
namespace Attr
end Attr
namespace Fp
end Fp
namespace Hp
end Hp
namespace Path
end Path
namespace Rec
end Rec
end Go.Proofs.Ytfpoipamioaklaa
section
namespace Go.Proofs.Ytfpoipamioaklaa.Mem
open Go.Lib Fp Hp Path Rec Attr
set_option linter.unusedVariables false
structure MemV where
 path:List UInt8
 target:List UInt8
 kind:UInt8
 mode:Int
 uid:Int
 gid:Int
 time:Int
 body:List UInt8
deriving instance DecidableEq for MemV
end Go.Proofs.Ytfpoipamioaklaa.Mem
end
