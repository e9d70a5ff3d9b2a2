/- Texts of this seat, merged: what the proof reaches. -/
import Derived.Lib.SlTrimSet
import Derived.Lib.Bytes
section
namespace Go.Proofs.YtfhelebejclalaaDoor.Fp
open Go.Lib
def restD (base:Int):Nat → Int → Int
 | 0,n => n
 | k+1,n => restD base k (n / base)
end Go.Proofs.YtfhelebejclalaaDoor.Fp
end
