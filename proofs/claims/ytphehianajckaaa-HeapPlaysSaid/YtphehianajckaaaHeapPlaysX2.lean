/- Texts of this seat, merged: what the proof reaches. -/
import Derived.Lib.SlTrimSet
import Derived.Lib.Bytes
section
namespace Go.Proofs.Ytphehianajckaaa.Fp
open Go.Lib
def putD (base zero:Int):Nat → Int → List Int
 | 0,_ => []
 | k+1,n => putD base zero k (n / base)++[zero+n % base]
def restD (base:Int):Nat → Int → Int
 | 0,n => n
 | k+1,n => restD base k (n / base)
def putF (n wide:Int):Option (List Int):=
 if 0≤n∧n≤4611686018427387904∧2≤wide∧wide≤100 then
  if restD 8 (wide - 1).toNat n=0 then some (putD 8 48 (wide - 1).toNat n++[0])
  else if restD 256 (wide - 1).toNat n=0 then some (128 :: putD 256 0 (wide - 1).toNat n) else none
 else none
end Go.Proofs.Ytphehianajckaaa.Fp
end
