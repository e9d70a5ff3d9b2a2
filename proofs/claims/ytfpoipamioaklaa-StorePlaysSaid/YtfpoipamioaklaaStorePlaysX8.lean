/- Texts of this seat, merged: what the proof reaches. -/
import Derived.Test.YtfpoipamioaklaaStorePlaysX2
import Derived.Test.YtfpoipamioaklaaStorePlaysX3
import Derived.Laws.CopyOwn
namespace Go.Proofs.Ytfpoipamioaklaa
namespace Fp
end Fp
end Go.Proofs.Ytfpoipamioaklaa
section
namespace Go.Proofs.Ytfpoipamioaklaa.Hp
open Go.Lib Fp
set_option linter.unusedVariables false
def atF:Nat → Nat
 | 0 => 0 | 1 => 100 | 2 => 108 | 3 => 116 | 4 => 124 | 5 => 136 | 6 => 148 | 7 => 156 | 8 => 157 | 9 => 257 | 10 => 345 | _ => 512
def wideF:Nat → Nat
 | 0 => 100 | 1 => 8 | 2 => 8 | 3 => 8 | 4 => 12 | 5 => 12 | 6 => 8 | 7 => 1 | 8 => 100 | 9 => 8 | 10 => 155 | _ => 0
def fld (x:Nat):Nat:=
 if x < 100 then 0 else if x < 108 then 1 else if x < 116 then 2 else if x < 124 then 3 else if x < 136 then 4 else if x < 148 then 5 else if x < 156 then 6 else if x < 157 then 7 else if x < 257 then 8 else if x < 265 then 9 else if x < 345 then 11 else if x < 500 then 10 else 11
def blockA (own:Nat → List UInt8):List UInt8:=(List.range 512).map fun x => (own (fld x)).getD (x - atF (fld x)) 0
def zeroO:Nat → List UInt8:=fun i => List.replicate (wideF i) 0
def plainTo (bs:List UInt8):Nat → Nat
 | 0 => 0
 | k+1 => plainTo bs k+(bs.getD k 0).toNat
def sumTo (bs:List UInt8):Nat → Nat
 | 0 => 0
 | k+1 => sumTo bs k+(if 148≤k∧k < 156 then 32 else (bs.getD k 0).toNat)
attribute [irreducible] sumTo plainTo blockA
def mayCut (name:List UInt8) (i:Nat):Prop:=name.getD i 0=47∧1≤i∧i≤155∧i+2≤name.length∧name.length≤i+101
instance (name:List UInt8) (i:Nat):Decidable (mayCut name i):=by unfold mayCut;exact inferInstance
end Go.Proofs.Ytfpoipamioaklaa.Hp
end
