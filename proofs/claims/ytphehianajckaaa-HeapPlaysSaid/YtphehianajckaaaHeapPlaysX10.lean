/- Texts of this seat, merged: what the proof reaches. -/
import Derived.Test.YtphehianajckaaaHeapPlaysX2
import Derived.Test.YtphehianajckaaaHeapPlaysX3
import Derived.Laws.CopyOwn
namespace Go.Proofs.Ytphehianajckaaa
namespace Fp
end Fp
end Go.Proofs.Ytphehianajckaaa
section
namespace Go.Proofs.Ytphehianajckaaa.Hp
open Go.Lib Fp
set_option linter.unusedVariables false
def atF:Nat → Nat
 | 0 => 0 | 1 => 100 | 2 => 108 | 3 => 116 | 4 => 124 | 5 => 136 | 6 => 148 | 7 => 156 | 8 => 157 | 9 => 257 | 10 => 345 | _ => 512
def wideF:Nat → Nat
 | 0 => 100 | 1 => 8 | 2 => 8 | 3 => 8 | 4 => 12 | 5 => 12 | 6 => 8 | 7 => 1 | 8 => 100 | 9 => 8 | 10 => 155 | _ => 0
def fld (x:Nat):Nat:=
 if x < 100 then 0 else if x < 108 then 1 else if x < 116 then 2 else if x < 124 then 3 else if x < 136 then 4 else if x < 148 then 5 else if x < 156 then 6 else if x < 157 then 7 else if x < 257 then 8 else if x < 265 then 9 else if x < 345 then 11 else if x < 500 then 10 else 11
def Fits (own:Nat → List UInt8):Prop:=∀ i,(own i).length=wideF i
def blockA (own:Nat → List UInt8):List UInt8:=(List.range 512).map fun x => (own (fld x)).getD (x - atF (fld x)) 0
def upd (own:Nat → List UInt8) (i:Nat) (l:List UInt8):Nat → List UInt8:=fun k => if k=i then l else own k
theorem upd_same (own:Nat → List UInt8) (i:Nat) (l:List UInt8):upd own i l i=l:=if_pos rfl
theorem upd_other (own:Nat → List UInt8) {i k:Nat} (l:List UInt8) (h:k≠i):upd own i l k=own k:=if_neg h
theorem Fits.upd {own:Nat → List UInt8} (h:Fits own) {i:Nat} {l:List UInt8} (hl:l.length=wideF i):Fits (upd own i l):=fun k => by
 by_cases hk:k=i
 ·subst hk;rw [upd_same];exact hl
 ·rw [upd_other _ _ hk];exact h k
def plainTo (bs:List UInt8):Nat → Nat
 | 0 => 0
 | k+1 => plainTo bs k+(bs.getD k 0).toNat
def sumTo (bs:List UInt8):Nat → Nat
 | 0 => 0
 | k+1 => sumTo bs k+(if 148≤k∧k < 156 then 32 else (bs.getD k 0).toNat)
attribute [irreducible] sumTo plainTo blockA
def ustarB:List UInt8:=[117,115,116,97,114,0,48,48]
def mayCut (name:List UInt8) (i:Nat):Prop:=name.getD i 0=47∧1≤i∧i≤155∧i+2≤name.length∧name.length≤i+101
instance (name:List UInt8) (i:Nat):Decidable (mayCut name i):=by unfold mayCut;exact inferInstance
def padTo (n:Nat) (s:List UInt8):List UInt8:=s++List.replicate (n - s.length) 0
def numB (h:HeadV) (i:Nat):List UInt8:=bytesOf ((putF (numH h i) (wideF i)).getD [])
def own1 (h:HeadV) (p s:List UInt8) (i:Nat):List UInt8:=
 if i=0 then padTo 100 s else if i=6 then List.replicate 8 0 else if i=7 then [h.kind] else if i=8 then padTo 100 h.link else if i=9 then ustarB else if i=10 then padTo 155 p else if i≤5 then numB h i else []
def sumB (n:Nat):List UInt8:=bytesOf (putD 8 48 6 n++[0])++[32]
def own2 (h:HeadV) (p s:List UInt8):Nat → List UInt8:=upd (own1 h p s) 6 (sumB (sumTo (blockA (own1 h p s)) 512))
end Go.Proofs.Ytphehianajckaaa.Hp
end
