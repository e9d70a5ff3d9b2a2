/- Texts of this seat, merged: what the proof reaches. -/
import Derived.Lib.ValidU
import Derived.Lib.IndexLaws
section
namespace Go.Proofs.Ytphehianajckaaa.Path
open Go.Lib
set_option linter.unusedVariables false
def wideC (c:Nat):Nat:=if c=0 then 0 else if c < 128 then 1 else if 194≤c∧c < 224 then 2 else if 224≤c∧c < 240 then 3 else if 240≤c∧c < 245 then 4 else 0
def at_ (l:List UInt8) (k:Nat):Nat:=(l.getD k 0).toNat
def isCont (c:Nat):Prop:=128≤c∧c≤191
instance (c:Nat):Decidable (isCont c):=inferInstanceAs (Decidable (_∧_))
def isBad (n c b:Nat):Prop:=(n=3∧(c=224∧b < 160 ∨ c=237∧159 < b)) ∨ (n=4∧(c=240∧b < 144 ∨ c=244∧143 < b))
instance (n c b:Nat):Decidable (isBad n c b):=inferInstanceAs (Decidable (_ ∨ _))
def headOk (l:List UInt8):Prop:=
 wideC (at_ l 0)≠0∧wideC (at_ l 0)≤l.length∧(∀ k,k < wideC (at_ l 0) → 0 < k → isCont (at_ l k))∧¬ isBad (wideC (at_ l 0)) (at_ l 0) (at_ l 1)
instance (l:List UInt8):Decidable (headOk l):=inferInstanceAs (Decidable (_∧_∧_∧_))
end Go.Proofs.Ytphehianajckaaa.Path
end
