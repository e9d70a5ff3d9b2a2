/- Texts of this seat, merged: what the proof reaches. -/
import Derived.Test.YtfhelebejclalaaDoorLinksSoundX16
import Derived.Test.YtfhelebejclalaaDoorLinksSoundX10
import Derived.Deep.DeepCutAuto
namespace Go.Proofs.YtfhelebejclalaaDoor
namespace Base
end Base
namespace Bk
end Bk
namespace Byt
end Byt
namespace Mem
end Mem
namespace Txt
end Txt
end Go.Proofs.YtfhelebejclalaaDoor
section
namespace Go.Proofs.YtfhelebejclalaaDoor.Tre
open Go.ChangeShapes Go.WideShapes Go.ChangeAt Go.RowKit Base Byt Txt Bk Mem Go.Lib
set_option linter.unusedVariables false
set_option maxRecDepth 100000
theorem rising_get {ys:List NodeV} (h:Rising ys) {i j:Nat} (hij:i < j) (hj:j < ys.length):ltB (ys.getD i zeroN).path (ys.getD j zeroN).path=true:=by
 have hi:i < ys.length:=by omega
 have:=List.pairwise_iff_getElem.1 h i j hi hj hij;rw [List.getD,List.getD,List.getElem?_eq_getElem hi,List.getElem?_eq_getElem hj];exact this
theorem getN_of_mem {ys:List NodeV} {y:NodeV} (h:y ∈ ys):∃ i,i < ys.length∧ys.getD i zeroN=y:=by
 obtain ⟨i,hi,he⟩:=List.mem_iff_getElem.1 h;exact ⟨i,hi,by rw [List.getD,List.getElem?_eq_getElem hi];exact he⟩
def BRel (ys:List NodeV) (b:List UInt8) (i j:Nat):Prop:=
 Rising ys → (∀ k,k < i → ltB (ys.getD k zeroN).path b=true)∧(∀ k,j≤k → k < ys.length → ltB (ys.getD k zeroN).path b=false)
theorem BRel.none_ {ys:List NodeV} {b:List UInt8} {i:Nat} (hr:BRel ys b i i) (hne:i < ys.length → (ys.getD i zeroN).path≠b) (hs:Rising ys):∀ y ∈ ys,y.path≠b:=fun y hy e => by
 obtain ⟨k,hk,rfl⟩:=getN_of_mem hy;obtain ⟨h1,h2⟩:=hr hs;rcases Nat.lt_trichotomy k i with h | h | h
 ·exact ltB_ne (h1 k h) e
 ·subst h;exact hne hk e
 ·have a1:=rising_get hs h hk
  rw [e,h2 i (Nat.le_refl _) (by omega)] at a1
  cases a1
end Go.Proofs.YtfhelebejclalaaDoor.Tre
end
