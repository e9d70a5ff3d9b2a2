/- Texts of this seat, merged: what the proof reaches. -/
import Derived.Test.YtphehianajckaaaHeapPlaysX8
import Derived.Deep.SlicePairs
import Derived.Deep.Grids
import Derived.Deep.Matrix
namespace Go.Proofs.Ytphehianajckaaa
namespace Base
end Base
namespace Byt
end Byt
end Go.Proofs.Ytphehianajckaaa
section
namespace Go.Proofs.Ytphehianajckaaa.Block
open Go.ChangeShapes Go.WideShapes Go.ChangeAt Go.RowKit Go.Deep Base Byt Go.Lib
set_option linter.unusedVariables false
section
variable {H:Type} {enc:TypeId × Value → H} {P:Program} {w:World} {base:Nat} {held:Bool}
theorem plain_of3 {b:Addr} {v:Value} (h:w.cell? (b.add 0)=some v):b=⟨b.block,b.off,none⟩:=by
 obtain ⟨b,o,s⟩:=b;have hs:s=none:=by simpa [Addr.add] using World.cell?_spot h
 rw [hs]
theorem bools_open2 {t e:TypeId} {a:Option Addr} {len cap:Nat} {d:DataW H} {ps:List MemPlace} (ht:P.underlying t=some (.slice e)) (he:P.underlying e=some .bool) (ce:P.cellsOf e=1)
 (h:DataW.Trod enc P w base (fun _ => true) held t (.slice a len cap) d ps):∃ T:Nat → Bool,(0 < len → ∃ b o,a=some ⟨b,o,none⟩∧b < w.heap.size ∧ ∀ i,i < len → w.cell? ⟨b,o+i,none⟩=some (.bool (T i)))∧len≤cap∧cap≤maxLen:=by
 obtain ⟨fuel,hf⟩:=h;rcases open_bools ht he ce hf with ⟨hcs,_⟩ | ⟨x,l,c,B,hcs,_,hl,hm,_,hc⟩
 ·simp [Value.cells] at hcs
  obtain ⟨rfl,rfl,rfl⟩:=hcs;exact ⟨fun _ => false,fun h => absurd h (by omega),by omega,by omega⟩
 ·simp [Value.cells] at hcs
  obtain ⟨rfl,rfl,rfl⟩:=hcs;refine ⟨B,fun h0 => ?_,hl,hm⟩
  have hx:=plain_of3 (hc 0 (by omega))
  refine ⟨x.block,x.off,by rw [← hx],?_,fun i hi' => ?_⟩
  ·have:=hc 0 (by omega)
   rw [hx,WideShapes.add_plain] at this;have:=World.block_lt_of_cell? _ _ this;exact this
  ·have h1:=hc i (by omega)
   rw [hx,WideShapes.add_plain] at h1;exact h1
end
end Go.Proofs.Ytphehianajckaaa.Block
end
