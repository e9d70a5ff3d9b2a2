/- Texts of this seat, merged: what the proof reaches. -/
import Derived.Test.YtphehianajckaaaHeapPlaysX4
import Derived.Deep.DeepAppendRoom
namespace Go.Proofs.Ytphehianajckaaa
namespace Base
end Base
end Go.Proofs.Ytphehianajckaaa
section
namespace Go.Proofs.Ytphehianajckaaa.Byt
open Go.ChangeShapes Go.WideShapes Go.ChangeAt Go.RowKit Base Go.Lib
set_option linter.unusedVariables false
def NewOr (w:World) (v v':Value):Prop:=∀ k,v'.ownBlock=some k → v.ownBlock=some k ∨ w.heap.size≤k
theorem NewOr.refl (w:World) (v:Value):NewOr w v v:=fun _ h => Or.inl h
theorem NewOr.trans {w w':World} {v v' v'':Value} (h:NewOr w v v') (h':NewOr w' v' v'') (hs:w.heap.size≤w'.heap.size):NewOr w v v'':=fun k hk => by
 rcases h' k hk with h1 | h1
 ·exact h k h1
 ·exact Or.inr (by omega)
end Go.Proofs.Ytphehianajckaaa.Byt
end
