/- Texts of this seat, merged: what the proof reaches. -/
import Derived.Test.YtphehianajckaaaHeapPlaysX3
import Derived.Laws.AppendOwn
import Derived.OwnWalk
import Derived.Deep.RegionHeldLaw
namespace Go.Proofs.Ytphehianajckaaa
namespace Base
end Base
namespace Byt
end Byt
namespace Path
end Path
namespace Txt
end Txt
end Go.Proofs.Ytphehianajckaaa
section
namespace Go.Proofs.Ytphehianajckaaa.Rec
open Go.ChangeShapes Go.WideShapes Go.ChangeAt Go.RowKit Base Byt Txt Path Go.Lib
set_option linter.unusedVariables false
set_option maxRecDepth 100000
def RecsAt (w:World) (p:Option Addr) (n:Nat) (rs:List (List UInt8 × List UInt8)):Prop:=
 rs.length=n∧(0 < n → ∃ b o,p=some ⟨b,o,none⟩∧b < w.heap.size ∧ ∀ i,i < n → w.cell? ⟨b,o+2 * i,none⟩=some (.string (str (rs.getD i ([],[])).1))∧w.cell? ⟨b,o+2 * i+1,none⟩=some (.string (str (rs.getD i ([],[])).2)))
theorem RecsAt.below {w w':World} {p:Option Addr} {n:Nat} {rs:List (List UInt8 × List UInt8)} (h:RecsAt w p n rs) (hb:Below w.heap.size w w'):RecsAt w' p n rs:=by
 refine ⟨h.1,fun h0 => ?_⟩
 obtain ⟨b,o,rfl,hbw,hc⟩:=h.2 h0;refine ⟨b,o,rfl,Nat.lt_of_lt_of_le hbw hb.size,fun i hi => ⟨?_,?_⟩⟩
 ·rw [hb.cell (p:=⟨b,o+2 * i,none⟩) hbw];exact (hc i hi).1
 ·rw [hb.cell (p:=⟨b,o+2 * i+1,none⟩) hbw];exact (hc i hi).2
end Go.Proofs.Ytphehianajckaaa.Rec
end
