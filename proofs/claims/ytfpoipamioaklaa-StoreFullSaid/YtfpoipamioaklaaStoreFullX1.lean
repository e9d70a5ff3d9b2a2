/- Texts of this seat, merged: what the proof reaches. -/
import Derived.Test.YtfpoipamioaklaaRows
import Derived.WalkKit
import Derived.ProofKit
import Derived.Lib.Hide
import Derived.IntWalk
import Derived.WalkSmall
import Derived.Outline
import Derived.Deep.QuietTactic
import Derived.BigQuiet
import Derived.Laws.OwnMore
import Derived.OwnWalk
section
namespace Go.Proofs.Ytfpoipamioaklaa.Base
open Go.RowKit Go.ChangeShapes Go.WideShapes
theorem own:ownKnob Try.prog.godebug=none:=by kernel_rfl
theorem laidOut:laidOutB Try.prog=true:=by kernel_rfl
def IsRow (k:IntKind) (w:World) (a:Option Addr) (len cap:Nat) (zs:List Int):Prop:=
 (a=none∧len=0∧cap=0∧zs=[]) ∨
 ∃ x,a=some x∧len≤cap∧cap≤maxLen∧zs.length=cap∧(∀ i,i < zs.length → w.cell? (x.add i)=some (.int k (zs.getD i 0))) ∧ ∀ n ∈ zs,(Lit.int k n).wf=true
theorem row_at {k:IntKind} {w:World} {a:Option Addr} {len cap:Nat} {zs:List Int} (h:IsRow k w a len cap zs) (hl:0 < len) :
 ∃ b off,a=some ⟨b,off,none⟩∧len≤cap∧cap≤maxLen∧zs.length=cap∧b < w.heap.size∧(∀ i,i < len → w.cell? ⟨b,off+i,none⟩=some (.int k ((zs.take len).getD i 0)))∧(zs.take len).length=len:=by
 rcases h with ⟨_,h,_,_⟩ | ⟨x,rfl,h1,h2,h3,h4,_⟩
 ·omega
 ·obtain ⟨b,off,spot⟩:=x
  have hspot:spot=none:=by simpa [Addr.add] using World.cell?_spot (h4 0 (by omega))
  subst hspot;refine ⟨b,off,rfl,h1,h2,h3,?_,?_,?_⟩
  ·exact World.block_lt_of_cell? w _ (by simpa [Addr.add] using h4 0 (by omega))
  ·intro i hi
   rw [← WideShapes.add_plain,h4 i (by omega)]
   simp [List.getD,hi]
  ·rw [List.length_take];omega
end Go.Proofs.Ytfpoipamioaklaa.Base
end
