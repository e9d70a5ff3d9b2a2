/- Texts of this seat, merged: what the proof reaches. -/
import Derived.Test.YtfhelebejclalaaDoorLinksSoundX19
import Derived.Deep.RegionHeld3
import Derived.Deep.RegionHeldLaw
import Derived.Deep.Draws
import Derived.Laws.ResultCell
import Derived.Test.YtfhelebejclalaaDoorLinksSoundX17
import Derived.Test.YtfhelebejclalaaDoorLinksSoundX6
namespace Go.Proofs.YtfhelebejclalaaDoor
namespace Base
end Base
namespace Bk
end Bk
namespace Byt
end Byt
namespace Mem
end Mem
namespace Txt
end Txt
end Go.Proofs.YtfhelebejclalaaDoor
section
namespace Go.Proofs.YtfhelebejclalaaDoor.Tre
open Go.ChangeShapes Go.WideShapes Go.ChangeAt Go.RowKit Base Byt Txt Bk Mem Go.Lib
set_option linter.unusedVariables false
set_option maxRecDepth 100000
structure Res9 (w wi:World) (g:Nat) (y:NP):Prop where
 bel:Below w.heap.size w wi
 blk:Blk wi g 45 y.cs
 new:w.heap.size≤g
theorem Res9.below {w wi wj:World} {g:Nat} {y:NP} (h:Res9 w wi g y) (hb:Below wi.heap.size wi wj):Res9 w wj g y:=
 ⟨h.bel.trans (hb.mono h.bel.size),h.blk.below hb h.blk.lt,h.new⟩
end Go.Proofs.YtfhelebejclalaaDoor.Tre
end
section
namespace Go.Proofs.YtfhelebejclalaaDoor.Tre
open Go.ChangeShapes Go.WideShapes Go.ChangeAt Go.RowKit Base Byt Txt Bk Mem Go.Lib
set_option linter.unusedVariables false
set_option maxRecDepth 100000
attribute [local irreducible] wpQuiet
theorem rising_take {t:List NodeV} {k:Nat} (hk:k < t.length) (h:Rising (t.take k)) (hlt:k=0 ∨ ltB (t.getD (k - 1) zeroN).path (t.getD k zeroN).path=true):Rising (t.take (k+1)):=by
 rw [List.take_succ_eq_append_getElem hk];refine List.pairwise_append.2 ⟨h,List.pairwise_singleton _ _,fun x hx y hy => ?_⟩
 rw [List.mem_singleton.1 hy];rcases hlt with rfl | hlt
 ·simp at hx
 ·obtain ⟨i,hi,rfl⟩:=getN_of_mem hx
  rw [List.length_take] at hi
  have e:(t.take k).getD i zeroN=t.getD i zeroN:=by
   rw [List.getD,List.getD,List.getElem?_take,if_pos (by omega)]
  have e2:t.getD k zeroN=t[k]:=by rw [List.getD,List.getElem?_eq_getElem hk];rfl
  rw [e,← e2];rcases Nat.lt_or_eq_of_le (show i≤k - 1 by omega) with h1 | h1
  ·have:=rising_get h (i:=i) (j:=k - 1) h1 (by rw [List.length_take];omega)
   rw [e] at this
   have e3:(t.take k).getD (k - 1) zeroN=t.getD (k - 1) zeroN:=by
    rw [List.getD,List.getD,List.getElem?_take,if_pos (by omega)]
   rw [e3] at this;exact ltB_trans _ _ _ this hlt
  ·rw [h1];exact hlt
def stepT (t:List NodeV) (i:Nat):Bool:=isNodeD (t.getD i zeroN) && (decide (i=0) || ltB (t.getD (i - 1) zeroN).path (t.getD i zeroN).path)
theorem goodAt_is (t:List NodeV) (i:Nat):goodAt t i=(stepT t i && ledD (t.take (i+1)) (t.getD i zeroN)):=rfl
end Go.Proofs.YtfhelebejclalaaDoor.Tre
end
