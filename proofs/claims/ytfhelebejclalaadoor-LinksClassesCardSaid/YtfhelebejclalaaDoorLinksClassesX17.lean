/- Texts of this seat, merged: what the proof reaches. -/
import Derived.Test.YtfhelebejclalaaDoorLinksClassesX16
import Derived.Test.YtfhelebejclalaaDoorLinksClassesX10
import Derived.Deep.DeepCutAuto
import Derived.BigRegion
import Derived.Test.YtfhelebejclalaaDoorLinksClassesX6
import Derived.Deep.RegionHeldLaw
namespace Go.Proofs.YtfhelebejclalaaDoor
namespace Base
end Base
namespace Bk
end Bk
namespace Block
end Block
namespace Byt
end Byt
namespace Mem
end Mem
namespace Rec
end Rec
namespace Txt
end Txt
end Go.Proofs.YtfhelebejclalaaDoor
section
namespace Go.Proofs.YtfhelebejclalaaDoor.Tre
open Go.ChangeShapes Go.WideShapes Go.ChangeAt Go.RowKit Base Byt Txt Bk Mem Go.Lib
set_option linter.unusedVariables false
set_option maxRecDepth 100000
theorem rising_get {ys:List NodeV} (h:Rising ys) {i j:Nat} (hij:i < j) (hj:j < ys.length):ltB (ys.getD i zeroN).path (ys.getD j zeroN).path=true:=by
 have hi:i < ys.length:=by omega
 have:=List.pairwise_iff_getElem.1 h i j hi hj hij;rw [List.getD,List.getD,List.getElem?_eq_getElem hi,List.getElem?_eq_getElem hj];exact this
theorem getN_of_mem {ys:List NodeV} {y:NodeV} (h:y ∈ ys):∃ i,i < ys.length∧ys.getD i zeroN=y:=by
 obtain ⟨i,hi,he⟩:=List.mem_iff_getElem.1 h;exact ⟨i,hi,by rw [List.getD,List.getElem?_eq_getElem hi];exact he⟩
def BRel (ys:List NodeV) (b:List UInt8) (i j:Nat):Prop:=
 Rising ys → (∀ k,k < i → ltB (ys.getD k zeroN).path b=true)∧(∀ k,j≤k → k < ys.length → ltB (ys.getD k zeroN).path b=false)
theorem BRel.none_ {ys:List NodeV} {b:List UInt8} {i:Nat} (hr:BRel ys b i i) (hne:i < ys.length → (ys.getD i zeroN).path≠b) (hs:Rising ys):∀ y ∈ ys,y.path≠b:=fun y hy e => by
 obtain ⟨k,hk,rfl⟩:=getN_of_mem hy;obtain ⟨h1,h2⟩:=hr hs;rcases Nat.lt_trichotomy k i with h | h | h
 ·exact ltB_ne (h1 k h) e
 ·subst h;exact hne hk e
 ·have a1:=rising_get hs h hk
  rw [e,h2 i (Nat.le_refl _) (by omega)] at a1
  cases a1
end Go.Proofs.YtfhelebejclalaaDoor.Tre
end
section
namespace Go.Proofs.YtfhelebejclalaaDoor.Tre
open Go.ChangeShapes Go.WideShapes Go.ChangeAt Go.RowKit Base Byt Txt Bk Rec Block Mem Go.Lib
set_option linter.unusedVariables false
set_option maxRecDepth 100000
structure OwnJ (w wr:World) (xs:List NP) (k:Nat) (o:Value) (ys:List NP):Prop where
 bel:Below w.heap.size w wr
 row:wr.ownsRow w.heap.size 45 9 o ys.length (flatN ys)
 len:ys.length=k
 same:ys.map NP.m=(xs.take k).map NP.m
 bodies:∀ y ∈ ys,BodAt wr y
 off:∀ y ∈ ys,0 < y.m.body.length → ∀ z,y.p=some z → o.ownBlock≠some z.block
section
variable {w wr w':World} {xs ys:List NP} {k:Nat} {o:Value}
theorem OwnJ.below (h:OwnJ w wr xs k o ys) (hb:Below wr.heap.size wr w'):OwnJ w w' xs k o ys where
 bel:=h.bel.trans (hb.mono h.bel.size)
 row:=row_below h.row hb
 len:=h.len
 same:=h.same
 bodies:=fun y hy => (h.bodies y hy).below hb
 off:=h.off
theorem OwnJ.add (h:OwnJ w wr xs k o ys) (hk:k < xs.length) {y:NP} (hy:y.m=(xs.getD k zeroQ).m) (hb:BodAt wr y) (ho:0 < y.m.body.length → ∀ z,y.p=some z → o.ownBlock≠some z.block)
 {o':Value} (hrow:w'.ownsRow w.heap.size 45 9 o' (ys++[y]).length (flatN (ys++[y]))) (hg:wr.grownBy w' o.ownBlock) (hn:NewOr wr o o'):OwnJ w w' xs (k+1) o' (ys++[y]):=by
 have hK:Kept (fun b => o.ownBlock=some b) wr w':=(Kept.refl _ wr).grown hg (fun k hk => .inr hk)
 have lt:∀ {b:Nat},o'.ownBlock=some b → b < wr.heap.size → o.ownBlock=some b:=fun hb hlt => by
  rcases hn _ hb with h | h
  ·exact h
  ·omega
 have all:∀ x ∈ ys++[y],BodAt wr x∧(0 < x.m.body.length → ∀ z,x.p=some z → o.ownBlock≠some z.block):=fun x hx => by
  rcases List.mem_append.1 hx with hx | hx
  ·exact ⟨h.bodies x hx,h.off x hx⟩
  ·rw [List.mem_singleton.1 hx]
   exact ⟨hb,ho⟩
 exact
 { bel:=h.bel.trans (hK.below h.bel.size (fun k hk => (World.ownsRow.lt h.row _ hk).1))
   row:=hrow
   len:=by rw [List.length_append,h.len];rfl
   same:=by rw [List.map_append,h.same,takeN_succ xs k hk,← hy];rfl
   bodies:=fun x hx => (all x hx).1.kept hK (fun h0 z hz => (all x hx).2 h0 z hz)
   off:=fun x hx h0 z hz e => (all x hx).2 h0 z hz (lt e (bat_lt (all x hx).1.bat h0 hz)) }
end
end Go.Proofs.YtfhelebejclalaaDoor.Tre
end
