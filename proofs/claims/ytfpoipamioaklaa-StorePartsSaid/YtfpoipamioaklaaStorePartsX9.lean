/- Texts of this seat, merged: what the proof reaches. -/
import Derived.Test.YtfpoipamioaklaaStorePartsX6
import Derived.Deep.SlicePairs
import Derived.Deep.Grids
import Derived.Deep.Matrix
namespace Go.Proofs.Ytfpoipamioaklaa
namespace Base
end Base
namespace Byt
end Byt
end Go.Proofs.Ytfpoipamioaklaa
section
namespace Go.Proofs.Ytfpoipamioaklaa.Block
open Go.ChangeShapes Go.WideShapes Go.ChangeAt Go.RowKit Go.Deep Base Byt Go.Lib
set_option linter.unusedVariables false
section
variable {H:Type} {enc:TypeId × Value → H} {P:Program} {w:World} {base:Nat} {held:Bool}
theorem plain_of2 {b:Addr} {v:Value} (h:w.cell? (b.add 0)=some v):b=⟨b.block,b.off,none⟩:=by
 obtain ⟨b,o,s⟩:=b;have hs:s=none:=by simpa [Addr.add] using World.cell?_spot h
 rw [hs]
theorem byteRows_open2 {t e q:TypeId} {a:Option Addr} {len cap:Nat} {d:DataW H} {ps:List MemPlace} (ht:P.underlying t=some (.slice e)) (he:P.underlying e=some (.slice q)) (hq:P.underlying q=some (.int .u8)) (ce:P.cellsOf e=1) (cq:P.cellsOf q=1)
 (h:DataW.Trod enc P w base (fun _ => true) held t (.slice a len cap) d ps):∃ A M C Bs,LAt w a len A M C Bs∧(∀ i,i < len → M i≤C i∧C i≤maxLen)∧len≤cap∧cap≤maxLen:=by
 obtain ⟨fuel,hf⟩:=h;rcases open_int_rows ht he hq ce cq hf with ⟨hcs,_⟩ | ⟨x,l,c,A,L,C,Z,hcs,_,hl,hm,_,hc⟩
 ·simp [Value.cells] at hcs
  obtain ⟨rfl,rfl,rfl⟩:=hcs;exact ⟨fun _ => none,fun _ => 0,fun _ => 0,fun _ => [],fun h => absurd h (by omega),fun i hi => absurd hi (by omega),by omega,by omega⟩
 ·simp [Value.cells] at hcs
  obtain ⟨rfl,rfl,rfl⟩:=hcs;refine ⟨A,L,C,fun i => bytesOf ((Z i).take (L i)),fun h0 => ?_,fun i hi => ⟨(hc i (by omega)).2.1,(hc i (by omega)).2.2.1⟩,hl,hm⟩
  have hx:=plain_of2 (hc 0 (by omega)).1
  refine ⟨x.block,x.off,by rw [← hx],?_,fun i hi' => ?_⟩
  ·have:=(hc 0 (by omega)).1
   rw [hx,WideShapes.add_plain] at this;have:=World.block_lt_of_cell? _ _ this;exact this
  ·obtain ⟨h1,h2,h3,h4,h5,h6,h7⟩:=hc i (by omega)
   rw [hx,WideShapes.add_plain] at h1
   have hrow:IsRow .u8 w (A i) (L i) (C i) (Z i):=by
    rcases hA:A i with _ | y
    ·have hC:=h6 hA
     have hL:L i=0:=by omega
     have hZ:Z i=[]:=List.eq_nil_of_length_eq_zero (by omega)
     exact Or.inl ⟨rfl,hL,hC,hZ⟩
    ·exact Or.inr ⟨y,rfl,h2,h3,h4,fun j hj => (h7 y hA).2 j (by omega),h5⟩
   obtain ⟨g1,g2,_,_⟩:=bat_of_row hrow;exact ⟨h1,g1,g2⟩
end
end Go.Proofs.Ytfpoipamioaklaa.Block
end
