/- Texts of this seat, merged: what the proof reaches. -/
import Derived.Test.YtphehianajckaaaHeapPlaysX16
import Derived.Test.YtphehianajckaaaHeapPlaysX4
import Derived.Deep.RegionHeldLaw
import Derived.Deep.DeepCutAuto
import Derived.Test.YtphehianajckaaaHeapPlaysX9
import Derived.Test.YtphehianajckaaaHeapPlaysX7
import Derived.BigQuiet
import Derived.Test.YtphehianajckaaaHeapPlaysX8
import Derived.BigRegion
import Derived.Deep.RegionLaw
import Derived.Outline
namespace Go.Proofs.Ytphehianajckaaa
namespace Base
end Base
namespace Bk
end Bk
namespace Block
end Block
namespace Byt
end Byt
namespace Hea
end Hea
namespace Itm
end Itm
namespace Mem
end Mem
namespace Num
end Num
namespace Rec
end Rec
namespace Tre
end Tre
namespace Txt
end Txt
end Go.Proofs.Ytphehianajckaaa
section
namespace Go.Proofs.Ytphehianajckaaa.Itm
open Go.ChangeShapes Go.WideShapes Go.ChangeAt Go.RowKit Base Byt Txt Bk Rec Block Mem Tre Go.Lib
set_option linter.unusedVariables false
set_option maxRecDepth 100000
theorem own_blk {w:World} {B:Nat} {v:Value} {n:Nat} {bs:List UInt8} (h:OwnB w B v n bs):0 < n → ∀ z,(∃ c,v=.slice (some z) n c) → ∃ cur,Blk w z.block 5 cur:=fun h0 z hz => by
 obtain ⟨c,rfl⟩:=hz;rcases h.2 with ⟨h1,_⟩ | ⟨g,cap,cur,h1,_,hg,_⟩
 ·cases h1
 ·cases h1;exact ⟨cur,hg⟩
structure OwnJ (w wr:World) (xs:List IP) (k:Nat) (o:Value) (ys:List IP):Prop where
 bel:Below w.heap.size w wr
 row:wr.ownsRow w.heap.size 32 3 o ys.length (flatJ ys)
 len:ys.length=k
 same:ys.map IP.m=(xs.take k).map IP.m
 bodies:∀ y ∈ ys,DatAt wr y
 off:∀ y ∈ ys,0 < y.m.data.length → ∀ z,y.p=some z → o.ownBlock≠some z.block
 new:∀ y ∈ ys,0 < y.m.data.length → ∀ z,y.p=some z → w.heap.size≤z.block
 blk:∀ y ∈ ys,0 < y.m.data.length → ∀ z,y.p=some z → ∃ cur,Blk wr z.block 5 cur
section
variable {w wr w':World} {xs ys:List IP} {k:Nat} {o:Value}
theorem OwnJ.below (h:OwnJ w wr xs k o ys) (hb:Below wr.heap.size wr w'):OwnJ w w' xs k o ys where
 bel:=h.bel.trans (hb.mono h.bel.size)
 row:=row_below h.row hb
 len:=h.len
 same:=h.same
 bodies:=fun y hy => (h.bodies y hy).below hb
 off:=h.off
 new:=h.new
 blk:=fun y hy h0 z hz => by
  obtain ⟨cur,hc⟩:=h.blk y hy h0 z hz;exact ⟨cur,hc.below hb hc.lt⟩
theorem OwnJ.add (h:OwnJ w wr xs k o ys) (hk:k < xs.length) {y:IP} (hy:y.m=(xs.getD k zeroJ).m) (hb:DatAt wr y) (ho:0 < y.m.data.length → ∀ z,y.p=some z → o.ownBlock≠some z.block) (hw:0 < y.m.data.length → ∀ z,y.p=some z → w.heap.size≤z.block) (hk8:0 < y.m.data.length → ∀ z,y.p=some z → ∃ cur,Blk wr z.block 5 cur)
 {o':Value} (hrow:w'.ownsRow w.heap.size 32 3 o' (ys++[y]).length (flatJ (ys++[y]))) (hg:wr.grownBy w' o.ownBlock) (hn:NewOr wr o o'):OwnJ w w' xs (k+1) o' (ys++[y]):=by
 have hK:Kept (fun b => o.ownBlock=some b) wr w':=(Kept.refl _ wr).grown hg (fun k hk => .inr hk)
 have lt:∀ {b:Nat},o'.ownBlock=some b → b < wr.heap.size → o.ownBlock=some b:=fun hb hlt => by
  rcases hn _ hb with h | h
  ·exact h
  ·omega
 have all:∀ x ∈ ys++[y],DatAt wr x∧(0 < x.m.data.length → ∀ z,x.p=some z → o.ownBlock≠some z.block):=fun x hx => by
  rcases List.mem_append.1 hx with hx | hx
  ·exact ⟨h.bodies x hx,h.off x hx⟩
  ·rw [List.mem_singleton.1 hx]
   exact ⟨hb,ho⟩
 exact
 { bel:=h.bel.trans (hK.below h.bel.size (fun k hk => (World.ownsRow.lt h.row _ hk).1))
   row:=hrow
   len:=by rw [List.length_append,h.len];rfl
   same:=by rw [List.map_append,h.same,takeJ_succ xs k hk,← hy];rfl
   bodies:=fun x hx => (all x hx).1.kept hK (fun h0 z hz => (all x hx).2 h0 z hz)
   off:=fun x hx h0 z hz e => (all x hx).2 h0 z hz (lt e (bat_lt (all x hx).1.bat h0 hz))
   new:=fun x hx h0 z hz => by
    rcases List.mem_append.1 hx with hx | hx
    ·exact h.new x hx h0 z hz
    ·rw [List.mem_singleton.1 hx] at h0 hz;exact hw h0 z hz
   blk:=fun x hx h0 z hz => by
    have h1:∃ cur,Blk wr z.block 5 cur:=by
     rcases List.mem_append.1 hx with hx | hx
     ·exact h.blk x hx h0 z hz
     ·rw [List.mem_singleton.1 hx] at h0 hz;exact hk8 h0 z hz
    obtain ⟨cur,hc⟩:=h1
    exact ⟨cur,hc.keptS hK (fun e => (all x hx).2 h0 z hz e)⟩ }
end
end Go.Proofs.Ytphehianajckaaa.Itm
end
section
namespace Go.Proofs.Ytphehianajckaaa.Itm
open Go.ChangeShapes Go.WideShapes Go.ChangeAt Go.RowKit Base Num Byt Txt Bk Rec Block Tre Go.Lib
set_option linter.unusedVariables false
set_option maxRecDepth 100000
theorem strL_eq (a b:List UInt8):((str a).toList == (str b).toList)=decide (a=b):=by
 rw [str_toList,str_toList]
 by_cases h:a=b<;>simp [h]
set_option maxHeartbeats 1000000 in
theorem rless_any (x y:IP) (w:World) :
 Calls Try.prog 17 #[.agg x.cs,.agg y.cs] w fun e w' => e=.returned (.bool (lessI x.m y.m))∧Below w.heap.size w w':=by
 obtain ⟨⟨k,s,d⟩,p,c⟩:=x;obtain ⟨⟨k2,s2,d2⟩,p2,c2⟩:=y;obtain ⟨L,hL⟩:∃ L,lessI ⟨k,s,d⟩ ⟨k2,s2,d2⟩=L:=⟨_,rfl⟩
 have HL:Hid (L=(ltB k k2 || (decide (k=k2) && decide (s < s2)))):=Lib.hid (by
  rw [← hL];unfold lessI
  congr 2
  by_cases h:k=k2<;>simp [h])
 have t1:Op.bytesLess (str k).toList (str k2).toList=ltB k k2:=by rw [str_toList,str_toList];rfl
 have t2:=strL_eq k k2;obtain ⟨D,hD⟩:∃ D,d.length=D:=⟨_,rfl⟩;obtain ⟨D2,hD2⟩:∃ D2,d2.length=D2:=⟨_,rfl⟩;unfold IP.cs itmC
 dsimp only
 rw [hL,hD,hD2];clear hL hD hD2;obtain ⟨A,hA⟩:∃ A,ltB k k2=A:=⟨_,rfl⟩;obtain ⟨B,hB⟩:∃ B,decide (k=k2)=B:=⟨_,rfl⟩;rw [hA] at t1;rw [hB] at t2;rw [hA,hB] at HL;clear hA hB;obtain ⟨W0,hW0⟩:∃ W0,w.alloc (.cells #[.string (str k),.int .i64 s,.slice p D c] 32)=W0:=⟨_,rfl⟩;have b0:Below w.heap.size w W0:=by rw [← hW0];exact (Below.refl _ _).alloc (Nat.le_refl _) _
 have x0:Blk W0 w.heap.size 32 #[.string (str k),.int .i64 s,.slice p D c]:=by rw [← hW0];exact Blk.new w _ _
 obtain ⟨W,hW⟩:∃ W,W0.alloc (.cells #[.string (str k2),.int .i64 s2,.slice p2 D2 c2] 32)=W:=⟨_,rfl⟩;have b1:Below W0.heap.size W0 W:=by rw [← hW];exact (Below.refl _ _).alloc (Nat.le_refl _) _
 have y1:Blk W W0.heap.size 32 #[.string (str k2),.int .i64 s2,.slice p2 D2 c2]:=by rw [← hW];exact Blk.new W0 _ _
 have x1:=x0.below b1 x0.lt;have a0:=x1.cell 0;have a1:=x1.cell 1;have c0:=y1.cell 0;have c1:=y1.cell 1;simp only [List.getElem?_toArray,List.getElem?_cons_zero,List.getElem?_cons_succ] at a0 a1 c0 c1;have HB:Hid (Below w.heap.size w W):=Lib.hid (b0.trans (b1.mono b0.size));clear b0 x0 b1 y1 x1
 go_enter Try.func17,Try.ntmps17
 go_upto_region 1 with fail
 clear hW0 hW
 cases A with
 | true =>
   go_wp2
   go_ret
   exact ⟨by rw [HL.out];rfl,HB.out⟩
 | false =>
   cases B with
   | false =>
     go_wp2
     go_ret
     exact ⟨by rw [HL.out];rfl,HB.out⟩
   | true =>
     by_cases hlt:s < s2
     ·have E:Hid (L=true):=Lib.hid (by rw [HL.out,decide_eq_true hlt];rfl)
      have z:decide (s < s2)=true:=decide_eq_true hlt
      go_wp2
      go_ret
      exact ⟨by rw [E.out];rfl,HB.out⟩
     ·have E:Hid (L=false):=Lib.hid (by rw [HL.out,decide_eq_false hlt];rfl)
      have z:decide (s < s2)=false:=decide_eq_false hlt;clear hlt
      go_wp2
      go_ret
      exact ⟨by rw [E.out];rfl,HB.out⟩
theorem sameI_iff (x y:ItemV):decide (x=y)=(decide (x.key=y.key) && (decide (x.seq=y.seq) && decide (x.data=y.data))):=by
 obtain ⟨a,b,c⟩:=x;obtain ⟨d,e,f⟩:=y
 by_cases h1:a=d<;>by_cases h2:b=e<;>by_cases h3:c=f<;>simp [h1,h2,h3]
set_option maxHeartbeats 1000000 in
theorem rsame_any (x y:IP) (w:World) (hx:DatAt w x) (hy:DatAt w y) :
 Calls Try.prog 12 #[.agg x.cs,.agg y.cs] w fun e w' => e=.returned (.bool (decide (x.m=y.m)))∧Below w.heap.size w w':=by
 have hbx:=hx.bat;have hby:=hy.bat;clear hx hy;obtain ⟨⟨k,s,d⟩,p,c⟩:=x;obtain ⟨⟨k2,s2,d2⟩,p2,c2⟩:=y;obtain ⟨L,hL⟩:∃ L,decide ((⟨k,s,d⟩:ItemV)=⟨k2,s2,d2⟩)=L:=⟨_,rfl⟩
 have HL:Hid (L=(decide (k=k2) && (decide (s=s2) && decide (d=d2)))):=Lib.hid (by
  rw [← hL,sameI_iff])
 have t2:=strL_eq k k2;have t3:=strL_eq d d2;unfold IP.cs itmC
 dsimp only at hbx hby ⊢
 rw [hL];clear hL;obtain ⟨W0,hW0⟩:∃ W0,w.alloc (.cells #[.string (str k),.int .i64 s,.slice p d.length c] 32)=W0:=⟨_,rfl⟩;have b0:Below w.heap.size w W0:=by rw [← hW0];exact (Below.refl _ _).alloc (Nat.le_refl _) _
 have x0:Blk W0 w.heap.size 32 #[.string (str k),.int .i64 s,.slice p d.length c]:=by rw [← hW0];exact Blk.new w _ _
 obtain ⟨W,hW⟩:∃ W,W0.alloc (.cells #[.string (str k2),.int .i64 s2,.slice p2 d2.length c2] 32)=W:=⟨_,rfl⟩;have b1:Below W0.heap.size W0 W:=by rw [← hW];exact (Below.refl _ _).alloc (Nat.le_refl _) _
 have y1:Blk W W0.heap.size 32 #[.string (str k2),.int .i64 s2,.slice p2 d2.length c2]:=by rw [← hW];exact Blk.new W0 _ _
 have x1:=x0.below b1 x0.lt;have hB:Below w.heap.size w W:=b0.trans (b1.mono b0.size);have v1:=conv_at (P:=Try.prog) (hbx.below hB) rfl _ _ _ Try.underlying30 Try.underlying5 Try.underlying9 c;have v2:=conv_at (P:=Try.prog) (hby.below hB) rfl _ _ _ Try.underlying30 Try.underlying5 Try.underlying9 c2;change _=Go.Result.ok (Value.string (str d)) W at v1;change _=Go.Result.ok (Value.string (str d2)) W at v2;obtain ⟨A,hA⟩:∃ A,decide (k=k2)=A:=⟨_,rfl⟩;obtain ⟨E,hE⟩:∃ E,decide (d=d2)=E:=⟨_,rfl⟩;rw [hA] at t2;rw [hE] at t3;rw [hA,hE] at HL;obtain ⟨D,hD⟩:∃ D,d.length=D:=⟨_,rfl⟩
 obtain ⟨D2,hD2⟩:∃ D2,d2.length=D2:=⟨_,rfl⟩;rw [hD] at hW0 x1 v1 ⊢;rw [hD2] at hW y1 v2 ⊢;have a0:=x1.cell 0;have a1:=x1.cell 1;have a2:=x1.cell 2;have c0:=y1.cell 0;have c1:=y1.cell 1;have c3:=y1.cell 2;simp only [List.getElem?_toArray,List.getElem?_cons_zero,List.getElem?_cons_succ] at a0 a1 a2 c0 c1 c3;have HB:=Lib.hid hB;clear b0 x0 b1 y1 x1 hB hA hE hbx hby hD hD2
 go_enter Try.func12,Try.ntmps12
 go_upto_region 1 with fail
 clear hW0 hW
 cases A with
 | false =>
   go_wp2
   go_ret
   exact ⟨by rw [HL.out];rfl,HB.out⟩
 | true =>
   by_cases hs:s=s2
   ·have z:decide (s=s2)=true:=decide_eq_true hs
    have E2:Hid (L=E):=Lib.hid (by rw [HL.out,z];cases E<;>rfl)
    go_wp2
    go_ret
    exact ⟨by rw [E2.out];rfl,HB.out⟩
   ·have z:decide (s=s2)=false:=decide_eq_false hs
    have E2:Hid (L=false):=Lib.hid (by rw [HL.out,z];rfl)
    go_wp2
    go_ret
    exact ⟨by rw [E2.out];rfl,HB.out⟩
end Go.Proofs.Ytphehianajckaaa.Itm
end
section
namespace Go.Proofs.Ytphehianajckaaa.Itm
open Go.ChangeShapes Go.WideShapes Go.ChangeAt Go.RowKit Base Num Byt Txt Bk Rec Block Tre Go.Lib
set_option linter.unusedVariables false
set_option maxRecDepth 100000
theorem pathLess_any (a b:List UInt8) (w:World) :
 Calls Try.prog 42 #[.string (str a),.string (str b)] w fun e w' => e=.returned (.bool (ltB a b))∧w=w':=by
 have t1:Op.bytesLess (str a).toList (str b).toList=ltB a b:=by rw [str_toList,str_toList];rfl
 obtain ⟨L,hL⟩:∃ L,ltB a b=L:=⟨_,rfl⟩;rw [hL] at t1 ⊢;clear hL
 go_enter Try.func42,Try.ntmps42
 go_wp2
 go_ret
 exact ⟨rfl,rfl⟩
set_option maxHeartbeats 1000000 in
theorem lessI_any (x y:IP) (w:World) :
 Calls Try.prog 41 #[.agg x.cs,.agg y.cs] w fun e w' => e=.returned (.bool (lessI x.m y.m))∧Below w.heap.size w w':=by
 obtain ⟨⟨k,s,d⟩,p,c⟩:=x;obtain ⟨⟨k2,s2,d2⟩,p2,c2⟩:=y;obtain ⟨L,hL⟩:∃ L,lessI ⟨k,s,d⟩ ⟨k2,s2,d2⟩=L:=⟨_,rfl⟩
 have HL:Hid (L=(ltB k k2 || (decide (k=k2) && decide (s < s2)))):=Lib.hid (by
  rw [← hL];unfold lessI
  congr 2
  by_cases h:k=k2<;>simp [h])
 have HP:=Lib.hid (fun w => pathLess_any k k2 w)
 have t2:=strL_eq k k2;obtain ⟨D,hD⟩:∃ D,d.length=D:=⟨_,rfl⟩;obtain ⟨D2,hD2⟩:∃ D2,d2.length=D2:=⟨_,rfl⟩;unfold IP.cs itmC
 dsimp only
 rw [hL,hD,hD2];clear hL hD hD2;obtain ⟨A,hA⟩:∃ A,ltB k k2=A:=⟨_,rfl⟩;obtain ⟨B,hB⟩:∃ B,decide (k=k2)=B:=⟨_,rfl⟩;rw [hA] at HP;rw [hB] at t2;rw [hA,hB] at HL;clear hA hB;obtain ⟨W0,hW0⟩:∃ W0,w.alloc (.cells #[.string (str k),.int .i64 s,.slice p D c] 32)=W0:=⟨_,rfl⟩;have b0:Below w.heap.size w W0:=by rw [← hW0];exact (Below.refl _ _).alloc (Nat.le_refl _) _
 have x0:Blk W0 w.heap.size 32 #[.string (str k),.int .i64 s,.slice p D c]:=by rw [← hW0];exact Blk.new w _ _
 obtain ⟨W,hW⟩:∃ W,W0.alloc (.cells #[.string (str k2),.int .i64 s2,.slice p2 D2 c2] 32)=W:=⟨_,rfl⟩;have b1:Below W0.heap.size W0 W:=by rw [← hW];exact (Below.refl _ _).alloc (Nat.le_refl _) _
 have y1:Blk W W0.heap.size 32 #[.string (str k2),.int .i64 s2,.slice p2 D2 c2]:=by rw [← hW];exact Blk.new W0 _ _
 have x1:=x0.below b1 x0.lt;have a0:=x1.cell 0;have a1:=x1.cell 1;have c0:=y1.cell 0;have c1:=y1.cell 1;simp only [List.getElem?_toArray,List.getElem?_cons_zero,List.getElem?_cons_succ] at a0 a1 c0 c1;have HB:Hid (Below w.heap.size w W):=Lib.hid (b0.trans (b1.mono b0.size));clear b0 x0 b1 y1 x1
 go_enter Try.func41,Try.ntmps41
 go_upto_region 1 with fail
 clear hW0 hW
 go_wp2_with fail
 refine (HP.out W).mono ?_
 rintro e w' ⟨rfl,rfl⟩
 cases A with
 | true =>
   go_wp2
   go_ret
   exact ⟨by rw [HL.out];rfl,HB.out⟩
 | false =>
   cases B with
   | false =>
     go_wp2
     go_ret
     exact ⟨by rw [HL.out];rfl,HB.out⟩
   | true =>
     by_cases hlt:s < s2
     ·have E:Hid (L=true):=Lib.hid (by rw [HL.out,decide_eq_true hlt];rfl)
      have z:decide (s < s2)=true:=decide_eq_true hlt
      go_wp2
      go_ret
      exact ⟨by rw [E.out];rfl,HB.out⟩
     ·have E:Hid (L=false):=Lib.hid (by rw [HL.out,decide_eq_false hlt];rfl)
      have z:decide (s < s2)=false:=decide_eq_false hlt;clear hlt
      go_wp2
      go_ret
      exact ⟨by rw [E.out];rfl,HB.out⟩
end Go.Proofs.Ytphehianajckaaa.Itm
end
section
namespace Go.Proofs.Ytphehianajckaaa.Hea
open Go.ChangeShapes Go.WideShapes Go.ChangeAt Go.RowKit Base Byt Txt Bk Mem Tre Itm Go.Lib
set_option linter.unusedVariables false
set_option maxRecDepth 100000
set_option maxHeartbeats 4000000 in
theorem less15_any (x y:EP) (w:World) :
 Calls Try.prog 11 #[.agg x.cs,.agg y.cs] w fun e w' => e=.returned (.bool (lessE x.m y.m))∧Below w.heap.size w w':=by
 have h1:=fun w => rless_any x.ip y.ip w
 have h2:=fun w => rless_any y.ip x.ip w
 obtain ⟨⟨⟨k,s,d⟩,r⟩,p,c⟩:=x;obtain ⟨⟨⟨k2,s2,d2⟩,r2⟩,p2,c2⟩:=y;obtain ⟨L,hL⟩:∃ L,lessE ⟨⟨k,s,d⟩,r⟩ ⟨⟨k2,s2,d2⟩,r2⟩=L:=⟨_,rfl⟩;unfold lessE at hL
 dsimp only at hL
 simp only [EP.ip,IP.cs,itmC] at h1 h2;obtain ⟨A,hA⟩:∃ A,lessI ⟨k,s,d⟩ ⟨k2,s2,d2⟩=A:=⟨_,rfl⟩;obtain ⟨B,hB⟩:∃ B,lessI ⟨k2,s2,d2⟩ ⟨k,s,d⟩=B:=⟨_,rfl⟩;rw [hA] at h1 hL;rw [hB] at h2 hL;obtain ⟨D,hD⟩:∃ D,d.length=D:=⟨_,rfl⟩;obtain ⟨D2,hD2⟩:∃ D2,d2.length=D2:=⟨_,rfl⟩;rw [hD,hD2] at h1 h2;have H1:=Lib.hid h1;have H2:=Lib.hid h2;have HL:Hid (L=(A || (!B && decide (r < r2)))):=Lib.hid hL.symm
 have hgoal:lessE ⟨⟨k,s,d⟩,r⟩ ⟨⟨k2,s2,d2⟩,r2⟩=L:=by unfold lessE;dsimp only;rw [hA,hB];exact hL
 unfold EP.cs entC
 dsimp only
 rw [hgoal,hD,hD2];clear hL hgoal hA hB hD hD2 h1 h2;obtain ⟨W0,hW0⟩:∃ W0,w.alloc (.cells #[.string (str k),.int .i64 s,.slice p D c,.int .i64 r] 34)=W0:=⟨_,rfl⟩;have b0:Below w.heap.size w W0:=by rw [← hW0];exact (Below.refl _ _).alloc (Nat.le_refl _) _
 have x0:Blk W0 w.heap.size 34 #[.string (str k),.int .i64 s,.slice p D c,.int .i64 r]:=by rw [← hW0];exact Blk.new w _ _
 obtain ⟨W,hW⟩:∃ W,W0.alloc (.cells #[.string (str k2),.int .i64 s2,.slice p2 D2 c2,.int .i64 r2] 34)=W:=⟨_,rfl⟩;have b1:Below W0.heap.size W0 W:=by rw [← hW];exact (Below.refl _ _).alloc (Nat.le_refl _) _
 have y1:Blk W W0.heap.size 34 #[.string (str k2),.int .i64 s2,.slice p2 D2 c2,.int .i64 r2]:=by rw [← hW];exact Blk.new W0 _ _
 have x1:=x0.below b1 x0.lt;have a0:=x1.cell 0;have a1:=x1.cell 1;have a2:=x1.cell 2;have a3:=x1.cell 3;have c0:=y1.cell 0;have c1:=y1.cell 1;have c2':=y1.cell 2;have c3:=y1.cell 3;simp only [List.getElem?_toArray,List.getElem?_cons_zero,List.getElem?_cons_succ] at a0 a1 a2 a3 c0 c1 c2' c3;have HB:Hid (Below w.heap.size w W):=Lib.hid (b0.trans (b1.mono b0.size));have HX:=Lib.hid x1;have HY:=Lib.hid y1;clear b0 x0 b1 y1 x1
 go_enter Try.func11,Try.ntmps11
 go_upto_region 1 with fail
 clear hW0 hW
 go_wp2_with fail
 refine (H1.out _).mono ?_
 rintro e w6 ⟨rfl,hb6⟩;have hbw:=HB.out.trans (hb6.mono HB.out.size);have hx6:=HX.out.below hb6 HX.out.lt;have hy6:=HY.out.below hb6 HY.out.lt;have HB6:=Lib.hid hbw
 cases A with
 | true =>
   clear a0 a1 a2 a3 c0 c1 c2' c3 hb6 hbw hx6 hy6
   go_wp2
   go_ret
   exact ⟨by rw [HL.out];rfl,HB6.out⟩
 | false =>
   have a0':=hx6.cell 0;have a1':=hx6.cell 1;have a2':=hx6.cell 2;have c0':=hy6.cell 0;have c1':=hy6.cell 1;have c2'':=hy6.cell 2;simp only [List.getElem?_toArray,List.getElem?_cons_zero,List.getElem?_cons_succ] at a0' a1' a2' c0' c1' c2'';have HX6:=Lib.hid hx6;have HY6:=Lib.hid hy6;clear a0 a1 a2 a3 c0 c1 c2' c3 hb6 hbw hx6 hy6
   go_wp2_with fail
   refine (H2.out _).mono ?_
   rintro e w7 ⟨rfl,hb7⟩;have hbw:=HB6.out.trans (hb7.mono HB6.out.size);have hx7:=HX6.out.below hb7 HX6.out.lt;have hy7:=HY6.out.below hb7 HY6.out.lt;have HB7:=Lib.hid hbw;have a3:=hx7.cell 3;have c3:=hy7.cell 3;simp only [List.getElem?_toArray,List.getElem?_cons_zero,List.getElem?_cons_succ] at a3 c3;clear a0' a1' a2' c0' c1' c2'' hb7 hbw hx7 hy7
   cases B with
   | true =>
     go_wp2
     go_ret
     exact ⟨by rw [HL.out];rfl,HB7.out⟩
   | false =>
     have E:Hid (L=decide (r < r2)):=Lib.hid (by rw [HL.out];rfl)
     go_wp2
     go_ret
     exact ⟨by rw [E.out];rfl,HB7.out⟩
def TakeP (w:World) (xs:List EP) (n:Nat) (e:Ending) (w':World):Prop:=∃ j:Int,e=.returned (.int .i64 j)∧TakeAt (xs.map EP.m) n j∧Below w.heap.size w w'
attribute [local irreducible] wpQuiet
set_option maxHeartbeats 4000000 in
theorem take15_any (p:Option Addr) (n c:Nat) (xs:List EP) (w:World) (h:EntsAt w p n xs) (hn:n≤1000) :
 Calls Try.prog 8 #[.slice p n c] w (TakeP w xs n):=by
 have HE:=Lib.hid h;have HLN:=Lib.hid h.1;clear h
 go_enter Try.func8,Try.ntmps8
 go_wp2_with fail
 go_loopw [3,4] (fun k i wr => ∃ (a:Nat) (j:Int),a≤n∧i=.int .i64 (a:Int)∧k=.int .i64 j∧Hid (TakeAt (xs.map EP.m) a j)∧Hid (Below w.heap.size w wr)) (fun _ i _ => n - (RowKit.intOf i).toNat)
 case atStart => exact ⟨0,-1,Nat.zero_le _,rfl,rfl,Lib.hid (TakeAt.start _),Lib.hid (Below.refl _ _)⟩
 case round =>
  obtain ⟨a,j,ha,rfl,rfl,hT,hB⟩:=hrel
  by_cases hlt:a < n
  ·have hltz:(a:Int) < (n:Int):=by omega
   by_cases hj:j < 0
   ·obtain ⟨hz,hj1⟩:a=0∧j = -1:=by
     rcases hT.out with h | ⟨m,hm,_⟩
     ·exact h
     ·omega
    subst hz;subst hj1;have HN:Hid (TakeAt (xs.map EP.m) 1 0):=Lib.hid TakeAt.first
    clear hT hj
    go_upto_region 5 with fail
    go_quiet (fail)
    go_wp2
    go_roundw
    case rel => exact ⟨1,0,by omega,by go_num,rfl,HN,Lib.hid (below_drewN hB.out _)⟩
    case measure => simp [RowKit.intOf];omega
   ·obtain ⟨m,rfl⟩:∃ m:Nat,j=(m:Int):=⟨j.toNat,by omega⟩
    have hma:m < a:=by
     rcases hT.out with ⟨_,h⟩ | ⟨m',hm,h,_⟩
     ·omega
     ·omega
    have hmn:(m:Int) < (n:Int):=by omega
    have hjs:¬ ((m:Int) < 0):=by omega
    obtain ⟨b,o,rfl,hbw,hD,hc⟩:=(HE.out.below hB.out).cells4n hlt;obtain ⟨b',o',he,_,hD',hc'⟩:=(HE.out.below hB.out).cells4n (show m < n by omega)
    cases he
    obtain ⟨y,hy⟩:∃ y,xs.getD a zeroEn=y:=⟨_,rfl⟩;obtain ⟨z,hz⟩:∃ z,xs.getD m zeroEn=z:=⟨_,rfl⟩;rw [hy] at hc;rw [hz] at hc';have HCALL:=Lib.hid (fun w => less15_any y z w)
    have HYZ:Hid ((xs.map EP.m).getD a zeroV15=y.m∧(xs.map EP.m).getD m zeroV15=z.m):=Lib.hid ⟨by rw [getEn_map,hy],by rw [getEn_map,hz]⟩
    obtain ⟨Lq,hL⟩:∃ Lq,lessE y.m z.m=Lq:=⟨_,rfl⟩;have HL:=Lib.hid hL;obtain ⟨c0,c1,c2,c3⟩:=hc;obtain ⟨d0,d1,d2,d3⟩:=hc';unfold EP.cs entC at HCALL;rw [hL] at HCALL;have se0:=since_cell c0;have se1:=since_cell c1;have se2:=since_cell c2;have se3:=since_cell c3;have sd0:=since_cell d0;have sd1:=since_cell d1;have sd2:=since_cell d2;have sd3:=since_cell d3;clear hD hD' hy hz hL c0 c1 c2 c3 d0 d1 d2 d3 hbw
    go_upto_region 5 with fail
    refine wp_region_since (by kernel_rfl) (by kernel_rfl) ?_
    repeat (quiet_step (first
     | (go_at_call 11;exact Calls.since_of (HCALL.out _))))
    refine wpQuiet_nil ?_
    intro wq hw';have hwq:=since_bel hw';have HBQ:=Lib.hid (hB.out.trans (hwq.mono hB.out.size));clear hw' hwq se0 se1 se2 se3 sd0 sd1 sd2 sd3
    cases Lq with
    | true =>
      have HN:Hid (TakeAt (xs.map EP.m) (a+1) (a:Int)):=Lib.hid (hT.out.less (by rw [HYZ.out.1,HYZ.out.2];exact HL.out))
      go_wp2
      go_roundw
      case rel => exact ⟨a+1,a,by omega,by go_num,rfl,HN,HBQ⟩
      case measure => simp [RowKit.intOf];omega
    | false =>
      have HN:Hid (TakeAt (xs.map EP.m) (a+1) (m:Int)):=Lib.hid (hT.out.more (by rw [HYZ.out.1,HYZ.out.2];exact HL.out))
      go_wp2
      go_roundw
      case rel => exact ⟨a+1,m,by omega,by go_num,rfl,HN,HBQ⟩
      case measure => simp [RowKit.intOf];omega
  ·obtain rfl:a=n:=by omega
   have hks:¬ ((a:Int) < (a:Int)):=by omega
   go_wp2
   go_ret
   exact ⟨j,rfl,hT.out,hB.out⟩
end Go.Proofs.Ytphehianajckaaa.Hea
end
section
namespace Go.Proofs.Ytphehianajckaaa.Hea
open Go.ChangeShapes Go.WideShapes Go.ChangeAt Go.RowKit Base Byt Txt Bk Mem Tre Itm Go.Lib
set_option linter.unusedVariables false
set_option maxRecDepth 100000
structure HeaQ (At:World → Nat → List EntV → (Nat → Prop) → Prop) (w0 wr:World) (g:Nat) (own:Nat → Prop) (L:List EntV):Prop where
 at_:At wr g L own
 bel:Below w0.heap.size w0 wr
 base:∀ b,own b → w0.heap.size≤b
section
variable {At:World → Nat → List EntV → (Nat → Prop) → Prop} {w0 wr w':World} {g:Nat} {own own':Nat → Prop} {L L':List EntV}
theorem HeaQ.none_ (H:HeaC At) (h:HeaQ At w0 wr g own L) (hk:Kept noneB wr w'):HeaQ At w0 w' g own L where
 at_:=H.frame h.at_ hk (fun _ _ h => h)
 bel:=h.bel.trans (hk.below h.bel.size (fun _ h => h.elim))
 base:=h.base
theorem HeaQ.below (H:HeaC At) (h:HeaQ At w0 wr g own L) (hb:Below wr.heap.size wr w'):HeaQ At w0 w' g own L:=h.none_ H (Kept.of_below hb noneB)
theorem HeaQ.chg (h:HeaQ At w0 wr g own L) (ha:At w' g L' own') (hs:∀ b,own' b → own b ∨ wr.heap.size≤b) (hk:Kept own wr w'):HeaQ At w0 w' g own' L' where
 at_:=ha
 bel:=h.bel.trans (hk.below h.bel.size h.base)
 base:=fun b hb => by
  rcases hs b hb with h1 | h1
  ·exact h.base b h1
  ·exact Nat.le_trans h.bel.size h1
theorem HeaQ.start (H:HeaC At) {w0 w:World} (hb:Below w0.heap.size w0 w):HeaQ At w0 (w.alloc (.cells newH 28)) w.heap.size (fun b => b=w.heap.size) [] where
 at_:=H.new w
 bel:=hb.alloc hb.size _
 base:=fun b hb2 => by rw [hb2];exact hb.size
end
def entB:EP:=⟨⟨⟨[98],0,[]⟩,0⟩,none,0⟩
def entA:EP:=⟨⟨⟨[97],0,[]⟩,5⟩,none,0⟩
theorem pop_AB {x:EntV} {L:List EntV} (hp:[entA.m,entB.m].Perm (x :: L)) (hl:Least15 x [entA.m,entB.m]):x=entA.m∧L.length=1:=by
 have h1:=hp.length_eq;have h2:x ∈ [entA.m,entB.m]:=hp.mem_iff.2 (List.mem_cons_self ..);refine ⟨?_,by simp only [List.length_cons,List.length_nil] at h1;omega⟩
 simp only [List.mem_cons,List.not_mem_nil,or_false] at h2;rcases h2 with h2 | h2
 ·exact h2
 ·have h3:=hl entA.m (by simp)
  rw [h2] at h3;exact absurd h3 (by decide)
theorem dat_nil (w:World) (m:EntV) (h:m.it.data=[]):DatE w ⟨m,none,0⟩:=⟨by dsimp only;rw [h];exact BAt.none_ w none,by dsimp only;rw [h];exact Nat.le_refl _,Nat.zero_le _⟩
set_option maxHeartbeats 4000000 in
theorem ans15_any {At:World → Nat → List EntV → (Nat → Prop) → Prop} (H:HeaC At) (w:World) :
 Calls Try.prog 6 #[] w fun e w' => e=.returned (.bool true)∧Below w.heap.size w w':=by
 have HC:=Lib.hid H;have hq:=HeaQ.start H (Below.refl w.heap.size w);obtain ⟨W1,hW1⟩:∃ W1,w.alloc (.cells newH 28)=W1:=⟨_,rfl⟩;rw [hW1] at hq;unfold newH at hW1;have HP1:=Lib.hid (H.push entB hq.at_ (dat_nil _ _ rfl) (by decide) (by decide))
 have HQ1:=Lib.hid hq;clear H hq
 go_enter Try.func6,Try.ntmps6
 go_upto_region 2 with fail
 clear hW1
 go_wp2_with fail
 refine HP1.out.mono ?_
 rintro e w2 ⟨own2,rfl,ha,hs,hk⟩;have hq2:=HQ1.out.chg ha hs hk;have HP2:=Lib.hid (HC.out.push entA hq2.at_ (dat_nil _ _ rfl) (by decide) (by decide))
 have HQ2:=Lib.hid hq2;clear ha hs hk hq2 HP1
 go_wp2_with fail
 refine HP2.out.mono ?_
 rintro e w3 ⟨own3,rfl,ha,hs,hk⟩;have hq3:=HQ2.out.chg ha hs hk;have HP3:=Lib.hid (HC.out.pop hq3.at_ (by decide) (by decide))
 have HQ3:=Lib.hid hq3;clear ha hs hk hq3 HP2 HQ1 HQ2
 go_wp2_with fail
 refine HP3.out.mono ?_
 rintro e w4 ⟨⟨xm,xp,xc⟩,L4,own4,rfl,hp,hl,ha,hs,hk,-⟩;obtain ⟨hx,hL4⟩:=pop_AB hp hl
 dsimp only at hx
 subst hx;have hq4:=HQ3.out.chg ha hs hk;have HQ4:=Lib.hid hq4;have HL4:=Lib.hid hL4;clear ha hs hk hq4 HP3 HQ3 hp hl hL4;obtain ⟨W5,hW5⟩:∃ W5,w4.alloc (.cells #[.string (str [97]),.int .i64 0,.slice xp 0 xc,.int .i64 5] 34)=W5:=⟨_,rfl⟩;have hb5:Blk W5 w4.heap.size 34 #[.string (str [97]),.int .i64 0,.slice xp 0 xc,.int .i64 5]:=by rw [← hW5];exact Blk.new w4 _ _
 have hq5:HeaQ At w W5 w.heap.size own4 L4:=by rw [← hW5];exact HQ4.out.none_ HC.out ((Kept.refl noneB w4).alloc _)
 have hlen:=HC.out.len hq5.at_ (by rw [HL4.out];decide)
 rw [HL4.out] at hlen;have HLEN:=Lib.hid hlen;have HQ5:=Lib.hid hq5;have c0:W5.cell? ⟨w4.heap.size,0,none⟩=some (.string ⟨#[97]⟩):=hb5.cell 0;have c3:W5.cell? ⟨w4.heap.size,3,none⟩=some (.int .i64 5):=hb5.cell 3;have hw5:=hW5;clear hW5 hb5 hq5 hlen HQ4 HL4;unfold entA EP.cs entC
 dsimp only
 go_upto_region 5 with fail
 clear hw5
 go_wp2_with fail
 refine HLEN.out.mono ?_
 rintro e w6 ⟨rfl,hk⟩;have HQ6:=Lib.hid (HQ5.out.none_ HC.out hk);clear hk
 go_wp2
 go_ret
 exact ⟨rfl,HQ6.out.bel⟩
theorem blk_put15 {w:World} {b:Nat} {y:EP} (h:Blk w b 34 y.cs) (x:EP):Blk (put4n w b 0 x) b 34 x.cs:=by
 have h1:=(((h.set 0 (.string (str x.m.it.key)) (show 0 < 4 by decide)).set 1 (.int .i64 x.m.it.seq) (show 1 < 4 by decide)).set 2 (.slice x.p x.m.it.data.length x.c) (show 2 < 4 by decide)).set 3 (.int .i64 x.m.run) (show 3 < 4 by decide)
 exact h1
end Go.Proofs.Ytphehianajckaaa.Hea
end
section
namespace Go.Proofs.Ytphehianajckaaa.Hea
open Go.ChangeShapes Go.WideShapes Go.ChangeAt Go.RowKit Base Byt Txt Bk Mem Tre Itm Block Go.Lib
set_option linter.unusedVariables false
set_option maxRecDepth 100000
attribute [local irreducible] wpQuiet
abbrev ifH (g:Nat):Value:=.iface 45 (.pointer (some ⟨g,0,none⟩))
theorem meth_len0 (a : Addr) (w : World) (F : Nat) : (method (F + 1) 45 (.pointer (some a)) "Len").run Try.prog w = ((do let v ← loadVar 26 a; pure (37, v)) : Sem (FuncId × Value)).run Try.prog w := by kernel_rfl
theorem meth_less0 (a : Addr) (w : World) (F : Nat) : (method (F + 1) 45 (.pointer (some a)) "Less").run Try.prog w = ((do let v ← loadVar 26 a; pure (38, v)) : Sem (FuncId × Value)).run Try.prog w := by kernel_rfl
theorem meth_swap0 (a : Addr) (w : World) (F : Nat) : (method (F + 1) 45 (.pointer (some a)) "Swap").run Try.prog w = ((do let v ← loadVar 26 a; pure (39, v)) : Sem (FuncId × Value)).run Try.prog w := by kernel_rfl
theorem meth_push (a : Addr) (w : World) (F : Nat) : (method (F + 1) 45 (.pointer (some a)) "Push").run Try.prog w = .ok (44, .pointer (some a)) w := by kernel_rfl
theorem meth_pop (a : Addr) (w : World) (F : Nat) : (method (F + 1) 45 (.pointer (some a)) "Pop").run Try.prog w = .ok (43, .pointer (some a)) w := by kernel_rfl
theorem load_list {a:Addr} {w:World} {v:Value} (hc:w.cell? a=some v):(loadVar 26 a).run Try.prog w=.ok v w:=by go_simp
theorem meth_len {a : Addr} {w : World} {v : Value} (hc : w.cell? a = some v) (F : Nat) : (method (F + 1) 45 (.pointer (some a)) "Len").run Try.prog w = .ok (37, v) w := by
 rw [meth_len0];simp [load_list hc,Result.andThen]
theorem meth_less {a : Addr} {w : World} {v : Value} (hc : w.cell? a = some v) (F : Nat) : (method (F + 1) 45 (.pointer (some a)) "Less").run Try.prog w = .ok (38, v) w := by
 rw [meth_less0];simp [load_list hc,Result.andThen]
theorem meth_swap {a : Addr} {w : World} {v : Value} (hc : w.cell? a = some v) (F : Nat) : (method (F + 1) 45 (.pointer (some a)) "Swap").run Try.prog w = .ok (39, v) w := by
 rw [meth_swap0];simp [load_list hc,Result.andThen]
theorem mLen_any (p:Option Addr) (n c:Nat) (w:World):Calls Try.prog 37 #[.slice p n c] w fun e w' => e=.returned (.int .i64 (n:Nat))∧w=w':=by
 go_enter Try.func37,Try.ntmps37
 go_wp2
 go_ret
 exact ⟨rfl,rfl⟩
set_option maxHeartbeats 4000000 in
theorem hpBefore_any (x y:EP) (w:World) :
 Calls Try.prog 40 #[.agg x.cs,.agg y.cs] w fun e w' => e=.returned (.bool (lessE x.m y.m))∧Below w.heap.size w w':=by
 have h1:=fun w => lessI_any x.ip y.ip w
 have h2:=fun w => lessI_any y.ip x.ip w
 obtain ⟨⟨⟨k,s,d⟩,r⟩,p,c⟩:=x;obtain ⟨⟨⟨k2,s2,d2⟩,r2⟩,p2,c2⟩:=y;obtain ⟨L,hL⟩:∃ L,lessE ⟨⟨k,s,d⟩,r⟩ ⟨⟨k2,s2,d2⟩,r2⟩=L:=⟨_,rfl⟩;unfold lessE at hL
 dsimp only at hL
 simp only [EP.ip,IP.cs,itmC] at h1 h2;obtain ⟨A,hA⟩:∃ A,lessI ⟨k,s,d⟩ ⟨k2,s2,d2⟩=A:=⟨_,rfl⟩;obtain ⟨B,hB⟩:∃ B,lessI ⟨k2,s2,d2⟩ ⟨k,s,d⟩=B:=⟨_,rfl⟩;rw [hA] at h1 hL;rw [hB] at h2 hL;obtain ⟨D,hD⟩:∃ D,d.length=D:=⟨_,rfl⟩;obtain ⟨D2,hD2⟩:∃ D2,d2.length=D2:=⟨_,rfl⟩;rw [hD,hD2] at h1 h2;have H1:=Lib.hid h1;have H2:=Lib.hid h2;have HL:Hid (L=(A || (!B && decide (r < r2)))):=Lib.hid hL.symm
 have hgoal:lessE ⟨⟨k,s,d⟩,r⟩ ⟨⟨k2,s2,d2⟩,r2⟩=L:=by unfold lessE;dsimp only;rw [hA,hB];exact hL
 unfold EP.cs entC
 dsimp only
 rw [hgoal,hD,hD2];clear hL hgoal hA hB hD hD2 h1 h2;obtain ⟨W0,hW0⟩:∃ W0,w.alloc (.cells #[.string (str k),.int .i64 s,.slice p D c,.int .i64 r] 34)=W0:=⟨_,rfl⟩;have b0:Below w.heap.size w W0:=by rw [← hW0];exact (Below.refl _ _).alloc (Nat.le_refl _) _
 have x0:Blk W0 w.heap.size 34 #[.string (str k),.int .i64 s,.slice p D c,.int .i64 r]:=by rw [← hW0];exact Blk.new w _ _
 obtain ⟨W,hW⟩:∃ W,W0.alloc (.cells #[.string (str k2),.int .i64 s2,.slice p2 D2 c2,.int .i64 r2] 34)=W:=⟨_,rfl⟩;have b1:Below W0.heap.size W0 W:=by rw [← hW];exact (Below.refl _ _).alloc (Nat.le_refl _) _
 have y1:Blk W W0.heap.size 34 #[.string (str k2),.int .i64 s2,.slice p2 D2 c2,.int .i64 r2]:=by rw [← hW];exact Blk.new W0 _ _
 have x1:=x0.below b1 x0.lt;have a0:=x1.cell 0;have a1:=x1.cell 1;have a2:=x1.cell 2;have a3:=x1.cell 3;have c0:=y1.cell 0;have c1:=y1.cell 1;have c2':=y1.cell 2;have c3:=y1.cell 3;simp only [List.getElem?_toArray,List.getElem?_cons_zero,List.getElem?_cons_succ] at a0 a1 a2 a3 c0 c1 c2' c3;have HB:Hid (Below w.heap.size w W):=Lib.hid (b0.trans (b1.mono b0.size));have HX:=Lib.hid x1;have HY:=Lib.hid y1;clear b0 x0 b1 y1 x1
 go_enter Try.func40,Try.ntmps40
 go_upto_region 1 with fail
 clear hW0 hW
 go_wp2_with fail
 refine (H1.out _).mono ?_
 rintro e w6 ⟨rfl,hb6⟩;have hbw:=HB.out.trans (hb6.mono HB.out.size);have hx6:=HX.out.below hb6 HX.out.lt;have hy6:=HY.out.below hb6 HY.out.lt;have HB6:=Lib.hid hbw
 cases A with
 | true =>
   clear a0 a1 a2 a3 c0 c1 c2' c3 hb6 hbw hx6 hy6
   go_wp2
   go_ret
   exact ⟨by rw [HL.out];rfl,HB6.out⟩
 | false =>
   have E0:Hid (L=(!B && decide (r < r2))):=Lib.hid (by rw [HL.out];rfl)
   have a0':=hx6.cell 0;have a1':=hx6.cell 1;have a2':=hx6.cell 2;have a3':=hx6.cell 3;have c0':=hy6.cell 0;have c1':=hy6.cell 1;have c2'':=hy6.cell 2;have c3':=hy6.cell 3;simp only [List.getElem?_toArray,List.getElem?_cons_zero,List.getElem?_cons_succ] at a0' a1' a2' a3' c0' c1' c2'' c3';have HX6:=Lib.hid hx6;have HY6:=Lib.hid hy6;clear a0 a1 a2 a3 c0 c1 c2' c3 hb6 hbw hx6 hy6
   by_cases hr:r < r2
   ·go_wp2_with fail
    refine (H2.out _).mono ?_
    rintro e w7 ⟨rfl,hb7⟩;have HB7:=Lib.hid (HB6.out.trans (hb7.mono HB6.out.size));have E:Hid (L=!B):=Lib.hid (by rw [E0.out,decide_eq_true hr,Bool.and_true])
    clear a0' a1' a2' a3' c0' c1' c2'' c3' hb7
    cases B with
    | true =>
      go_wp2
      go_ret
      exact ⟨by rw [E.out];rfl,HB7.out⟩
    | false =>
      go_wp2
      go_ret
      exact ⟨by rw [E.out];rfl,HB7.out⟩
   ·have E:Hid (L=false):=Lib.hid (by rw [E0.out,decide_eq_false hr,Bool.and_false])
    go_wp2
    go_ret
    exact ⟨by rw [E.out];congr 2,HB6.out⟩
theorem hpLenD_any {w:World} {g:Nat} {v:Value} {l:List EP} (h:HpD w g v l):Calls Try.prog 13 #[ptrH g] w fun e w' => e=.returned (.int .i64 (l.length:Nat))∧w=w':=by
 obtain ⟨p,c,hv⟩:=own_form15 h.row;have c0:=h.obj.cell 0;simp only [List.getElem?_toArray,List.getElem?_cons_zero] at c0;rw [hv] at c0;obtain ⟨n,hn⟩:∃ n,l.length=n:=⟨_,rfl⟩;rw [hn] at c0 ⊢;clear h hv hn
 go_enter Try.func13,Try.ntmps13
 go_wp2
 go_ret
 exact ⟨rfl,rfl⟩
theorem hpLenS_any {w:World} {g:Nat} {L:List EntV} {own:Nat → Prop} (h:HpAt w g L own) (hL:L.length≤100000):Calls Try.prog 13 #[ptrH g] w fun e w' => e=.returned (.int .i64 (L.length:Nat))∧w=w':=by
 obtain ⟨v,l,h,_,hp,_⟩:=h;rw [← hp.length_eq,List.length_map];exact hpLenD_any h
theorem hpLen_any {w:World} {g:Nat} {L:List EntV} {own:Nat → Prop} (h:HpAt w g L own) (hL:L.length≤100000):Calls Try.prog 13 #[ptrH g] w (ValPost15 w (.int .i64 (L.length:Nat))):=
 (hpLenS_any h hL).mono fun e w' ⟨h1,h2⟩ => ⟨h1,by rw [← h2];exact Kept.refl _ _⟩
theorem hpLen0S_any (w:World):Calls Try.prog 13 #[.pointer none] w fun e w' => e=.returned (.int .i64 0)∧w=w':=by
 go_enter Try.func13,Try.ntmps13
 go_wp2
 go_ret
 exact ⟨rfl,rfl⟩
theorem hpLen0_any (w:World):Calls Try.prog 13 #[.pointer none] w (ValPost15 w (.int .i64 0)):=
 (hpLen0S_any w).mono fun e w' ⟨h1,h2⟩ => ⟨h1,by rw [← h2];exact Kept.refl _ _⟩
theorem ret_hp {fn:Func} (hf:fn.results=#[.cell 2 34,.tmp 3]) (tmps:Array Value) (w:World) (g:Nat) (v:Value) (ht:tmps.getD 2 undef=.pointer (some ⟨g,0,none⟩)) (hv:tmps.getD 3 undef=v)
 (cs:Array Value) (u0 u1 u2 u3:Value) (hcs:cs=#[u0,u1,u2,u3]) (hb:Blk w g 34 cs):(results fn tmps).run Try.prog w=.ok (.tuple #[.agg cs,v]) w:=by
 subst hcs;have c0:=hb.cell 0;have c1:=hb.cell 1;have c2:=hb.cell 2;have c3:=hb.cell 3;simp only [List.getElem?_toArray,List.getElem?_cons_zero,List.getElem?_cons_succ] at c0 c1 c2 c3;clear hb;have hl:(loadVar 34 ⟨g,0,none⟩).run Try.prog w=.ok (.agg #[u0,u1,u2,u3]) w:=by go_simp
 have ht':tmps[2]?.getD undef=.pointer (some ⟨g,0,none⟩):=by simpa using ht
 have hv':tmps[3]?.getD undef=v:=by simpa using hv
 simp only [results,hf];simp [Result.andThen,ht',hv',asAddr,hl]
set_option maxHeartbeats 4000000 in
theorem mLess_any {w:World} {gr n c:Nat} {l:List EP} (h:Rn w gr l) (hl:l.length=n) (i j:Nat) (hi:i < n) (hj:j < n) :
 Calls Try.prog 38 #[.slice (some ⟨gr,0,none⟩) n c,.int .i64 (i:Nat),.int .i64 (j:Nat)] w fun e w' => e=.returned (.bool (ltQ (atQ l i) (atQ l j)))∧Below w.heap.size w w':=by
 have hci:=h.cells4n (show i < l.length by omega)
 have hcj:=h.cells4n (show j < l.length by omega)
 obtain ⟨x,hx⟩:∃ x,l.getD i zeroEn=x:=⟨_,rfl⟩;obtain ⟨y,hy⟩:∃ y,l.getD j zeroEn=y:=⟨_,rfl⟩;rw [show atQ l i=x from hx,show atQ l j=y from hy]
 rw [hx] at hci;rw [hy] at hcj;obtain ⟨c0,c1,c2,c3⟩:=hci;obtain ⟨d0,d1,d2,d3⟩:=hcj;have hb:=fun w => hpBefore_any x y w
 unfold ltQ;obtain ⟨T,hT⟩:∃ T,lessE x.m y.m=T:=⟨_,rfl⟩;rw [hT];simp only [hT,EP.cs,entC] at hb;have HLE:=Lib.hid hb;have hiz:(i:Int) < (n:Int):=by omega
 have hjz:(j:Int) < (n:Int):=by omega
 have sc0:=since_cell c0;have sc1:=since_cell c1;have sc2:=since_cell c2;have sc3:=since_cell c3;have sd0:=since_cell d0;have sd1:=since_cell d1;have sd2:=since_cell d2;have sd3:=since_cell d3;clear h hl hi hj hx hy hb hT c0 c1 c2 c3 d0 d1 d2 d3
 go_enter Try.func38,Try.ntmps38
 go_upto_region 1 with fail
 refine wp_region_since (by kernel_rfl) (by kernel_rfl) ?_
 repeat (quiet_step (first
  | (go_at_call 40;exact Calls.since_of (HLE.out _))))
 refine wpQuiet_nil ?_
 intro wq hw';have HB:=Lib.hid (since_bel hw');clear hw' sc0 sc1 sc2 sc3 sd0 sd1 sd2 sd3 HLE
 go_wp2
 go_ret
 exact ⟨rfl,HB.out⟩
def SwapPost15 (w:World) (gr:Nat) (l:List EP) (i j:Nat) (e:Ending) (w':World):Prop:=
 e=.returned (.tuple #[]) ∧ ∃ k,w'=(put4n (put4n w gr (i * 4) (atQ l j)) gr (j * 4) (atQ l i)).drewN k
set_option maxHeartbeats 4000000 in
theorem mSwap_any {w:World} {gr n c:Nat} {l:List EP} (h:Rn w gr l) (hl:l.length=n) (i j:Nat) (hi:i < n) (hj:j < n) :
 Calls Try.prog 39 #[.slice (some ⟨gr,0,none⟩) n c,.int .i64 (i:Nat),.int .i64 (j:Nat)] w (SwapPost15 w gr l i j):=by
 have hci:=h.cells4n (show i < l.length by omega)
 have hcj:=h.cells4n (show j < l.length by omega)
 obtain ⟨cur,hbk,_,_⟩:=h;obtain ⟨x,hx⟩:∃ x,l.getD i zeroEn=x:=⟨_,rfl⟩;obtain ⟨y,hy⟩:∃ y,l.getD j zeroEn=y:=⟨_,rfl⟩;unfold SwapPost15;rw [show atQ l i=x from hx,show atQ l j=y from hy]
 rw [hx] at hci;rw [hy] at hcj;obtain ⟨c0,c1,c2,c3⟩:=hci;obtain ⟨d0,d1,d2,d3⟩:=hcj;have hiz:(i:Int) < (n:Int):=by omega
 have hjz:(j:Int) < (n:Int):=by omega
 have fa0:=hbk.frozen (i * 4);have fa1:=hbk.frozen (i * 4+1);have fa2:=hbk.frozen (i * 4+2);have fa3:=hbk.frozen (i * 4+3);have fb0:=hbk.frozen (j * 4);have fb1:=hbk.frozen (j * 4+1);have fb2:=hbk.frozen (j * 4+2);have fb3:=hbk.frozen (j * 4+3);clear hl hbk;rcases Nat.lt_trichotomy i j with hij | hij | hij
 ·clear hx hy hi hj
  go_enter Try.func39,Try.ntmps39
  go_upto_region 0 with fail
  go_region
  all_goals (
   go_wp2
   go_end0
   exact ⟨rfl,_,rfl⟩)
 ·subst hij
  obtain rfl:x=y:=by rw [← hx,hy]
  clear hx hy hi hj
  go_enter Try.func39,Try.ntmps39
  go_upto_region 0 with fail
  go_region
  all_goals (
   go_wp2
   go_end0
   exact ⟨rfl,_,rfl⟩)
 ·clear hx hy hi hj
  go_enter Try.func39,Try.ntmps39
  go_upto_region 0 with fail
  go_region
  all_goals (
   go_wp2
   go_end0
   exact ⟨rfl,_,rfl⟩)
theorem ret_clone {fn:Func} (hf:fn.results=#[.cell 2 34]) (tmps:Array Value) (w:World) (g:Nat) (ht:tmps.getD 2 undef=.pointer (some ⟨g,0,none⟩))
 (cs:Array Value) (u0 u1 u2 u3:Value) (hcs:cs=#[u0,u1,u2,u3]) (hb:Blk w g 34 cs):(results fn tmps).run Try.prog w=.ok (.agg cs) w:=by
 subst hcs;have c0:=hb.cell 0;have c1:=hb.cell 1;have c2:=hb.cell 2;have c3:=hb.cell 3;simp only [List.getElem?_toArray,List.getElem?_cons_zero,List.getElem?_cons_succ] at c0 c1 c2 c3;clear hb;have hl:(loadVar 34 ⟨g,0,none⟩).run Try.prog w=.ok (.agg #[u0,u1,u2,u3]) w:=by go_simp
 have ht':tmps[2]?.getD undef=.pointer (some ⟨g,0,none⟩):=by simpa using ht
 simp only [results,hf];simp [ht',asAddr,hl]
def CloneE15 (w:World) (x:EP) (e:Ending) (w':World):Prop:=
 ∃ p c,e=.returned (.agg (EP.mk x.m p c).cs)∧DatU w' ⟨x.m,p,c⟩∧(0 < x.m.it.data.length → ∀ a,p=some a → w.heap.size≤a.block)∧Below w.heap.size w w'
set_option maxHeartbeats 4000000 in
theorem hClone_any (x:EP) (w:World) (hd:DatE w x) (hr:x.m.it.data.length≤140737488351232):Calls Try.prog 15 #[.agg x.cs] w (CloneE15 w x):=by
 obtain ⟨W1,hW1⟩:∃ W1,w.alloc (.cells #[.string (str x.m.it.key),.int .i64 x.m.it.seq,.slice x.p x.m.it.data.length x.c,.int .i64 x.m.run] 34)=W1:=⟨_,rfl⟩;have hk1:Kept noneB w W1:=by rw [← hW1];exact (Kept.refl _ _).alloc _
 have hx1:Blk W1 w.heap.size 34 x.cs:=by rw [← hW1];exact Blk.new w _ _
 obtain ⟨W2,hW2⟩:∃ W2,W1.alloc (.cells #[.string ⟨#[]⟩,.int .i64 0,.slice none 0 0,.int .i64 0] 34)=W2:=⟨_,rfl⟩;have hk2:Kept noneB W1 W2:=by rw [← hW2];exact (Kept.refl _ _).alloc _
 have hz2:Blk W2 W1.heap.size 34 zeroEn.cs:=by rw [← hW2];exact Blk.new W1 _ _
 have hx2:=hx1.keptS hk2 (fun h => h)
 have hk02:=hk1.trans hk2;have HCL:=Lib.hid (Go.Proofs.Ytphehianajckaaa.Block.clone_any W2 x.p x.m.it.data.length x.c x.m.it.data (hd.bat.kept hk02 (fun _ _ _ h => h)) rfl hr)
 have x2:=hx2.cell 2;simp only [EP.cs,entC,List.getElem?_toArray,List.getElem?_cons_zero,List.getElem?_cons_succ] at x2;have HX2:=Lib.hid hx2;have HZ2:=Lib.hid hz2;have HK2:=Lib.hid hk02;have HS:Hid (w.heap.size < W1.heap.size∧w.heap.size≤W2.heap.size∧x.m.it.data.length≤140737488351232):=Lib.hid ⟨hx1.lt,hk02.size,hr⟩;clear hk1 hx1 hk2 hz2 hx2 hk02 hd hr;unfold EP.cs entC
 go_enter Try.func15,Try.ntmps15
 go_upto_region 1 with fail
 clear hW1 hW2
 go_wp2_with fail
 refine HCL.out.mono ?_
 rintro e w3 ⟨v,rfl,hown,hk3⟩;obtain ⟨p,c,rfl,hc1,hc2,hbat,_,hof⟩:=OwnB.slice hown;have hx3:=HX2.out.keptS hk3 (fun h => h)
 have hz3:=HZ2.out.keptS hk3 (fun h => h)
 obtain ⟨W4,hW4⟩:∃ W4,w3.setCell ⟨w.heap.size,2,none⟩ (.slice p x.m.it.data.length c)=W4:=⟨_,rfl⟩;have hx4:Blk W4 w.heap.size 34 (EP.mk x.m p c).cs:=by rw [← hW4];exact hx3.set 2 (.slice p x.m.it.data.length c) (show 2 < 4 by decide)
 have hk4:Kept (oneB w.heap.size) w3 W4:=by rw [← hW4];exact (Kept.refl (oneB w.heap.size) w3).setCell (a:=⟨w.heap.size,2,none⟩) (.inr rfl) _
 have hz4:=hz3.keptS hk4 (show ¬ (W1.heap.size=w.heap.size) by have:=HS.out.1;omega)
 have hy:∀ a,p=some a → w.heap.size≤a.block∧a.block≠w.heap.size∧a.block≠W1.heap.size:=fun a ha => by
  have h1:=(hof a ha).1;have h2:=HZ2.out.lt;have h3:=HS.out.1;exact ⟨by omega,by omega,by omega⟩
 have hu:DatU w3 ⟨x.m,p,c⟩:=⟨⟨hbat,hc1,hc2⟩,HS.out.2.2,fun h0 a ha => own_blk hown h0 a ⟨c,by rw [show p=some a from ha]⟩⟩
 have hu4:DatU W4 ⟨x.m,p,c⟩:=hu.kept hk4 (fun _ a ha => (hy a ha).2.1)
 have h4:Kept noneB w W4:=(HK2.out.trans hk3).then hk4 (fun b hb => .inl (by rw [show b=w.heap.size from hb];exact Nat.le_refl _))
 have f2:=hx3.frozen 2;have e0:=hx4.cell 0;have e1:=hx4.cell 1;have e2:=hx4.cell 2;have e3:=hx4.cell 3;have z0:=hz4.cell 0;have z1:=hz4.cell 1;have z2:=hz4.cell 2;have z3:=hz4.cell 3;have g0:=hz4.frozen 0;have g1:=hz4.frozen 1;have g2:=hz4.frozen 2;have g3:=hz4.frozen 3;have r2:=hx3.cell 2;simp only [zeroEn,EP.cs,entC,List.getElem?_toArray,List.getElem?_cons_zero,List.getElem?_cons_succ] at e0 e1 e2 e3 z0 z1 z2 z3 r2;have HZ4:=Lib.hid hz4;have HU4:=Lib.hid hu4;have HK4:=Lib.hid h4;have HY:=Lib.hid hy;clear hown hk3 hc1 hc2 hbat hof hx3 hz3 hx4 hk4 hz4 hy hu hu4 h4 HCL HX2 HZ2 HK2 x2
 go_upto_region 2 with fail
 clear hW4 f2 r2
 go_wp2
 refine bodyPost_ret (ret_clone rfl _ _ W1.heap.size rfl (EP.mk x.m p c).cs _ _ _ _ rfl (blk_put15 HZ4.out ⟨x.m,p,c⟩)) rfl ?_
 have hkz:Kept (oneB W1.heap.size) W4 (put4n W4 W1.heap.size 0 ⟨x.m,p,c⟩):=put4n_kept (S:=oneB W1.heap.size) rfl _;exact ⟨p,c,rfl,HU4.out.kept hkz (fun _ a ha => (HY.out a ha).2.2),fun _ a ha => (HY.out a ha).1,((HK4.out.then hkz (fun b hb => .inl (by rw [show b=W1.heap.size from hb];exact Nat.le_of_lt HS.out.1)))).below (Nat.le_refl _) (fun _ h => h.elim)⟩
set_option maxHeartbeats 4000000 in
theorem hpLeastD_any {w:World} {g:Nat} {v:Value} {l:List EP} (h:HpD w g v l) (h0:0 < l.length):Calls Try.prog 9 #[ptrH g] w fun e w' => (∃ p c,e=.returned (.tuple #[.agg (EP.mk (atQ l 0).m p c).cs,.bool true]))∧Kept noneB w w':=by
 obtain ⟨W1,hW1⟩:∃ W1,w.alloc (.cells #[.string ⟨#[]⟩,.int .i64 0,.slice none 0 0,.int .i64 0] 34)=W1:=⟨_,rfl⟩;have hk1:Kept noneB w W1:=by rw [← hW1];exact (Kept.refl _ _).alloc _
 have hb1:Blk W1 w.heap.size 34 zeroEn.cs:=by rw [← hW1];exact Blk.new w _ _
 have hd:=h.none_ hk1;have HLEN:=Lib.hid (hpLenD_any hd);obtain ⟨gr,c,hv,-,-,hrn,-⟩:=rowE_rn hd.row (by omega)
 have c0:=hd.obj.cell 0;simp only [List.getElem?_toArray,List.getElem?_cons_zero] at c0;rw [hv] at c0;obtain ⟨x,hx⟩:∃ x,atQ l 0=x:=⟨_,rfl⟩;obtain ⟨d0,d1,d2,d3⟩:=hrn.cells4n h0;have hxl:x ∈ l:=by rw [← hx,atQ_eq h0];exact List.getElem_mem _
 have hdx:=hd.dat x hxl;unfold atQ at hx;rw [hx] at d0 d1 d2 d3;rw [show atQ l 0=x from hx]
 rw [Nat.zero_mul] at d0 d1 d2 d3;rw [Nat.zero_add] at d1 d2 d3;obtain ⟨n,hn⟩:∃ n,l.length=n:=⟨_,rfl⟩;rw [hn] at c0 HLEN h0;have hnz:((n:Int) == 0)=false:=by simp;omega
 have hnp:(0:Int) < (n:Int):=by omega
 have hcl:=hClone_any x W1 hdx.dat hdx.room;unfold EP.cs entC at hcl;have HCL:=Lib.hid hcl;have HB1:=Lib.hid hb1;have HK1:=Lib.hid hk1;have HNP:=Lib.hid hn;clear h hk1 hb1 hd hv hrn hx hn hxl hdx hcl
 go_enter Try.func9,Try.ntmps9
 go_upto_region 1 with fail
 clear hW1
 go_wp2_with fail
 refine HLEN.out.mono ?_
 rintro e w3 ⟨rfl,rfl⟩;clear HLEN
 go_wp2_with fail
 refine HCL.out.mono ?_
 rintro e w4 ⟨p,c5,rfl,hu,hf,hb4⟩;have hb2:=HB1.out.below hb4 HB1.out.lt;have z0:=hb2.cell 0;have z1:=hb2.cell 1;have z2:=hb2.cell 2;have z3:=hb2.cell 3;have f0:=hb2.frozen 0;have f1:=hb2.frozen 1;have f2:=hb2.frozen 2;have f3:=hb2.frozen 3;simp only [zeroEn,EP.cs,entC,List.getElem?_toArray,List.getElem?_cons_zero,List.getElem?_cons_succ] at z0 z1 z2 z3;have HB2:=Lib.hid hb2;have HK4:=Lib.hid (HK1.out.trans (Kept.of_below hb4 noneB));clear hu hf hb4 hb2 HCL HB1 HK1 c0 d0 d1 d2 d3;unfold EP.cs entC
 go_wp2
 refine bodyPost_ret (ret_hp rfl _ _ w.heap.size _ rfl rfl (EP.mk x.m p c5).cs _ _ _ _ rfl (blk_put15 HB2.out ⟨x.m,p,c5⟩)) rfl ?_
 exact ⟨⟨p,c5,rfl⟩,HK4.out.then (put4n_kept (S:=oneB w.heap.size) rfl ⟨x.m,p,c5⟩) (fun b hb => .inl (by rw [show b=w.heap.size from hb];exact Nat.le_refl _))⟩
theorem hpLeast_any {w:World} {g:Nat} {L:List EntV} {own:Nat → Prop} (h:HpAt w g L own) (hL:L.length≤100000) (h0:0 < L.length):Calls Try.prog 9 #[ptrH g] w (LeastPost15 w L):=by
 obtain ⟨v,l,hd,hh,hp,_⟩:=h;have hl:=hp.length_eq;rw [List.length_map] at hl;exact (hpLeastD_any hd (by omega)).mono fun e w' ⟨⟨p,c,h1⟩,h2⟩ => ⟨⟨(atQ l 0).m,p,c⟩,h1,hp.mem_iff.1 (List.mem_map_of_mem (a:=atQ l 0) (by rw [atQ_eq (by omega)];exact List.getElem_mem _)),(heapL_least hh (by omega)).perm hp,h2⟩
set_option maxHeartbeats 4000000 in
theorem hpLeastN_any {w:World} {g:Nat} {own:Nat → Prop} (h:HpAt w g [] own):Calls Try.prog 9 #[ptrH g] w (NonePost15 w):=by
 obtain ⟨W1,hW1⟩:∃ W1,w.alloc (.cells #[.string ⟨#[]⟩,.int .i64 0,.slice none 0 0,.int .i64 0] 34)=W1:=⟨_,rfl⟩;have hk1:Kept noneB w W1:=by rw [← hW1];exact (Kept.refl _ _).alloc _
 have hb1:Blk W1 w.heap.size 34 zeroEn.cs:=by rw [← hW1];exact Blk.new w _ _
 have h1:=hpAt_frame h hk1 (fun _ _ h => h)
 have HLEN:=Lib.hid (hpLenS_any h1 (by decide))
 have z0:=hb1.cell 0;have z1:=hb1.cell 1;have z2:=hb1.cell 2;have z3:=hb1.cell 3;have f0:=hb1.frozen 0;have f1:=hb1.frozen 1;have f2:=hb1.frozen 2;have f3:=hb1.frozen 3;have z0':W1.cell? ⟨w.heap.size,0,none⟩=some (.string ⟨#[]⟩):=z0;have z1':W1.cell? ⟨w.heap.size,1,none⟩=some (.int .i64 0):=z1;have z2':W1.cell? ⟨w.heap.size,2,none⟩=some (.slice none 0 0):=z2;have z3':W1.cell? ⟨w.heap.size,3,none⟩=some (.int .i64 0):=z3;have HB1:=Lib.hid hb1;have HK1:=Lib.hid hk1;clear hk1 hb1 z0 z1 z2 z3
 go_enter Try.func9,Try.ntmps9
 go_upto_region 1 with fail
 clear hW1
 go_wp2_with fail
 refine HLEN.out.mono ?_
 rintro e w3 ⟨rfl,rfl⟩;clear HLEN
 go_wp2
 have hb2:=blk_put15 HB1.out zeroEn;refine bodyPost_ret (ret_hp rfl _ _ w.heap.size _ rfl rfl zeroEn.cs _ _ _ _ rfl hb2) rfl ?_
 exact ⟨rfl,HK1.out.then (put4n_kept (S:=oneB w.heap.size) rfl zeroEn) (fun b hb => .inl (by rw [show b=w.heap.size from hb];exact Nat.le_refl _))⟩
set_option maxHeartbeats 4000000 in
theorem hpLeast0_any (w:World):Calls Try.prog 9 #[.pointer none] w (NonePost15 w):=by
 obtain ⟨W1,hW1⟩:∃ W1,w.alloc (.cells #[.string ⟨#[]⟩,.int .i64 0,.slice none 0 0,.int .i64 0] 34)=W1:=⟨_,rfl⟩;have hk1:Kept noneB w W1:=by rw [← hW1];exact (Kept.refl _ _).alloc _
 have hb1:Blk W1 w.heap.size 34 zeroEn.cs:=by rw [← hW1];exact Blk.new w _ _
 have HLEN:=Lib.hid (hpLen0S_any W1);have z0:=hb1.cell 0;have z1:=hb1.cell 1;have z2:=hb1.cell 2;have z3:=hb1.cell 3;have f0:=hb1.frozen 0;have f1:=hb1.frozen 1;have f2:=hb1.frozen 2;have f3:=hb1.frozen 3;have z0':W1.cell? ⟨w.heap.size,0,none⟩=some (.string ⟨#[]⟩):=z0;have z1':W1.cell? ⟨w.heap.size,1,none⟩=some (.int .i64 0):=z1;have z2':W1.cell? ⟨w.heap.size,2,none⟩=some (.slice none 0 0):=z2;have z3':W1.cell? ⟨w.heap.size,3,none⟩=some (.int .i64 0):=z3;have HB1:=Lib.hid hb1;have HK1:=Lib.hid hk1;clear hk1 hb1 z0 z1 z2 z3
 go_enter Try.func9,Try.ntmps9
 go_upto_region 1 with fail
 clear hW1
 go_wp2_with fail
 refine HLEN.out.mono ?_
 rintro e w3 ⟨rfl,rfl⟩;clear HLEN
 go_wp2
 have hb2:=blk_put15 HB1.out zeroEn;refine bodyPost_ret (ret_hp rfl _ _ w.heap.size _ rfl rfl zeroEn.cs _ _ _ _ rfl hb2) rfl ?_
 exact ⟨rfl,HK1.out.then (put4n_kept (S:=oneB w.heap.size) rfl zeroEn) (fun b hb => .inl (by rw [show b=w.heap.size from hb];exact Nat.le_refl _))⟩
end Go.Proofs.Ytphehianajckaaa.Hea
end
section
namespace Go.Proofs.Ytphehianajckaaa.Hea
open Go.ChangeShapes Go.WideShapes Go.ChangeAt Go.RowKit Base Byt Txt Bk Mem Tre Itm Block Go.Lib
set_option linter.unusedVariables false
set_option maxRecDepth 100000
attribute [local irreducible] wpQuiet
theorem cutQ3 {α β γ:Type} {T:α → β → γ → Prop} {G:Prop} (H:α → β → γ → Prop) (main:(∀ a b c,H a b c → T a b c) → G) (tail:∀ a b c,H a b c → T a b c):G:=main tail
theorem step_ent {w:World} {ops:Array Oper} {o:Oper} {a:Act} {K0:Act → World → Prop} {Q:Exit → Act → World → Prop} {E:Prop} (hw:Region.wanted o (yielded ops a.tmps)=true) (s x:Operand)
 (ho:o.op=.call { callee:=.builtin .append,args:=#[s,x],argTypes:=#[26,26] })
 (base:Nat) (v:Value) (n:Nat) (xs:List EP) (hn:xs.length=n) (hs:a.eval s=v) (hown:w.ownsRow base 34 4 v n (flatEn xs))
 (b c:Nat) (y:EP) (hx:a.eval x=.slice (some ⟨b,0,none⟩) 1 c) (hb:Blk w b 34 y.cs) (hsum:n≤1000000) (hbase:base≤w.heap.size)
 (h:∀ v' w',w'.ownsRow base 34 4 v' (n+1) (flatEn (xs++[y])) → w.grownBy w' v.ownBlock → NewOr w v v' → K0 (a.put o.dst v') w') :
 if Region.wanted o (yielded ops a.tmps)=true then Oper.wp Try.prog o a w K0 Q else E:=by
 rw [if_pos hw];obtain ⟨i0,hi,hz0,hz1,hz2⟩:=info_parts infoEnt
 obtain ⟨v',w',hr,h2,h3,h4⟩:=run_append_newS (P:=Try.prog) base 26 o.type 34 i0 _ 4 56 Try.underlying26 hi hz0 hz1 hz2 rfl (by decide) v n (flatEn xs) hown ⟨b,0,none⟩ 1 c y.cs.toList rfl (by
  intro j u hj;rw [WideShapes.add_plain,Nat.zero_add,hb.cell,← Array.getElem?_toList]
  exact hj) (fun u hu => flatEn_one [y] u (by simpa [flatEn] using hu)) (by unfold maxLen;omega) (by omega) hbase
 rw [← flatEn_snoc] at h2;exact Lib.wp_append_run w s x _ _ ho v (.slice (some ⟨b,0,none⟩) 1 c) hs hx v' w' hr (h v' w' h2 h3 h4)
theorem assert_ent (u:Value) (w:World):(Instr.typeAssert (.iface 34 u) 20 34 false).run Try.prog w=.ok u w:=by kernel_rfl
def PushL15 (w:World) (g:Nat) (v:Value) (l:List EP) (x:EP) (e:Ending) (w':World):Prop:=
 e=.returned (.tuple #[]) ∧ ∃ v',HpD w' g v' (l++[x])∧NewOr w v v'∧Kept (rowS g v) w w'
set_option maxHeartbeats 8000000 in
theorem mPush_any {w:World} {g:Nat} {v:Value} {l:List EP} (x:EP) (h:HpD w g v l) (hx:DatU w x) (hxo:∀ a,0 < x.m.it.data.length → x.p=some a → ¬ rowS g v a.block) (hL:l.length≤100000) :
 Calls Try.prog 44 #[.pointer (some ⟨g,0,none⟩),.iface 34 (.agg x.cs)] w (PushL15 w g v l x):=by
 obtain ⟨p0,c0',hv⟩:=own_form15 h.row;obtain ⟨n,hn⟩:∃ n,l.length=n:=⟨_,rfl⟩;have c0:=h.obj.cell 0;simp only [List.getElem?_toArray,List.getElem?_cons_zero] at c0;rw [hv,hn] at c0;obtain ⟨W2,hW2⟩:∃ W2,w.alloc (.cells #[.string (str x.m.it.key),.int .i64 x.m.it.seq,.slice x.p x.m.it.data.length x.c,.int .i64 x.m.run] 34)=W2:=⟨_,rfl⟩;have hk2:Kept noneB w W2:=by rw [← hW2];exact (Kept.refl _ _).alloc _
 have hb2:Blk W2 w.heap.size 34 x.cs:=by rw [← hW2];exact Blk.new w _ _
 have hd2:=h.none_ hk2;have e0:=hd2.obj.cell 0;simp only [List.getElem?_toArray,List.getElem?_cons_zero] at e0;rw [hv,hn] at e0;have HV:=Lib.hid (And.intro hv hn);have HB2:Hid (Blk W2.drew w.heap.size 34 x.cs):=Lib.hid hb2
 have HR2:Hid (W2.drew.ownsRow 0 34 4 (.slice p0 n c0') n (flatEn l)):=Lib.hid (by
  have:=hd2.row;rw [hv,hn] at this
  exact ownsRow_kept this (Kept.refl noneB W2).drew (fun _ _ h => h))
 have HD2:=Lib.hid hd2;have HX2:=Lib.hid (And.intro (hx.none_ hk2) hxo);have HK2:Hid (Kept noneB w W2.drew):=Lib.hid hk2.drew;rw [hn] at hL;clear h hx hxo hk2 hb2 hd2 hv hn;unfold EP.cs entC;have hta:=assert_ent (.agg #[.string (str x.m.it.key),.int .i64 x.m.it.seq,.slice x.p x.m.it.data.length x.c,.int .i64 x.m.run])
 go_enter Try.func44,Try.ntmps44
 apply cutQ3 (fun w4 p4 c4 => Hid (w4.ownsRow 0 34 4 (.slice p4 (n+1) c4) (n+1) (flatEn (l++[x]))∧NewOr W2.drew v (.slice p4 (n+1) c4)∧Kept (fun b => v.ownBlock=some b) W2.drew w4))
 case main =>
  intro TAIL
  go_upto_region 0 with fail
  go_region_law (first
   | (refine step_ent (by kernel_rfl) (.tmp 7) (.tmp 10) (by rfl) 0 _ n l HV.out.2 (by rfl) HR2.out w.heap.size 1 x (by rfl) HB2.out (by omega) (by simp) ?_
      intro v4 w4 hown hgrow hnew;have hkw:Kept (fun b => v.ownBlock=some b) W2.drew w4:=(Kept.refl _ W2.drew).grown hgrow (fun k hk => .inr (by rw [HV.out.1,HV.out.2];exact hk))
      have hob:=(Blk.drew HD2.out.obj).keptS hkw (fun (e:v.ownBlock=some g) => HD2.out.ne e)
      have e4:w4.cell? ⟨g,0,none⟩=some (.slice p0 n c0'):=by
       have:=hob.cell 0;rw [HV.out.1,HV.out.2] at this;exact this
      have f4:=hob.frozen 0;obtain ⟨p4,c4,rfl⟩:=own_form15 hown;have HPW:Hid (w4.ownsRow 0 34 4 (.slice p4 (n+1) c4) (n+1) (flatEn (l++[x]))∧NewOr W2.drew v (.slice p4 (n+1) c4)∧Kept (fun b => v.ownBlock=some b) W2.drew w4):=Lib.hid ⟨hown,by rw [HV.out.1,HV.out.2];exact hnew,hkw⟩
      clear hown hgrow hnew hkw hob)
   )
  all_goals exact TAIL w4 p4 c4 HPW
 case tail =>
  intro w4 p4 c4 HPW;obtain ⟨hown,hnew,hkw⟩:=HPW.out;have hob:=(Blk.drew HD2.out.obj).keptS hkw (fun (e:v.ownBlock=some g) => HD2.out.ne e)
  have hne4:(Value.slice p4 (n+1) c4).ownBlock≠some g:=fun e => by
   rcases hnew g e with h1 | h1
   ·exact HD2.out.ne h1
   ·have:=HD2.out.obj.lt
    have:W2.drew.heap.size=W2.heap.size:=rfl;omega
  have hl1:(l++[x]).length=n+1:=by rw [List.length_append,HV.out.2];rfl
  obtain ⟨W5,hW5⟩:∃ W5,w4.setCell ⟨g,0,none⟩ (.slice p4 (n+1) c4)=W5:=⟨_,rfl⟩;have hk5:Kept (oneB g) w4 W5:=by rw [← hW5];exact (Kept.refl (oneB g) w4).setCell (a:=⟨g,0,none⟩) (.inr rfl) _
  have ho5:Blk W5 g 28 #[.slice p4 (n+1) c4]:=by rw [← hW5];exact hob.set 0 _ (show 0 < 1 by decide)
  have hr5:W5.ownsRow 0 34 4 (.slice p4 (n+1) c4) (l++[x]).length (flatEn (l++[x])):=by
   rw [hl1];exact ownsRow_kept hown hk5 (fun b hb e => hne4 (by rw [← show b=g from e];exact hb))
  have hk25:Kept (rowS g v) W2.drew W5:=(hkw.mono (fun b hb => .inr hb)).trans (hk5.mono (fun b hb => .inl hb))
  have hd5:∀ z ∈ l++[x],DatU W5 z:=fun z hz => by
   have h0:DatU W2.drew z∧(∀ a,0 < z.m.it.data.length → z.p=some a → ¬ rowS g v a.block):=by
    rcases List.mem_append.1 hz with h1 | h1
    ·exact ⟨(HD2.out.dat z h1).none_ (Kept.refl noneB W2).drew,fun a h0 ha => HD2.out.off h1 h0 ha⟩
    ·obtain rfl:=List.mem_singleton.1 h1
     exact ⟨HX2.out.1.none_ (Kept.refl noneB W2).drew,HX2.out.2⟩
   exact h0.1.kept hk25 (fun h1 a ha => h0.2 a h1 ha)
  have HE:Hid (PushL15 w g v l x (.returned (.tuple #[])) W5):=Lib.hid ⟨rfl,_,⟨ho5,hr5,hd5⟩,fun b hb => by
   rcases hnew b hb with h1 | h1
   ·exact .inl h1
   ·exact .inr (Nat.le_trans HK2.out.size h1),(HK2.out.of_none _).trans hk25⟩
  clear hown hnew hkw hob hne4 hl1 hk5 ho5 hr5 hk25 hd5 HPW HD2 HR2 HB2 HK2 HX2
  first
   | (go_wp2;go_end0;rw [hW5];exact HE.out)
   | (rw [hW5];go_wp2;go_end0;exact HE.out)
theorem swapQ_comm {l:List EP} {i k:Nat} (h:i≠k):swapQ l i k=swapQ l k i:=by
 unfold swapQ;exact List.set_comm _ _ h
def HeapP15 (w:World) (g gr n c:Nat) (l:List EP) (e:Ending) (w':World):Prop:=
 e=.returned (.tuple #[]) ∧ ∃ l',HpD w' g (.slice (some ⟨gr,0,none⟩) n c) l'∧HeapL l'∧l'.Perm l∧Kept (oneB gr) w w'
structure UpJ (w wr:World) (g gr n c:Nat) (l0 l:List EP) (k:Nat):Prop where
 d:HpD wr g (.slice (some ⟨gr,0,none⟩) n c) l
 up:UpL l k
 perm:l.Perm l0
 len:l.length=n
 kept:Kept (oneB gr) w wr
theorem UpJ.none_ {w wr w':World} {g gr n c k:Nat} {l0 l:List EP} (h:UpJ w wr g gr n c l0 l k) (hk:Kept noneB wr w'):UpJ w w' g gr n c l0 l k:=
 ⟨h.d.none_ hk,h.up,h.perm,h.len,h.kept.then hk (fun _ h => h.elim)⟩
theorem UpJ.swap {w wr:World} {g gr n c k q:Nat} {l0 l:List EP} (h:UpJ w wr g gr n c l0 l k) (hq:(k - 1) / 2=q) (h0:0 < k) (hl:ltQ (atQ l k) (atQ l q)=true) (m:Nat) :
 UpJ w ((put4n (put4n wr gr (q * 4) (atQ l k)) gr (k * 4) (atQ l q)).drewN m) g gr n c l0 (swapQ l q k) q:=by
 have hk:=h.up.lt;have hql:q < l.length:=by omega
 obtain ⟨h1,h2⟩:=h.d.swap hql hk
 have hu:UpL (swapQ l q k) q:=by
  rw [swapQ_comm (show q≠k by omega),← hq]
  exact h.up.step h0 (by rw [hq];exact hl)
 exact ⟨h1.none_ ((Kept.refl _ _).drewN m),hu,(swapQ_perm hql hk).trans h.perm,by rw [swapQ_length];exact h.len,(h.kept.trans h2).drewN m⟩
theorem UpJ.done {w wr:World} {g gr n c k:Nat} {l0 l:List EP} (h:UpJ w wr g gr n c l0 l k) (hs:k=0 ∨ ltQ (atQ l k) (atQ l ((k - 1) / 2))=false):HeapP15 w g gr n c l0 (.returned (.tuple #[])) wr:=
 ⟨rfl,l,h.d,h.up.stop hs,h.perm,h.kept⟩
theorem HpD.rn {w:World} {g gr n c:Nat} {l:List EP} (h:HpD w g (.slice (some ⟨gr,0,none⟩) n c) l) (h0:0 < l.length):Rn w gr l:=by
 obtain ⟨gr',c',hv',-,-,hrn,-⟩:=rowE_rn h.row h0
 injection hv' with e1 e2 e3
 cases e1
 exact hrn
set_option maxHeartbeats 8000000 in
theorem hUp_any {w:World} {g gr n c:Nat} {l:List EP} (h:HpD w g (.slice (some ⟨gr,0,none⟩) n c) l) (hl:l.length=n) (hn:n≤100001) (k:Nat) (hu:UpL l k) :
 Calls Try.prog 18 #[ifH g,.int .i64 (k:Nat)] w (HeapP15 w g gr n c l):=by
 have HJ:Hid (UpJ w w g gr n c l l k):=Lib.hid ⟨h,hu,List.Perm.refl _,hl,Kept.refl _ _⟩;clear h hl hu
 go_enter Try.func18,Try.ntmps18
 go_wp2_with fail
 go_loopw [1,4] (fun j i wr => ∃ (k:Nat) (l':List EP),j=.int .i64 (k:Int)∧Hid (UpJ w wr g gr n c l l' k)) (fun j _ _ => (RowKit.intOf j).toNat)
 case atStart => exact ⟨k,_,rfl,HJ⟩
 case round =>
  clear HJ;obtain ⟨k,l',rfl,hJ⟩:=hrel;have hkl:=hJ.out.up.lt;have hll:=hJ.out.len;have c0:=hJ.out.d.obj.cell 0;simp only [List.getElem?_toArray,List.getElem?_cons_zero] at c0;obtain ⟨q,hq⟩:∃ q,(k - 1) / 2=q:=⟨_,rfl⟩
  obtain ⟨m1,hw1,hw2⟩:∃ m1:Int,IntKind.i64.wrap ((k:Int) - 1)=m1∧Int.tdiv m1 2=(q:Int):=by
   refine ⟨(k:Int) - 1,by rw [IntKind.wrap_i64];omega,?_⟩
   rcases Nat.eq_zero_or_pos k with h0 | h0
   ·subst h0
    rw [← hq];rfl
   ·rw [Int.tdiv_eq_ediv_of_nonneg (by omega)]
    omega
  have hkb:k≤100001:=by omega
  have hqb:q≤100001:=by omega
  by_cases h0:0 < k
  ·have hqk:((q:Int) == (k:Int))=false:=by simp;omega
   have hrn:=hJ.out.d.rn (by omega)
   obtain ⟨T,hT⟩:∃ T,ltQ (atQ l' k) (atQ l' q)=T:=⟨_,rfl⟩;have hle:=mLess_any (c:=c) hrn hll k q (by omega) (by omega)
   rw [hT] at hle;have HLE:=Lib.hid hle;have HT:=Lib.hid hT;have HQ:=Lib.hid hq;have HL:=Lib.hid (And.intro hkl hll);have HC:=Lib.hid c0;clear hrn hT hle hq hkl hll
   go_wp2_with fail
   rw [meth_less HC.out];clear c0
   go_wp2_with fail
   refine HLE.out.mono ?_
   rintro e w5 ⟨rfl,hb5⟩;have HJ5:=Lib.hid (hJ.out.none_ (Kept.of_below hb5 noneB));clear hb5 hJ HLE HC
   cases T with
   | false =>
     go_wp2
     go_end0
     exact HJ5.out.done (.inr (by rw [HQ.out];exact HT.out))
   | true =>
     have hsw:=mSwap_any (c:=c) (HJ5.out.d.rn (by have:=HL.out;omega)) HL.out.2 q k (by have:=HL.out;have:=HQ.out;omega) (by have:=HL.out;omega)
     have HSW:=Lib.hid hsw;have c5:=HJ5.out.d.obj.cell 0;simp only [List.getElem?_toArray,List.getElem?_cons_zero] at c5;have HC:=Lib.hid c5;clear hsw c5
     go_wp2_with fail
     rw [meth_swap HC.out]
     go_wp2_with fail
     refine HSW.out.mono ?_
     rintro e w6 ⟨rfl,m,rfl⟩;have HN:=Lib.hid (HJ5.out.swap HQ.out h0 HT.out m);have hqk2:q < k:=by have:=HQ.out;omega
     obtain ⟨w7,hw7⟩:∃ x,x=((put4n (put4n w5 gr (q * 4) (atQ l' k)) gr (k * 4) (atQ l' q)).drewN m):=⟨_,rfl⟩;rw [← hw7] at HN ⊢;clear hw7 HSW HC HJ5
     go_wp2
     go_roundw
     case rel => exact ⟨q,_,rfl,HN⟩
     case measure => simp [RowKit.intOf];omega
  ·have hqk:((q:Int) == (k:Int))=true:=by simp;omega
   go_wp2
   go_end0
   exact hJ.out.done (.inl (by omega))
def PushC15 (w:World) (g:Nat) (v:Value) (l:List EP) (x:EP) (e:Ending) (w':World):Prop:=
 e=.returned (.tuple #[]) ∧ ∃ v' l',HpD w' g v' l'∧HeapL l'∧l'.Perm (l++[x])∧NewOr w v v'∧Kept (rowS g v) w w'
set_option maxHeartbeats 8000000 in
theorem cPush_any {w:World} {g:Nat} {v:Value} {l:List EP} (x:EP) (h:HpD w g v l) (hh:HeapL l) (hx:DatU w x) (hxo:∀ a,0 < x.m.it.data.length → x.p=some a → ¬ rowS g v a.block) (hL:l.length≤100000) :
 Calls Try.prog 14 #[ifH g,.iface 34 (.agg x.cs)] w (PushC15 w g v l x):=by
 have HP:=Lib.hid (mPush_any x h hx hxo hL);have HH:=Lib.hid hh;have HL:=Lib.hid hL;clear h hh hx hxo hL;unfold EP.cs entC at HP ⊢
 go_enter Try.func14,Try.ntmps14
 go_wp2_with fail
 rw [meth_push]
 go_wp2_with fail
 refine HP.out.mono ?_
 rintro e w2 ⟨rfl,v2,hd,hnew,hk⟩;obtain ⟨gr,c,hv,-,-,-,hgr⟩:=rowE_rn hd.row (by rw [List.length_append];simp)
 obtain ⟨n,hn⟩:∃ n,l.length=n:=⟨_,rfl⟩;have hl1:(l++[x]).length=n+1:=by rw [List.length_append,hn];rfl
 rw [hl1] at hv;subst hv;have hnb:n≤100000:=by have:=HL.out;omega
 have hu:=UpL.start HH.out x;rw [hn] at hu;have HU:=Lib.hid (hUp_any hd hl1 (by omega) n hu)
 have c0:=hd.obj.cell 0;simp only [List.getElem?_toArray,List.getElem?_cons_zero] at c0;have HC:=Lib.hid c0;have HML:=Lib.hid (mLen_any (some ⟨gr,0,none⟩) (n+1) c w2);have HR:=Lib.hid (And.intro hnew (And.intro hk hgr));have hw1:IntKind.i64.wrap (((n+1:Nat):Int) - 1)=(n:Int):=by rw [IntKind.wrap_i64];omega
 have hw2:((n:Int)+1 - 1)=(n:Int):=by omega
 clear hd hnew hk hgr hn hl1 hu c0 HP HL
 go_wp2_with fail
 rw [meth_len HC.out]
 go_wp2_with fail
 refine HML.out.mono ?_
 rintro e w3 ⟨rfl,rfl⟩;clear HML HC
 go_wp2_with fail
 refine HU.out.mono ?_
 rintro e w4 ⟨rfl,l4,hd4,hh4,hp4,hk4⟩
 have HE:Hid (PushC15 w g v l x (.returned (.tuple #[])) w4):=Lib.hid ⟨rfl,_,l4,hd4,hh4,hp4,HR.out.1,HR.out.2.1.then hk4 (fun b hb => by
  rw [show b=gr from hb]
  rcases HR.out.1 gr HR.out.2.2 with h1 | h1
  ·exact .inr (.inr h1)
  ·exact .inl h1)⟩
 clear hd4 hh4 hp4 hk4 HU HR HH
 go_wp2
 go_end0
 exact HE.out
end Go.Proofs.Ytphehianajckaaa.Hea
end
section
namespace Go.Proofs.Ytphehianajckaaa.Hea
open Go.ChangeShapes Go.WideShapes Go.ChangeAt Go.RowKit Base Byt Txt Bk Mem Tre Itm Block Go.Lib
set_option linter.unusedVariables false
set_option maxRecDepth 100000
attribute [local irreducible] wpQuiet
theorem rowE_take {W:World} {B:Nat} {l:List EP} {gr n c:Nat} (h:W.ownsRow B 34 4 (.slice (some ⟨gr,0,none⟩) n c) l.length (flatEn l)) {k:Nat} (hk:k≤l.length) :
 W.ownsRow B 34 4 (.slice (some ⟨gr,0,none⟩) k c) (l.take k).length (flatEn (l.take k)):=by
 have hlk:(l.take k).length=k:=by rw [List.length_take];omega
 refine ⟨by rw [flatEn_length];omega,?_⟩
 rcases h.2 with ⟨h1,h2⟩ | ⟨g,cap,cur,h1,hB,hg,hn,hc,hs,ht⟩
 ·cases h1
 ·injection h1 with e1 e2 e3
  cases e1
  subst e3;rw [hlk];refine .inr ⟨gr,c,cur,rfl,hB,hg,by omega,hc,hs,?_⟩
  have e:flatEn (l.take k)=(flatEn l).take (k * 4):=by
   have h3:flatEn l=flatEn (l.take k)++flatEn (l.drop k):=by rw [← flatEn_app,List.take_append_drop]
   have h5:(flatEn (l.take k)).take (k * 4)=flatEn (l.take k):=List.take_of_length_le (by rw [flatEn_length,hlk];omega)
   rw [h3,List.take_append_of_le_length (by rw [flatEn_length,hlk];omega),h5]
  rw [e,← ht,List.take_take]
  congr 1
  omega
structure PickC (l:List EP) (k m:Nat):Prop where
 pos:0 < m
 lt:m < l.length
 par:(m - 1) / 2=k
 least:∀ j,0 < j → j < l.length → (j - 1) / 2=k → ltQ (atQ l j) (atQ l m)=false
theorem PickC.one {l:List EP} {k J:Nat} (hJ:J=2 * k+1) (h1:J < l.length) (h2:¬ J+1 < l.length):PickC l k J:=
 ⟨by omega,h1,by omega,fun j h0 hj hp => by
  obtain rfl:j=J:=by omega
  exact ltQ_self _⟩
theorem PickC.left {l:List EP} {k J:Nat} (hJ:J=2 * k+1) (h1:J < l.length) (h2:ltQ (atQ l (J+1)) (atQ l J)=false):PickC l k J:=
 ⟨by omega,h1,by omega,fun j h0 hj hp => by
  by_cases e:j=J
  ·rw [e];exact ltQ_self _
  ·obtain rfl:j=J+1:=by omega
   exact h2⟩
theorem PickC.right {l:List EP} {k J:Nat} (hJ:J=2 * k+1) (h1:J+1 < l.length) (h2:ltQ (atQ l (J+1)) (atQ l J)=true):PickC l k (J+1):=
 ⟨by omega,h1,by omega,fun j h0 hj hp => by
  by_cases e:j=J
  ·rw [e];exact ltQ_asym h2
  ·obtain rfl:j=J+1:=by omega
   exact ltQ_self _⟩
theorem atQ_app {l t:List EP} {i:Nat} (h:i < l.length):atQ (l++t) i=atQ l i:=by
 unfold atQ;rw [List.getD,List.getD,List.getElem?_append_left h]
theorem swapQ_app {l t:List EP} {i k:Nat} (hi:i < l.length) (hk:k < l.length):swapQ (l++t) i k=swapQ l i k++t:=by
 unfold swapQ;rw [atQ_app hi,atQ_app hk,List.set_append_left _ _ hi,List.set_append_left _ _ (by rw [List.length_set];exact hk)]
def DownP15 (w:World) (g gr n c:Nat) (l t:List EP) (e:Ending) (w':World):Prop:=
 (∃ b:Bool,e=.returned (.bool b)) ∧ ∃ l',HpD w' g (.slice (some ⟨gr,0,none⟩) n c) (l'++t)∧HeapL l'∧l'.Perm l∧Kept (oneB gr) w w'
structure DnJ (w wr:World) (g gr n c:Nat) (t l0 l:List EP) (k:Nat):Prop where
 d:HpD wr g (.slice (some ⟨gr,0,none⟩) n c) (l++t)
 dn:DnL l k
 perm:l.Perm l0
 len:l.length=l0.length∧(l++t).length=n
 kept:Kept (oneB gr) w wr
theorem DnJ.none_ {w wr w':World} {g gr n c k:Nat} {t l0 l:List EP} (h:DnJ w wr g gr n c t l0 l k) (hk:Kept noneB wr w'):DnJ w w' g gr n c t l0 l k:=
 ⟨h.d.none_ hk,h.dn,h.perm,h.len,h.kept.then hk (fun _ h => h.elim)⟩
theorem DnJ.swap {w wr:World} {g gr n c k m:Nat} {t l0 l:List EP} (h:DnJ w wr g gr n c t l0 l k) (hp:PickC l k m) (hl:ltQ (atQ l m) (atQ l k)=true) (j:Nat) :
 DnJ w ((put4n (put4n wr gr (k * 4) (atQ (l++t) m)) gr (m * 4) (atQ (l++t) k)).drewN j) g gr n c t l0 (swapQ l k m) m:=by
 have hm:=hp.lt;have hpar:=hp.par;have hpos:=hp.pos;have hk:k < l.length:=by omega
 obtain ⟨h1,h2⟩:=h.d.swap (i:=k) (k:=m) (by rw [List.length_append];omega) (by rw [List.length_append];omega)
 rw [swapQ_app hk hm] at h1;exact ⟨h1.none_ ((Kept.refl _ _).drewN j),h.dn.step hpos hm hpar hl hp.least,(swapQ_perm hk hm).trans h.perm,⟨by rw [swapQ_length];exact h.len.1,by rw [List.length_append,swapQ_length,← List.length_append];exact h.len.2⟩,(h.kept.trans h2).drewN j⟩
theorem DnJ.done {w wr:World} {g gr n c k:Nat} {t l0 l:List EP} (h:DnJ w wr g gr n c t l0 l k) (hs:∀ j,0 < j → j < l.length → (j - 1) / 2=k → ltQ (atQ l j) (atQ l k)=false) (b:Bool):DownP15 w g gr n c l0 t (.returned (.bool b)) wr:=
 ⟨⟨b,rfl⟩,l,h.d,h.dn.stop hs,h.perm,h.kept⟩
set_option maxHeartbeats 16000000 in
theorem hDown_any {w:World} {g gr n c:Nat} {l t:List EP} (h:HpD w g (.slice (some ⟨gr,0,none⟩) n c) (l++t)) (N1:Nat) (hl:l.length=N1) (hln:(l++t).length=n) (hn:n≤100001) (hd:DnL l 0) :
 Calls Try.prog 20 #[ifH g,.int .i64 0,.int .i64 (N1:Nat)] w (DownP15 w g gr n c l t):=by
 have HJ:Hid (DnJ w w g gr n c t l l 0):=Lib.hid ⟨h,hd,List.Perm.refl _,⟨rfl,hln⟩,Kept.refl _ _⟩;have HL:Hid (l.length=N1):=Lib.hid hl;have hN:N1≤n:=by rw [← hln,List.length_append];omega
 clear h hl hd hln
 go_enter Try.func20,Try.ntmps20
 go_wp2_with fail
 go_loopw [7,8,9,10] (fun i _ _ _ wr => ∃ (k:Nat) (l':List EP),i=.int .i64 (k:Int)∧k≤N1∧Hid (DnJ w wr g gr n c t l l' k)) (fun i _ _ _ _ => N1 - (RowKit.intOf i).toNat)
 case atStart => exact ⟨0,_,rfl,Nat.zero_le _,HJ⟩
 case round =>
  clear HJ;obtain ⟨k,l',rfl,hkN,hJ0⟩:=hrel;have HJ0:Hid (DnJ w wr g gr n c t l l' k):=hJ0;have HL1:Hid (l'.length=N1):=Lib.hid (by rw [hJ0.out.len.1];exact HL.out)
  clear hJ0;obtain ⟨A,hA⟩:∃ A:Nat,A=2 * k:=⟨_,rfl⟩;obtain ⟨J,hJe⟩:∃ J:Nat,J=2 * k+1:=⟨_,rfl⟩;have hw1:IntKind.i64.wrap (2 * (k:Int))=(A:Int):=by rw [IntKind.wrap_i64];omega
  have hw2:IntKind.i64.wrap ((A:Int)+1)=(J:Int):=by rw [IntKind.wrap_i64];omega
  have HJE:=Lib.hid hJe;have hJb:J≤300003:=by omega
  have hAb:A≤300003:=by omega
  have hJ0:¬ ((J:Int) < 0):=by omega
  by_cases hJ:J < N1
  ·have hJn:(J:Int) < (N1:Int):=by omega
   have hJ2:¬ ((N1:Int)≤(J:Int)):=by omega
   clear hA hJe
   by_cases hJ3:J+1 < N1
   ·have hj2:(J:Int)+1 < (N1:Int):=by omega
    have hw3:IntKind.i64.wrap ((J:Int)+1)=((J+1:Nat):Int):=by rw [IntKind.wrap_i64];omega
    have hj3:((J+1:Nat):Int) < (N1:Int):=by omega
    have hle:=mLess_any (c:=c) (HJ0.out.d.rn (by rw [HJ0.out.len.2];omega)) HJ0.out.len.2 (J+1) J (by omega) (by omega)
    rw [atQ_app (show J+1 < l'.length by rw [HL1.out];omega),atQ_app (show J < l'.length by rw [HL1.out];omega)] at hle
    obtain ⟨U,hU⟩:∃ U,ltQ (atQ l' (J+1)) (atQ l' J)=U:=⟨_,rfl⟩;rw [hU] at hle;have HLE:=Lib.hid hle;have HU:=Lib.hid hU;have c0:=HJ0.out.d.obj.cell 0;simp only [List.getElem?_toArray,List.getElem?_cons_zero] at c0;have HC:=Lib.hid c0;clear hle hU c0
    go_wp2_with fail
    rw [meth_less HC.out]
    go_wp2_with fail
    refine HLE.out.mono ?_
    rintro e w5 ⟨rfl,hb5⟩;have HJW:=Lib.hid (HJ0.out.none_ (Kept.of_below hb5 noneB));clear hb5 HJ0 HLE HC hw1 hw2
    cases U with
    | true =>
      have HPK:Hid (PickC l' k (J+1)):=Lib.hid (PickC.right HJE.out (by rw [HL1.out];exact hJ3) HU.out)
      have hmk:(J+1) < N1∧k < (J+1):=by have:=HPK.out.lt;have:=HPK.out.par;have:=HPK.out.pos;have:=HL1.out;omega
      have hle2:=mLess_any (c:=c) (HJW.out.d.rn (by rw [HJW.out.len.2];omega)) HJW.out.len.2 (J+1) k (by omega) (by omega)
      rw [atQ_app (show (J+1) < l'.length by rw [HL1.out];omega),atQ_app (show k < l'.length by rw [HL1.out];omega)] at hle2
      obtain ⟨T,hT⟩:∃ T,ltQ (atQ l' (J+1)) (atQ l' k)=T:=⟨_,rfl⟩;rw [hT] at hle2;have HLE2:=Lib.hid hle2;have HT:=Lib.hid hT;have c6:=HJW.out.d.obj.cell 0;simp only [List.getElem?_toArray,List.getElem?_cons_zero] at c6;have HC6:=Lib.hid c6;clear hle2 hT c6
      go_wp2_with fail
      rw [meth_less HC6.out]
      go_wp2_with fail
      refine HLE2.out.mono ?_
      rintro e w7 ⟨rfl,hb7⟩;have HJ7:=Lib.hid (HJW.out.none_ (Kept.of_below hb7 noneB));clear hb7 HJW HLE2 HC6
      cases T with
      | false =>
        go_wp2
        go_ret
        exact HJ7.out.done (fun j h0 hj hp => leQ_trans HT.out (HPK.out.least j h0 hj hp)) _
      | true =>
        have hsw:=mSwap_any (c:=c) (HJ7.out.d.rn (by rw [HJ7.out.len.2];omega)) HJ7.out.len.2 k (J+1) (by omega) (by omega)
        have HSW:=Lib.hid hsw;have c7:=HJ7.out.d.obj.cell 0;simp only [List.getElem?_toArray,List.getElem?_cons_zero] at c7;have HC7:=Lib.hid c7;clear hsw c7
        go_wp2_with fail
        rw [meth_swap HC7.out]
        go_wp2_with fail
        refine HSW.out.mono ?_
        rintro e w8 ⟨rfl,j8,rfl⟩;have HN:=Lib.hid (HJ7.out.swap HPK.out HT.out j8);obtain ⟨w9,hw9⟩:∃ x,x=((put4n (put4n w7 gr (k * 4) (atQ (l'++t) (J+1))) gr ((J+1) * 4) (atQ (l'++t) k)).drewN j8):=⟨_,rfl⟩;rw [← hw9] at HN ⊢;clear hw9 HSW HC7 HJ7
        go_wp2
        go_roundw
        case rel => exact ⟨(J+1),_,rfl,by omega,HN⟩
        case measure => simp [RowKit.intOf];omega
    | false =>
      have HPK:Hid (PickC l' k J):=Lib.hid (PickC.left HJE.out (by rw [HL1.out];exact hJ) HU.out)
      have hmk:J < N1∧k < J:=by have:=HPK.out.lt;have:=HPK.out.par;have:=HPK.out.pos;have:=HL1.out;omega
      have hle2:=mLess_any (c:=c) (HJW.out.d.rn (by rw [HJW.out.len.2];omega)) HJW.out.len.2 J k (by omega) (by omega)
      rw [atQ_app (show J < l'.length by rw [HL1.out];omega),atQ_app (show k < l'.length by rw [HL1.out];omega)] at hle2
      obtain ⟨T,hT⟩:∃ T,ltQ (atQ l' J) (atQ l' k)=T:=⟨_,rfl⟩;rw [hT] at hle2;have HLE2:=Lib.hid hle2;have HT:=Lib.hid hT;have c6:=HJW.out.d.obj.cell 0;simp only [List.getElem?_toArray,List.getElem?_cons_zero] at c6;have HC6:=Lib.hid c6;clear hle2 hT c6
      go_wp2_with fail
      rw [meth_less HC6.out]
      go_wp2_with fail
      refine HLE2.out.mono ?_
      rintro e w7 ⟨rfl,hb7⟩;have HJ7:=Lib.hid (HJW.out.none_ (Kept.of_below hb7 noneB));clear hb7 HJW HLE2 HC6
      cases T with
      | false =>
        go_wp2
        go_ret
        exact HJ7.out.done (fun j h0 hj hp => leQ_trans HT.out (HPK.out.least j h0 hj hp)) _
      | true =>
        have hsw:=mSwap_any (c:=c) (HJ7.out.d.rn (by rw [HJ7.out.len.2];omega)) HJ7.out.len.2 k J (by omega) (by omega)
        have HSW:=Lib.hid hsw;have c7:=HJ7.out.d.obj.cell 0;simp only [List.getElem?_toArray,List.getElem?_cons_zero] at c7;have HC7:=Lib.hid c7;clear hsw c7
        go_wp2_with fail
        rw [meth_swap HC7.out]
        go_wp2_with fail
        refine HSW.out.mono ?_
        rintro e w8 ⟨rfl,j8,rfl⟩;have HN:=Lib.hid (HJ7.out.swap HPK.out HT.out j8);obtain ⟨w9,hw9⟩:∃ x,x=((put4n (put4n w7 gr (k * 4) (atQ (l'++t) J)) gr (J * 4) (atQ (l'++t) k)).drewN j8):=⟨_,rfl⟩;rw [← hw9] at HN ⊢;clear hw9 HSW HC7 HJ7
        go_wp2
        go_roundw
        case rel => exact ⟨J,_,rfl,by omega,HN⟩
        case measure => simp [RowKit.intOf];omega
   ·have hw3:IntKind.i64.wrap ((J:Int)+1)=((J+1:Nat):Int):=by rw [IntKind.wrap_i64];omega
    have hj3:¬ (((J+1:Nat):Int) < (N1:Int)):=by omega
    have hj4:¬ ((J:Int)+1 < (N1:Int)):=by omega
    have HPK:Hid (PickC l' k J):=Lib.hid (PickC.one HJE.out (by rw [HL1.out];exact hJ) (by rw [HL1.out];exact hJ3))
    have HJW:=HJ0;clear HJ0;have hmk:J < N1∧k < J:=by have:=HPK.out.lt;have:=HPK.out.par;have:=HPK.out.pos;have:=HL1.out;omega
    have hle2:=mLess_any (c:=c) (HJW.out.d.rn (by rw [HJW.out.len.2];omega)) HJW.out.len.2 J k (by omega) (by omega)
    rw [atQ_app (show J < l'.length by rw [HL1.out];omega),atQ_app (show k < l'.length by rw [HL1.out];omega)] at hle2
    obtain ⟨T,hT⟩:∃ T,ltQ (atQ l' J) (atQ l' k)=T:=⟨_,rfl⟩;rw [hT] at hle2;have HLE2:=Lib.hid hle2;have HT:=Lib.hid hT;have c6:=HJW.out.d.obj.cell 0;simp only [List.getElem?_toArray,List.getElem?_cons_zero] at c6;have HC6:=Lib.hid c6;clear hle2 hT c6
    go_wp2_with fail
    rw [meth_less HC6.out]
    go_wp2_with fail
    refine HLE2.out.mono ?_
    rintro e w7 ⟨rfl,hb7⟩;have HJ7:=Lib.hid (HJW.out.none_ (Kept.of_below hb7 noneB));clear hb7 HJW HLE2 HC6
    cases T with
    | false =>
      go_wp2
      go_ret
      exact HJ7.out.done (fun j h0 hj hp => leQ_trans HT.out (HPK.out.least j h0 hj hp)) _
    | true =>
      have hsw:=mSwap_any (c:=c) (HJ7.out.d.rn (by rw [HJ7.out.len.2];omega)) HJ7.out.len.2 k J (by omega) (by omega)
      have HSW:=Lib.hid hsw;have c7:=HJ7.out.d.obj.cell 0;simp only [List.getElem?_toArray,List.getElem?_cons_zero] at c7;have HC7:=Lib.hid c7;clear hsw c7
      go_wp2_with fail
      rw [meth_swap HC7.out]
      go_wp2_with fail
      refine HSW.out.mono ?_
      rintro e w8 ⟨rfl,j8,rfl⟩;have HN:=Lib.hid (HJ7.out.swap HPK.out HT.out j8);obtain ⟨w9,hw9⟩:∃ x,x=((put4n (put4n w7 gr (k * 4) (atQ (l'++t) J)) gr (J * 4) (atQ (l'++t) k)).drewN j8):=⟨_,rfl⟩;rw [← hw9] at HN ⊢;clear hw9 HSW HC7 HJ7
      go_wp2
      go_roundw
      case rel => exact ⟨J,_,rfl,by omega,HN⟩
      case measure => simp [RowKit.intOf];omega
  ·have hJn:¬ ((J:Int) < (N1:Int)):=by omega
   have hJ2:(N1:Int)≤(J:Int):=by omega
   clear hA hJe
   go_wp2
   go_ret
   exact HJ0.out.done (fun j h0 hj hp => absurd hj (by have:=HJE.out;rw [HL1.out];omega)) _
end Go.Proofs.Ytphehianajckaaa.Hea
end
section
namespace Go.Proofs.Ytphehianajckaaa.Hea
open Go.ChangeShapes Go.WideShapes Go.ChangeAt Go.RowKit Base Byt Txt Bk Mem Tre Itm Block Go.Lib
set_option linter.unusedVariables false
set_option maxRecDepth 100000
def PopL15 (w:World) (g gr n c:Nat) (l:List EP) (z:EP) (e:Ending) (w':World):Prop:=
 e=.returned (.iface 34 (.agg z.cs))∧HpD w' g (.slice (some ⟨gr,0,none⟩) n c) l∧DatU w' z∧Kept (rowS g (.slice (some ⟨gr,0,none⟩) (n+1) c)) w w'
set_option maxHeartbeats 8000000 in
theorem mPop_any {w:World} {g gr n c:Nat} {l:List EP} {z:EP} (h:HpD w g (.slice (some ⟨gr,0,none⟩) (n+1) c) (l++[z])) (hl:l.length=n) (hn:n≤100000) :
 Calls Try.prog 43 #[.pointer (some ⟨g,0,none⟩)] w (PopL15 w g gr n c l z):=by
 have hll:(l++[z]).length=n+1:=by rw [List.length_append,hl];rfl
 have hrn:=h.rn (by omega)
 have hcz:=hrn.cells4n (show n < (l++[z]).length by omega)
 have hz:(l++[z]).getD n zeroEn=z:=by rw [← hl];simp [List.getD]
 rw [hz] at hcz;obtain ⟨gr',c',hv',hnc,-,-,-⟩:=rowE_rn h.row (by omega)
 injection hv' with e1 e2 e3
 clear e1 e2;subst e3;rw [hll] at hnc;have c0:=h.obj.cell 0;simp only [List.getElem?_toArray,List.getElem?_cons_zero] at c0;obtain ⟨W1,hW1⟩:∃ W1,w.alloc (.cells #[.string (str z.m.it.key),.int .i64 z.m.it.seq,.slice z.p z.m.it.data.length z.c,.int .i64 z.m.run] 34)=W1:=⟨_,rfl⟩;have hk1:Kept noneB w W1:=by rw [← hW1];exact (Kept.refl _ _).alloc _
 have hb1:Blk W1 w.heap.size 34 z.cs:=by rw [← hW1];exact Blk.new w _ _
 have hd1:=h.none_ hk1;have hrn1:=hd1.rn (by omega)
 have hg1:g < w.heap.size:=h.obj.lt;have hgr1:gr < w.heap.size:=h.lt gr (.inr (.inl rfl));have hcz1:=hrn1.cells4n (show n < (l++[z]).length by omega)
 rw [hz] at hcz1;obtain ⟨cur,hbk,_,_⟩:=hrn1;have hne:g≠gr:=fun e => h.ne (by rw [← e];rfl)
 obtain ⟨W2,hW2⟩:∃ W2,put4n W1 gr (n * 4) zeroEn=W2:=⟨_,rfl⟩;have hk2:Kept (oneB gr) W1 W2:=by rw [← hW2];exact put4n_kept (S:=oneB gr) rfl _
 have ho2:Blk W2 g 28 #[.slice (some ⟨gr,0,none⟩) (n+1) c]:=hd1.obj.keptS hk2 hne;have hr2:=rowE_put hd1.row rfl (show n < (l++[z]).length by omega) zeroEn
 rw [hW2] at hr2;have hr3:=rowE_take hr2 (show n≤((l++[z]).set n zeroEn).length by rw [List.length_set];omega)
 have htk:((l++[z]).set n zeroEn).take n=l:=by
  rw [List.set_append_right _ _ (by omega),List.take_append_of_le_length (by omega),List.take_of_length_le (by omega)]
 rw [htk] at hr3;obtain ⟨W3,hW3⟩:∃ W3,W2.setCell ⟨g,0,none⟩ (.slice (some ⟨gr,0,none⟩) n c)=W3:=⟨_,rfl⟩;have hk3:Kept (oneB g) W2 W3:=by rw [← hW3];exact (Kept.refl (oneB g) W2).setCell (a:=⟨g,0,none⟩) (.inr rfl) _
 have ho3:Blk W3 g 28 #[.slice (some ⟨gr,0,none⟩) n c]:=by rw [← hW3];exact ho2.set 0 _ (show 0 < 1 by decide)
 have hr4:W3.ownsRow 0 34 4 (.slice (some ⟨gr,0,none⟩) n c) l.length (flatEn l):=ownsRow_kept hr3 hk3 (fun b hb e => hne (by
  have h1:gr=b:=by simpa [Value.ownBlock] using hb
  rw [h1];exact (show b=g from e).symm))
 have hk13:Kept (rowS g (.slice (some ⟨gr,0,none⟩) (n+1) c)) W1 W3:=(hk2.mono (fun b hb => .inr (by rw [show b=gr from hb];rfl))).trans (hk3.mono (fun b hb => .inl hb))
 have hdat:∀ y ∈ l++[z],DatU W3 y:=fun y hy => (hd1.dat y hy).kept hk13 (fun h0 a ha => hd1.off hy h0 ha)
 have hb3:Blk W3 w.heap.size 34 z.cs:=hb1.keptS hk13 (fun e => by
  rcases e with e | e
  ·omega
  ·have h1:gr=w.heap.size:=by simpa [Value.ownBlock] using e
   omega)
 have HE:Hid (PopL15 w g gr n c l z (.returned (.iface 34 (.agg z.cs))) W3):=Lib.hid ⟨rfl,⟨ho3,hr4,fun y hy => hdat y (List.mem_append.2 (.inl hy))⟩,hdat z (List.mem_append.2 (.inr (List.mem_singleton.2 rfl))),(hk1.of_none _).trans hk13⟩
 have o1:=hd1.obj.cell 0;have o2:=ho2.cell 0;have f2:=ho2.frozen 0;have fr0:=hbk.frozen (n * 4);have fr1:=hbk.frozen (n * 4+1);have fr2:=hbk.frozen (n * 4+2);have fr3:=hbk.frozen (n * 4+3);have z0:=hb3.cell 0;have z1:=hb3.cell 1;have z2:=hb3.cell 2;have z3:=hb3.cell 3;simp only [EP.cs,entC,List.getElem?_toArray,List.getElem?_cons_zero,List.getElem?_cons_succ] at o1 o2 z0 z1 z2 z3;obtain ⟨a0,a1,a2,a3⟩:=hcz;obtain ⟨b0,b1,b2,b3⟩:=hcz1;have hw1:IntKind.i64.wrap (((n+1:Nat):Int) - 1)=(n:Int):=by rw [IntKind.wrap_i64];omega
 have hw2:((n:Int)+1 - 1)=(n:Int):=by omega
 have hnz:(n:Int) < (n:Int)+1:=by omega
 have hnz2:(n:Int)≤(c:Int):=by omega
 have hnz3:¬ ((n:Int) < 0):=by omega
 unfold EP.cs entC at HE;have HW1:=Lib.hid hW1;have HW2:=Lib.hid hW2;have HW3:=Lib.hid hW3;clear h hl hll hrn hz hk1 hb1 hd1 hg1 hgr1 hbk hne hk2 ho2 hr2 hr3 htk hk3 ho3 hr4 hk13 hdat hb3 hW1 hW2 hW3
 go_enter Try.func43,Try.ntmps43
 go_upto_region 3 with fail
 rw [HW1.out]
 go_upto_region 4 with fail
 show Code.wp Try.prog _ _ _ (put4n W1 gr (n * 4) zeroEn);rw [HW2.out]
 go_upto_region 5 with fail
 rw [HW3.out]
 go_wp2
 go_ret
 exact HE.out
def PopC15 (w:World) (g:Nat) (v:Value) (l:List EP) (e:Ending) (w':World):Prop:=
 e=.returned (.iface 34 (.agg (atQ l 0).cs)) ∧ ∃ v' l',HpD w' g v' l'∧HeapL l'∧l.Perm (atQ l 0 :: l')∧DatU w' (atQ l 0)∧v'.ownBlock=v.ownBlock∧Kept (rowS g v) w w'
theorem swap_last {l:List EP} (h0:0 < l.length) {n:Nat} (hn:l.length=n+1):swapQ l 0 n=(l.set 0 (atQ l n)).take n++[atQ l 0]:=by
 unfold swapQ;have hl:(l.set 0 (atQ l n)).length=n+1:=by rw [List.length_set];exact hn
 rw [List.set_eq_take_append_cons_drop,if_pos (by omega),List.drop_of_length_le (by omega)]
set_option maxHeartbeats 8000000 in
theorem cPop_any {w:World} {g:Nat} {v:Value} {l:List EP} (h:HpD w g v l) (hh:HeapL l) (h0:0 < l.length) (hL:l.length≤100000) :
 Calls Try.prog 16 #[ifH g] w (PopC15 w g v l):=by
 obtain ⟨gr,c,hv,-,-,-,hgr⟩:=rowE_rn h.row h0;obtain ⟨n,hn⟩:∃ n,l.length=n+1:=⟨l.length - 1,by omega⟩
 rw [hn] at hv;subst hv;have hnb:n≤99999:=by omega
 obtain ⟨x,hx⟩:∃ x,atQ l 0=x:=⟨_,rfl⟩;unfold PopC15;rw [hx];have hsl:=swap_last h0 hn;have hdn:=DnL.start hh h0;have hpm:=pop_permQ h0;rw [hx] at hpm hsl;rw [show l.length - 1=n by omega] at hdn hpm
 obtain ⟨l1,hl1⟩:∃ l1,(l.set 0 (atQ l n)).take n=l1:=⟨_,rfl⟩;have hl1n:l1.length=n:=by rw [← hl1,List.length_take,List.length_set];omega
 rw [hl1] at hdn hpm hsl;have hlx:(l1++[x]).length=n+1:=by rw [List.length_append,hl1n];rfl
 have hsw:=mSwap_any (c:=c) (h.rn h0) hn 0 n (by omega) (by omega)
 rw [show ((0:Nat):Int)=0 from rfl] at hsw
 have HSW:=Lib.hid hsw;have HSD:=Lib.hid (h.swap (i:=0) (k:=n) h0 (by omega))
 have c0:=h.obj.cell 0;simp only [List.getElem?_toArray,List.getElem?_cons_zero] at c0;have HC:=Lib.hid c0;have HML:=Lib.hid (mLen_any (some ⟨gr,0,none⟩) (n+1) c w);have HG:=Lib.hid (And.intro hsl (And.intro hdn (And.intro hpm (And.intro hl1n hlx))));have hw1:IntKind.i64.wrap (((n+1:Nat):Int) - 1)=(n:Int):=by rw [IntKind.wrap_i64];omega
 have hw2:((n:Int)+1 - 1)=(n:Int):=by omega
 clear h hh h0 hL hgr hn hx hsl hdn hpm hl1 hl1n hlx hsw c0
 go_enter Try.func16,Try.ntmps16
 go_wp2_with fail
 rw [meth_len HC.out]
 go_wp2_with fail
 refine HML.out.mono ?_
 rintro e w1 ⟨rfl,rfl⟩;clear HML
 go_wp2_with fail
 rw [meth_swap HC.out]
 go_wp2_with fail
 refine HSW.out.mono ?_
 rintro e w2 ⟨rfl,j2,rfl⟩;have hd2:=HSD.out.1;rw [HG.out.1] at hd2;obtain ⟨w3,hw3⟩:∃ x,x=((put4n (put4n w gr (0 * 4) (atQ l n)) gr (n * 4) (atQ l 0)).drewN j2):=⟨_,rfl⟩;have hd3:HpD w3 g (.slice (some ⟨gr,0,none⟩) (n+1) c) (l1++[x]):=by rw [hw3];exact hd2.none_ ((Kept.refl _ _).drewN j2)
 have hk3:Kept (oneB gr) w w3:=by rw [hw3];exact HSD.out.2.drewN j2
 rw [← hw3];have HDN:=Lib.hid (hDown_any hd3 n HG.out.2.2.2.1 HG.out.2.2.2.2 (by omega) HG.out.2.1)
 have HK3:=Lib.hid hk3;clear hd2 hd3 hk3 hw3 HSW HSD HC
 go_wp2_with fail
 refine HDN.out.mono ?_
 rintro e w4 ⟨⟨b,rfl⟩,l4,hd4,hh4,hp4,hk4⟩;have hl4:l4.length=n:=by rw [hp4.length_eq];exact HG.out.2.2.2.1
 have HPL:=Lib.hid (mPop_any hd4 hl4 (by omega))
 have HK4:=Lib.hid (HK3.out.trans hk4);have H4:=Lib.hid (And.intro hh4 hp4);clear hd4 hh4 hp4 hk4 hl4 HDN HK3
 go_wp2_with fail
 rw [meth_pop]
 go_wp2_with fail
 refine HPL.out.mono ?_
 rintro e w5 ⟨rfl,hd5,hu5,hk5⟩;have HE:Hid (∃ v' l',HpD w5 g v' l'∧HeapL l'∧l.Perm (x :: l')∧DatU w5 x∧v'.ownBlock=(Value.slice (some ⟨gr,0,none⟩) (n+1) c).ownBlock∧Kept (rowS g (.slice (some ⟨gr,0,none⟩) (n+1) c)) w w5):=Lib.hid ⟨_,l4,hd5,H4.out.1,HG.out.2.2.1.trans (H4.out.2.symm.cons x),hu5,rfl,(HK4.out.mono (fun b hb => .inr (by rw [show b=gr from hb];rfl))).trans hk5⟩
 clear hd5 hu5 hk5 HPL HK4 H4 HG
 go_wp2
 go_ret
 exact ⟨rfl,HE.out⟩
set_option maxHeartbeats 8000000 in
theorem hpPop_any {w:World} {g:Nat} {L:List EntV} {own:Nat → Prop} (h:HpAt w g L own) (hL:L.length≤100000) (h0:0 < L.length):Calls Try.prog 10 #[ptrH g] w (PopPost15 HpAt w g own L):=by
 obtain ⟨v,l,hd,hh,hp,ho⟩:=h;have hlen:=hp.length_eq;rw [List.length_map] at hlen;obtain ⟨W1,hW1⟩:∃ W1,w.alloc (.cells #[.string ⟨#[]⟩,.int .i64 0,.slice none 0 0,.int .i64 0] 34)=W1:=⟨_,rfl⟩;have hk1:Kept noneB w W1:=by rw [← hW1];exact (Kept.refl _ _).alloc _
 have hb1:Blk W1 w.heap.size 34 zeroEn.cs:=by rw [← hW1];exact Blk.new w _ _
 have hd1:=hd.none_ hk1;have HLEN:=Lib.hid (hpLenD_any hd1);have hpc:=cPop_any hd1 hh (by omega) (by omega)
 unfold PopC15 at hpc;have hx0:atQ l 0 ∈ l:=by rw [atQ_eq (by omega)];exact List.getElem_mem _
 have hls:=(heapL_least hh (by omega)).perm hp
 obtain ⟨x,hx⟩:∃ x,atQ l 0=x:=⟨_,rfl⟩;rw [hx] at hpc hx0 hls;obtain ⟨n,hn⟩:∃ n,l.length=n:=⟨_,rfl⟩;rw [hn] at HLEN hlen;have hnz:((n:Int) == 0)=false:=by simp;omega
 have hnp:(0:Int) < (n:Int):=by omega
 have HPC:=Lib.hid hpc;have HB1:=Lib.hid hb1;have HK1:=Lib.hid hk1;have HG:=Lib.hid (And.intro hp (And.intro ho (And.intro hls hx0)))
 have HN:Hid (∀ b,rowS g v b → b < w.heap.size):=Lib.hid (fun b hb => by
  rcases hb with hb | hb
  ·exact hd.lt b (.inl hb)
  ·exact hd.lt b (.inr (.inl hb)))
 have HL0:Hid (∀ b,own b → b < w.heap.size):=Lib.hid (fun b hb => hd.lt b ((ho b).1 hb))
 have HDX:Hid (∀ a,0 < x.m.it.data.length → x.p=some a → a.block < w.heap.size):=Lib.hid (fun a h1 ha => by
  obtain ⟨cur,hc⟩:=(hd.dat x hx0).blk h1 a ha
  exact hc.lt)
 have hta:=assert_ent (.agg #[.string (str x.m.it.key),.int .i64 x.m.it.seq,.slice x.p x.m.it.data.length x.c,.int .i64 x.m.run]);clear hd hh hp ho hL h0 hlen hk1 hb1 hd1 hpc hx0 hls hx hn;unfold EP.cs entC at HPC
 go_enter Try.func10,Try.ntmps10
 go_upto_region 1 with fail
 clear hW1
 go_wp2_with fail
 refine HLEN.out.mono ?_
 rintro e w2 ⟨rfl,rfl⟩;clear HLEN
 go_wp2_with fail
 refine HPC.out.mono ?_
 rintro e w3 ⟨rfl,v',l',hd3,hh3,hp3,hu3,hv3,hk3⟩;have hb3:=HB1.out.keptS hk3 (fun hb => Nat.lt_irrefl _ (HN.out _ hb))
 have z0:=hb3.cell 0;have z1:=hb3.cell 1;have z2:=hb3.cell 2;have z3:=hb3.cell 3;have f0:=hb3.frozen 0;have f1:=hb3.frozen 1;have f2:=hb3.frozen 2;have f3:=hb3.frozen 3;simp only [zeroEn,EP.cs,entC,List.getElem?_toArray,List.getElem?_cons_zero,List.getElem?_cons_succ] at z0 z1 z2 z3;have hk4:Kept (oneB w.heap.size) w3 (put4n w3 w.heap.size 0 x):=put4n_kept (S:=oneB w.heap.size) rfl x
 have hlt:∀ b,hpOwn g v' l' b → own b∧b < w.heap.size:=fun b hb => by
  rcases hb with hb | hb | hb
  ·exact ⟨(HG.out.2.1 b).2 (.inl hb),HN.out b (.inl hb)⟩
  ·rw [hv3] at hb
   exact ⟨(HG.out.2.1 b).2 (.inr (.inl hb)),HN.out b (.inr hb)⟩
  ·obtain ⟨z,hz,h0,a,ha,hab⟩:=hb
   have hzl:=hp3.mem_iff.2 (List.mem_cons_of_mem _ hz);have ho:own b:=(HG.out.2.1 b).2 (.inr (.inr ⟨z,hzl,h0,a,ha,hab⟩));exact ⟨ho,HL0.out b ho⟩
 have HE:Hid (PopPost15 HpAt w g own L (.returned (.tuple #[.agg x.cs,.bool true])) (put4n w3 w.heap.size 0 x)):=Lib.hid ⟨x,l'.map EP.m,hpOwn g v' l',rfl,HG.out.1.symm.trans (hp3.map EP.m),HG.out.2.2.1,⟨v',l',hd3.keep hk4 (fun b hb e => by
  have:=(hlt b hb).2;rw [show b=w.heap.size from e] at this
  exact Nat.lt_irrefl _ this),hh3,List.Perm.refl _,fun b => Iff.rfl⟩,fun b hb => .inl (hlt b hb).1,((HK1.out.of_none own).trans (hk3.mono (fun b hb => (HG.out.2.1 b).2 (by
  rcases hb with hb | hb
  ·exact .inl hb
  ·exact .inr (.inl hb))))).then hk4 (fun b hb => .inl (by rw [show b=w.heap.size from hb];exact Nat.le_refl _)),hu3.dat.kept hk4 (fun h1 a ha e => by
  have:=HDX.out a h1 ha;rw [show a.block=w.heap.size from e] at this
  exact Nat.lt_irrefl _ this)⟩
 have HB3:=Lib.hid hb3;clear hd3 hh3 hp3 hu3 hv3 hk3 hb3 hk4 hlt HPC HB1 HK1 HN HDX HG
 go_wp2
 refine bodyPost_ret (ret_hp rfl _ _ w.heap.size _ rfl rfl x.cs _ _ _ _ rfl (blk_put15 HB3.out x)) rfl ?_
 exact HE.out
end Go.Proofs.Ytphehianajckaaa.Hea
end
section
namespace Go.Proofs.Ytphehianajckaaa.Hea
open Go.ChangeShapes Go.WideShapes Go.ChangeAt Go.RowKit Base Byt Txt Bk Mem Tre Itm Block Go.Lib
set_option linter.unusedVariables false
set_option maxRecDepth 100000
set_option maxHeartbeats 8000000 in
theorem hpPush_any {w:World} {g:Nat} {L:List EntV} {own:Nat → Prop} (x:EP) (h:HpAt w g L own) (hx:DatE w x) (hr:x.m.it.data.length≤140737488351232) (hL:L.length≤100000):Calls Try.prog 7 #[ptrH g,.agg x.cs] w (PushPost15 HpAt w g own (x.m :: L)):=by
 obtain ⟨v,l,hd,hh,hp,ho⟩:=h;have hll:l.length≤100000:=by rw [← List.length_map (f:=EP.m),hp.length_eq];exact hL
 obtain ⟨W1,hW1⟩:∃ W1,w.alloc (.cells #[.string (str x.m.it.key),.int .i64 x.m.it.seq,.slice x.p x.m.it.data.length x.c,.int .i64 x.m.run] 34)=W1:=⟨_,rfl⟩;have hk1:Kept noneB w W1:=by rw [← hW1];exact (Kept.refl _ _).alloc _
 have hx1:Blk W1 w.heap.size 34 x.cs:=by rw [← hW1];exact Blk.new w _ _
 have x0:=hx1.cell 0;have x1:=hx1.cell 1;have x2:=hx1.cell 2;have x3:=hx1.cell 3;simp only [EP.cs,entC,List.getElem?_toArray,List.getElem?_cons_zero,List.getElem?_cons_succ] at x0 x1 x2 x3;have hcl:=hClone_any x W1.drew (hx.kept (hk1.drew) (fun _ _ _ h => h)) hr
 unfold EP.cs entC at hcl;have HCL:=Lib.hid hcl;have HD:=Lib.hid (hd.none_ hk1.drew);have HG:=Lib.hid (And.intro hh (And.intro hp (And.intro ho hll)));have HK1:Hid (Kept noneB w W1.drew):=Lib.hid hk1.drew;have HS0:Hid (W1.drew.cell? ⟨w.heap.size,0,none⟩=some (.string (str x.m.it.key))∧W1.drew.cell? ⟨w.heap.size,1,none⟩=some (.int .i64 x.m.it.seq)∧W1.drew.cell? ⟨w.heap.size,2,none⟩=some (.slice x.p x.m.it.data.length x.c)∧W1.drew.cell? ⟨w.heap.size,3,none⟩=some (.int .i64 x.m.run)):=Lib.hid ⟨x0,x1,x2,x3⟩;have HB1:=Lib.hid (Blk.drew hx1)
 have HN:Hid (∀ b,rowS g v b → b < w.heap.size):=Lib.hid (fun b hb => by
  rcases hb with hb | hb
  ·exact hd.lt b (.inl hb)
  ·exact hd.lt b (.inr (.inl hb)))
 clear hd hh hp ho hll hL hk1 hx1 hx hr hcl x0 x1 x2 x3;unfold EP.cs entC
 go_enter Try.func7,Try.ntmps7
 go_upto_region 2 with fail
 clear hW1
 go_region_held_law (fun w' => w'.cell? ⟨w.heap.size,0,none⟩=some (.string (str x.m.it.key))∧w'.cell? ⟨w.heap.size,1,none⟩=some (.int .i64 x.m.it.seq)∧w'.cell? ⟨w.heap.size,2,none⟩=some (.slice x.p x.m.it.data.length x.c)∧w'.cell? ⟨w.heap.size,3,none⟩=some (.int .i64 x.m.run)) (first | exact HS0.out | exact HS2.out | exact HS3.out) (first
  | (go_at_call 15
     refine HCL.out.mono ?_
     rintro e w2 ⟨p,c,rfl,hu,hf,hb2⟩;have hd2:=HD.out.none_ (Kept.of_below hb2 noneB);have hB2:=HB1.out.below hb2 HB1.out.lt;have HS2:Hid (w2.cell? ⟨w.heap.size,0,none⟩=some (.string (str x.m.it.key))∧w2.cell? ⟨w.heap.size,1,none⟩=some (.int .i64 x.m.it.seq)∧w2.cell? ⟨w.heap.size,2,none⟩=some (.slice x.p x.m.it.data.length x.c)∧w2.cell? ⟨w.heap.size,3,none⟩=some (.int .i64 x.m.run)):=Lib.hid ⟨hB2.cell 0,hB2.cell 1,hB2.cell 2,hB2.cell 3⟩
     have HPC:=Lib.hid (cPush_any ⟨x.m,p,c⟩ hd2 HG.out.1 hu (fun a h0 ha hr => by
      have h1:=hf h0 a ha;have h2:=HN.out _ hr;have h3:=HK1.out.size
      omega) HG.out.2.2.2)
     have HB2:=Lib.hid hB2;have HK2:Hid (Kept noneB w w2):=Lib.hid (HK1.out.trans (Kept.of_below hb2 noneB));have HF:Hid (0 < x.m.it.data.length → ∀ a,p=some a → w.heap.size≤a.block):=Lib.hid (fun h0 a ha => Nat.le_trans HK1.out.size (hf h0 a ha))
     unfold EP.cs entC at HPC;clear hu hf hb2 hd2 hB2;unfold EP.cs entC
     dsimp only)
  | (go_at_call 14
     refine HPC.out.mono ?_
     rintro e w3 ⟨rfl,v',l',hd3,hh3,hp3,hnew,hk3⟩;have hB3:=HB2.out.keptS hk3 (fun hb => by have:=HN.out _ hb;omega)
     have HS3:Hid (w3.cell? ⟨w.heap.size,0,none⟩=some (.string (str x.m.it.key))∧w3.cell? ⟨w.heap.size,1,none⟩=some (.int .i64 x.m.it.seq)∧w3.cell? ⟨w.heap.size,2,none⟩=some (.slice x.p x.m.it.data.length x.c)∧w3.cell? ⟨w.heap.size,3,none⟩=some (.int .i64 x.m.run)):=Lib.hid ⟨hB3.cell 0,hB3.cell 1,hB3.cell 2,hB3.cell 3⟩
     have HE:Hid (PushPost15 HpAt w g own (x.m :: L) (.returned (.tuple #[])) w3):=Lib.hid ⟨hpOwn g v' l',rfl,⟨v',l',hd3,hh3,by
      have h1:=hp3.map EP.m;rw [List.map_append] at h1
      exact h1.trans ((HG.out.2.1.append_right _).trans (List.perm_append_comm (l₂:=[x.m]))),fun b => Iff.rfl⟩,fun b hb => by
      rcases hb with hb | hb | hb
      ·exact .inl ((HG.out.2.2.1 b).2 (.inl hb))
      ·rcases hnew b hb with h1 | h1
       ·exact .inl ((HG.out.2.2.1 b).2 (.inr (.inl h1)))
       ·exact .inr (Nat.le_trans HK2.out.size h1)
      ·obtain ⟨z,hz,h0,a,ha,hab⟩:=datB_perm hp3 hb
       rcases List.mem_append.1 hz with hz | hz
       ·exact .inl ((HG.out.2.2.1 b).2 (.inr (.inr ⟨z,hz,h0,a,ha,hab⟩)))
       ·obtain rfl:=List.mem_singleton.1 hz
        rw [← hab]
        exact .inr (HF.out h0 a ha),(HK2.out.of_none own).trans (hk3.mono (fun b hb => (HG.out.2.2.1 b).2 (by
        rcases hb with hb | hb
        ·exact .inl hb
        ·exact .inr (.inl hb))))⟩
     clear hd3 hh3 hp3 hnew hk3 hB3 HPC))
 go_wp2
 go_end0
 exact HE.out
end Go.Proofs.Ytphehianajckaaa.Hea
end
section
namespace Go.Proofs.Ytphehianajckaaa.Hea
open Go.ChangeShapes Go.WideShapes Go.ChangeAt Go.RowKit Base Byt Txt Bk Mem Tre Itm Go.Lib
set_option linter.unusedVariables false
set_option maxRecDepth 100000
set_option maxHeartbeats 4000000 in
theorem hpPopN_any {w:World} {g:Nat} {own:Nat → Prop} (h:HpAt w g [] own):Calls Try.prog 10 #[ptrH g] w (NonePost15 w):=by
 obtain ⟨W1,hW1⟩:∃ W1,w.alloc (.cells #[.string ⟨#[]⟩,.int .i64 0,.slice none 0 0,.int .i64 0] 34)=W1:=⟨_,rfl⟩;have hk1:Kept noneB w W1:=by rw [← hW1];exact (Kept.refl _ _).alloc _
 have hb1:Blk W1 w.heap.size 34 zeroEn.cs:=by rw [← hW1];exact Blk.new w _ _
 have h1:=hpAt_frame h hk1 (fun _ _ h => h)
 have HLEN:=Lib.hid (hpLenS_any h1 (by decide))
 have z0:=hb1.cell 0;have z1:=hb1.cell 1;have z2:=hb1.cell 2;have z3:=hb1.cell 3;have f0:=hb1.frozen 0;have f1:=hb1.frozen 1;have f2:=hb1.frozen 2;have f3:=hb1.frozen 3;have z0':W1.cell? ⟨w.heap.size,0,none⟩=some (.string ⟨#[]⟩):=z0;have z1':W1.cell? ⟨w.heap.size,1,none⟩=some (.int .i64 0):=z1;have z2':W1.cell? ⟨w.heap.size,2,none⟩=some (.slice none 0 0):=z2;have z3':W1.cell? ⟨w.heap.size,3,none⟩=some (.int .i64 0):=z3;have HB1:=Lib.hid hb1;have HK1:=Lib.hid hk1;clear hk1 hb1 z0 z1 z2 z3
 go_enter Try.func10,Try.ntmps10
 go_upto_region 1 with fail
 clear hW1
 go_wp2_with fail
 refine HLEN.out.mono ?_
 rintro e w3 ⟨rfl,rfl⟩;clear HLEN
 go_wp2
 have hb2:=blk_put15 HB1.out zeroEn;refine bodyPost_ret (ret_hp rfl _ _ w.heap.size _ rfl rfl zeroEn.cs _ _ _ _ rfl hb2) rfl ?_
 exact ⟨rfl,HK1.out.then (put4n_kept (S:=oneB w.heap.size) rfl zeroEn) (fun b hb => .inl (by rw [show b=w.heap.size from hb];exact Nat.le_refl _))⟩
set_option maxHeartbeats 4000000 in
theorem hpPop0_any (w:World):Calls Try.prog 10 #[.pointer none] w (NonePost15 w):=by
 obtain ⟨W1,hW1⟩:∃ W1,w.alloc (.cells #[.string ⟨#[]⟩,.int .i64 0,.slice none 0 0,.int .i64 0] 34)=W1:=⟨_,rfl⟩;have hk1:Kept noneB w W1:=by rw [← hW1];exact (Kept.refl _ _).alloc _
 have hb1:Blk W1 w.heap.size 34 zeroEn.cs:=by rw [← hW1];exact Blk.new w _ _
 have HLEN:=Lib.hid (hpLen0S_any W1);have z0:=hb1.cell 0;have z1:=hb1.cell 1;have z2:=hb1.cell 2;have z3:=hb1.cell 3;have f0:=hb1.frozen 0;have f1:=hb1.frozen 1;have f2:=hb1.frozen 2;have f3:=hb1.frozen 3;have z0':W1.cell? ⟨w.heap.size,0,none⟩=some (.string ⟨#[]⟩):=z0;have z1':W1.cell? ⟨w.heap.size,1,none⟩=some (.int .i64 0):=z1;have z2':W1.cell? ⟨w.heap.size,2,none⟩=some (.slice none 0 0):=z2;have z3':W1.cell? ⟨w.heap.size,3,none⟩=some (.int .i64 0):=z3;have HB1:=Lib.hid hb1;have HK1:=Lib.hid hk1;clear hk1 hb1 z0 z1 z2 z3
 go_enter Try.func10,Try.ntmps10
 go_upto_region 1 with fail
 clear hW1
 go_wp2_with fail
 refine HLEN.out.mono ?_
 rintro e w3 ⟨rfl,rfl⟩;clear HLEN
 go_wp2
 have hb2:=blk_put15 HB1.out zeroEn;refine bodyPost_ret (ret_hp rfl _ _ w.heap.size _ rfl rfl zeroEn.cs _ _ _ _ rfl hb2) rfl ?_
 exact ⟨rfl,HK1.out.then (put4n_kept (S:=oneB w.heap.size) rfl zeroEn) (fun b hb => .inl (by rw [show b=w.heap.size from hb];exact Nat.le_refl _))⟩
theorem hpPush0_any (w:World) (x:EP):Calls Try.prog 7 #[.pointer none,.agg x.cs] w (ValPost15 w (.tuple #[])):=by
 unfold EP.cs entC
 go_enter Try.func7,Try.ntmps7
 go_wp2
 go_end0
 exact ⟨rfl,(Kept.refl _ _).alloc _⟩
theorem heaC:HeaC HpAt where
 lt:=hpAt_lt
 frame:=hpAt_frame
 new:=hpAt_new
 push:=fun x h hx hr hL => hpPush_any x h hx hr hL
 pop:=fun h hL h0 => hpPop_any h hL h0
 popn:=fun h => hpPopN_any h
 least:=fun h hL h0 => hpLeast_any h hL h0
 leastn:=fun h => hpLeastN_any h
 len:=fun h hL => hpLen_any h hL
 push0:=hpPush0_any
 pop0:=hpPop0_any
 least0:=hpLeast0_any
 len0:=hpLen0_any
end Go.Proofs.Ytphehianajckaaa.Hea
end
section
namespace Go.Proofs.Ytphehianajckaaa.Hea
open Go.ChangeShapes Go.WideShapes Go.ChangeAt Go.RowKit Base Byt Txt Bk Mem Tre Itm Go.Lib
set_option linter.unusedVariables false
set_option maxRecDepth 100000
structure Pl15 (At:World → Nat → List EntV → (Nat → Prop) → Prop) (w wr:World) (g:Nat) (own:Nat → Prop) (L:List EntV) (vl:Value) (l xs:List EP):Prop where
 q:HeaQ At w wr g own L
 row:wr.ownsRow w.heap.size 34 4 vl l.length (flatEn l)
 sep:∀ b,vl.ownBlock=some b → ¬ own b
 perm:L.Perm (l.map EP.m)
 inl:∀ y ∈ l,y ∈ xs
section
variable {At:World → Nat → List EntV → (Nat → Prop) → Prop} {w wr w':World} {g:Nat} {own own':Nat → Prop} {L L':List EntV} {l xs:List EP} {vl:Value}
theorem HeaQ.off (H:HeaC At) {S:Nat → Prop} (h:HeaQ At w wr g own L) (hk:Kept S wr w') (hS:∀ b,S b → w.heap.size≤b) (ho:∀ b,own b → ¬ S b):HeaQ At w w' g own L where
 at_:=H.frame h.at_ hk ho
 bel:=h.bel.trans (hk.below h.bel.size hS)
 base:=h.base
theorem Pl15.none_ (H:HeaC At) (h:Pl15 At w wr g own L vl l xs) (hk:Kept noneB wr w'):Pl15 At w w' g own L vl l xs:=
 ⟨h.q.none_ H hk,ownsRow_kept h.row hk (fun _ _ h => h),h.sep,h.perm,h.inl⟩
theorem Pl15.below (H:HeaC At) (h:Pl15 At w wr g own L vl l xs) (hb:Below wr.heap.size wr w'):Pl15 At w w' g own L vl l xs:=h.none_ H (Kept.of_below hb noneB)
theorem Pl15.len (h:Pl15 At w wr g own L vl l xs):L.length=l.length:=by have:=h.perm.length_eq;simpa using this
theorem Pl15.chg (h:Pl15 At w wr g own L vl l xs) (ha:At w' g L' own') (hs:∀ b,own' b → own b ∨ wr.heap.size≤b) (hk:Kept own wr w'):HeaQ At w w' g own' L'∧w'.ownsRow w.heap.size 34 4 vl l.length (flatEn l) ∧ ∀ b,vl.ownBlock=some b → ¬ own' b:=
 ⟨h.q.chg ha hs hk,ownsRow_kept h.row hk h.sep,fun b hb ho => by
  rcases hs b ho with h1 | h1
  ·exact h.sep b hb h1
  ·have:=(h.row.lt b hb).2;omega⟩
theorem Pl15.ents (h:Pl15 At w wr g own L vl l xs) (hx:∀ y ∈ xs,DatE w y):∃ p c,vl=.slice p l.length c∧l.length≤c∧c≤maxLen∧EntsAt wr p l.length l:=
 ents_own h.row (fun y hy => (hx y (h.inl y hy)).below h.q.bel)
theorem Pl15.start (H:HeaC At) (w:World) (xs:List EP):Pl15 At w (w.alloc (.cells newH 28)) w.heap.size (fun b => b=w.heap.size) [] (.slice none 0 0) [] xs:=
 ⟨HeaQ.start H (Below.refl _ _),World.ownsRow_nil _ _ _ _,(fun b hb => by cases hb),List.Perm.refl _,(fun y hy => by simp at hy)⟩
end
def PlR15 (At:World → Nat → List EntV → (Nat → Prop) → Prop) (w wr:World) (g:Nat) (xs:List EP) (pl:Option Addr) (ln cl e:Nat):Prop:=
 ∃ own L l,Pl15 At w wr g own L (.slice pl ln cl) l xs∧l.length=ln∧ln≤e
end Go.Proofs.Ytphehianajckaaa.Hea
end
section
namespace Go.Proofs.Ytphehianajckaaa.Walk
open Go.ChangeShapes Go.WideShapes Go.ChangeAt Go.RowKit Base Byt Txt Bk Mem Tre Itm Hea Go.Lib
set_option linter.unusedVariables false
set_option maxRecDepth 100000
attribute [local irreducible] wpQuiet
set_option maxHeartbeats 16000000 in
theorem heapPlaysC {At:World → Nat → List EntV → (Nat → Prop) → Prop} (H:HeaC At) (p:Option Addr) (n c:Nat) (xs:List EP) (q:Option Addr) (m d:Nat) (T:Nat → Bool) (w:World) (ma:EntsAt w p n xs) (lc:n≤c) (cm:c≤maxLen) (by0:c * 56≤140737488351232) (rm:∀ x ∈ xs,WfE x.m∧RoomE x)
 (w1:0 < m → ∃ b o,q=some ⟨b,o,none⟩∧b < w.heap.size ∧ ∀ i,i < m → w.cell? ⟨b,o+i,none⟩=some (.bool (T i))) (c1:m≤d∧d≤maxLen) :
 Calls Try.prog 3 #[.slice p n c,.slice q m d] w fun e w' => e=.returned (.bool true)∧Below w.heap.size w w':=by
 have HC:=Lib.hid H;have HMA:=Lib.hid ma;have HXL:=Lib.hid ma.1;have HXD:=Lib.hid ma.2.1;have HXR:Hid (∀ x ∈ xs,x.m.it.data.length≤140737488351232):=Lib.hid (fun x hx => Nat.le_trans (ma.2.1 x hx).le (rm x hx).2.2)
 have HTT:=Lib.hid w1;have HAN:Hid (∀ w',Calls Try.prog 6 #[] w' fun e w2 => e=.returned (.bool true)∧Below w'.heap.size w' w2):=Lib.hid (fun w' => ans15_any H w')
 clear H ma lc cm by0 rm w1 c1;have HAW:=Lib.hid (HAN.out w)
 by_cases hn:n≤100
 ·by_cases hm:m≤300
  ·have hn1:¬ ((100:Int) < (n:Int)):=by omega
   have hm1:¬ ((300:Int) < (m:Int)):=by omega
   clear HAW
   go_enter Try.func3,Try.ntmps3
   have hp0:=Pl15.start HC.out w xs;obtain ⟨W1,hW1⟩:∃ W1,w.alloc (.cells newH 28)=W1:=⟨_,rfl⟩;rw [hW1] at hp0;obtain ⟨g,hg⟩:∃ g,w.heap.size=g:=⟨_,rfl⟩;have HP0:Hid (PlR15 At w W1 w.heap.size xs none 0 0 0):=Lib.hid ⟨_,_,_,hp0,rfl,Nat.le_refl _⟩;unfold newH at hW1;clear hp0 hg g
   go_upto_region 4 with fail
   clear hW1 hn1 hm1
   go_wp2_with fail
   go_loopw [6,7,8,9,10,11,12,13,14,15] (fun vl nx i _ _ _ _ _ _ _ wr => ∃ (a e ln cl:Nat) (pl:Option Addr),a≤m∧e≤n∧i=.int .i64 (a:Int)∧nx=.int .i64 (e:Int)∧vl=.slice pl ln cl∧Hid (PlR15 At w wr w.heap.size xs pl ln cl e)) (fun _ _ i _ _ _ _ _ _ _ _ => m - (RowKit.intOf i).toNat)
   case atStart => exact ⟨0,0,0,0,none,Nat.zero_le _,Nat.zero_le _,rfl,rfl,rfl,HP0⟩
   case round =>
    clear HP0;obtain ⟨a,e,ln,cl,pl,ha,he,rfl,rfl,rfl,hP⟩:=hrel;obtain ⟨own,L,l,hp,hll,hle⟩:=hP.out;have HP:=Lib.hid hp;have HLL:=Lib.hid hll;clear hP hp hll
    by_cases hlt:a < m
    ·have hltz:(a:Int) < (m:Int):=by omega
     obtain ⟨bt,ot,rfl,hbt,hct⟩:=HTT.out (by omega)
     have hc:wr.cell? ⟨bt,ot+a,none⟩=some (.bool (T a)):=by rw [HP.out.q.bel.cell (p:=⟨bt,ot+a,none⟩) hbt];exact hct a hlt
     obtain ⟨B,hB⟩:∃ B,T a=B:=⟨_,rfl⟩;rw [hB] at hc;obtain ⟨G,hG⟩:∃ G:Bool,(B && decide (e < n))=G:=⟨_,rfl⟩;have HG:=Lib.hid hG;clear hct hbt hB hG
     go_upto_region 9 with fail
     go_cut [41] (fun s wx => s=.bool G∧wr=wx)
     case first =>
      cases B with
      | false =>
        go_wp2
        go_meet
        exact ⟨by rw [← HG.out];rfl,rfl⟩
      | true =>
        by_cases hen:e < n
        ·have henz:(e:Int) < (n:Int):=by omega
         go_wp2
         go_meet
         exact ⟨by rw [← HG.out,decide_eq_true hen];rfl,rfl⟩
        ·have henz:¬ ((e:Int) < (n:Int)):=by omega
         go_wp2
         go_meet
         exact ⟨by rw [← HG.out,decide_eq_false hen];rfl,rfl⟩
     case rest =>
      obtain ⟨rfl,hw⟩:=hcut;subst hw;clear hc
      go_upto_if 41 with fail
      go_cut [6,7] (fun vl nx wx => ∃ (e ln cl:Nat) (pl:Option Addr),e≤n∧nx=.int .i64 (e:Int)∧vl=.slice pl ln cl∧Hid (PlR15 At w wx w.heap.size xs pl ln cl e))
      case first =>
       cases G with
       | true =>
         have hen:e < n:=by
          have h1:=HG.out;rw [Bool.and_eq_true,decide_eq_true_eq] at h1;exact h1.2
         have henz:(e:Int) < (n:Int):=by omega
         obtain ⟨b,o,rfl,hbw,_,hc⟩:=(HMA.out.below HP.out.q.bel).cells4n hen;obtain ⟨y,hy⟩:∃ y,xs.getD e zeroEn=y:=⟨_,rfl⟩;have hyx:y ∈ xs:=by rw [← hy];exact getEn_mem xs e (by rw [HXL.out];exact hen)
         rw [hy] at hc;obtain ⟨c0,c1,c2,c3⟩:=hc;have hpu:=HC.out.push y HP.out.q.at_ ((HXD.out y hyx).below HP.out.q.bel) (HXR.out y hyx) (by rw [HP.out.len,HLL.out];omega)
         unfold EP.cs entC at hpu;have HPU:=Lib.hid hpu;have HY:=Lib.hid (And.intro hy hyx);clear hbw hy hyx hpu
         go_wp2_with fail
         refine HPU.out.mono ?_
         rintro e5 w5 ⟨own5,rfl,ha5,hs5,hk5⟩;obtain ⟨hq5,hr5,hs5'⟩:=HP.out.chg ha5 hs5 hk5;obtain ⟨b',o',he',hbw,_,hc⟩:=(HMA.out.below hq5.bel).cells4n hen
         cases he'
         rw [HY.out.1] at hc;clear c0 c1 c2 c3;obtain ⟨c0,c1,c2,c3⟩:=hc;obtain ⟨W6,hW6⟩:∃ W6,w5.alloc (.cells #[.string (str y.m.it.key),.int .i64 y.m.it.seq,.slice y.p y.m.it.data.length y.c,.int .i64 y.m.run] 34)=W6:=⟨_,rfl⟩;have hk6:Kept noneB w5 W6:=by rw [← hW6];exact (Kept.refl _ _).alloc _
         have HB6:Hid (Blk W6 w5.heap.size 34 y.cs):=Lib.hid (by rw [← hW6];exact Blk.new w5 _ _)
         have HQ6:=Lib.hid (hq5.none_ HC.out hk6);have HR6:Hid (W6.ownsRow w.heap.size 34 4 (.slice pl ln cl) l.length (flatEn l)):=Lib.hid (ownsRow_kept hr5 hk6 (fun _ _ h => h))
         have HS6:=Lib.hid hs5';have hls:l.length≤1000000:=by rw [HLL.out];omega
         clear ha5 hs5 hk5 hq5 hr5 hs5' hbw hk6 HPU
         go_wp2_with (at_builtin;refine append_ent rfl _ _ rfl w.heap.size (.slice pl ln cl) l rfl HR6.out w5.heap.size 1 y rfl HB6.out hls HQ6.out.bel.size ?_)
         intro v7 w7 hown7 hgrow7 hnew7;have hk7:Kept (fun b => (Value.slice pl ln cl).ownBlock=some b) W6 w7:=(Kept.refl _ W6).grown hgrow7 (fun k hk => .inr hk)
         have hq7:=HQ6.out.off HC.out hk7 (fun b hb => (HR6.out.lt b hb).1) (fun b ho hb => HS6.out b hb ho)
         have hp7:Pl15 At w w7 w.heap.size own5 (y.m :: L) v7 (l++[y]) xs:=⟨hq7,by rw [List.length_append];exact hown7,fun b hb ho => by
          rcases hnew7 b hb with h1 | h1
          ·exact HS6.out b h1 ho
          ·have:=(HC.out.lt HQ6.out.at_).2 b ho;omega,by
          rw [List.map_append];exact (HP.out.perm.cons _).trans (List.perm_append_comm (l₁:=[y.m])),fun z hz => by
          rcases List.mem_append.1 hz with hz | hz
          ·exact HP.out.inl z hz
          ·rw [List.mem_singleton.1 hz];exact HY.out.2⟩
         obtain ⟨p7,c7,hv7,_,_,_⟩:=hp7.ents HXD.out;have hl7:(l++[y]).length=ln+1:=by rw [List.length_append,HLL.out];rfl
         rw [hl7] at hv7;subst hv7;have HN:Hid (PlR15 At w w7 w.heap.size xs p7 (ln+1) c7 (e+1)):=Lib.hid ⟨_,_,_,hp7,hl7,by omega⟩
         clear hown7 hgrow7 hnew7 hk7 hq7 hp7 hl7 HB6 HQ6 HR6 HS6 hW6 c0 c1 c2 c3
         go_wp2
         go_meet
         exact ⟨e+1,ln+1,c7,p7,by omega,by go_num,rfl,HN⟩
       | false =>
         obtain ⟨pv,cv,hv,hlc,hcm,hea⟩:=HP.out.ents HXD.out;rw [HLL.out] at hv hlc hea
         injection hv with hv1 _ hv3
         subst hv1;subst hv3;have HTK:=Lib.hid (take15_any pl ln cl l wr hea (by omega))
         clear hea
         go_wp2_with fail
         refine HTK.out.mono ?_
         rintro e5 w5 ⟨j,rfl,hj,hb5⟩;have hp5:=HP.out.below HC.out hb5;clear hb5 HTK
         by_cases hL:ln=0
         ·obtain rfl:L=[]:=List.eq_nil_of_length_eq_zero (by rw [hp5.len,HLL.out];exact hL)
          obtain rfl:j = -1:=by
           rcases hj with h | ⟨_,_,h,_⟩
           ·exact h.2
           ·omega
          have HLE:=Lib.hid (HC.out.leastn hp5.q.at_);have HL0:=Lib.hid hL;clear hL;have HP5:=Lib.hid hp5;clear hp5 hj HP
          go_wp2_with fail
          refine HLE.out.mono ?_
          rintro e6 w6 ⟨rfl,hk6⟩;have hp6:=HP5.out.none_ HC.out hk6;obtain ⟨V6,hV6⟩:∃ V6,w6.alloc (.cells #[.string ⟨#[]⟩,.int .i64 0,.slice none 0 0,.int .i64 0] 34)=V6:=⟨_,rfl⟩;have hp7:Pl15 At w V6 w.heap.size own [] (.slice pl ln cl) l xs:=by rw [← hV6];exact hp6.none_ HC.out ((Kept.refl noneB w6).alloc _)
          have HPN:=Lib.hid (HC.out.popn hp7.q.at_);have HP7:=Lib.hid hp7;have HV6:=Lib.hid hV6;clear hk6 hp6 hp7 hV6 HLE HP5
          go_wp2_with fail
          rw [HV6.out];refine HPN.out.mono ?_
          rintro e7 w7 ⟨rfl,hk7⟩;have hp8:=HP7.out.none_ HC.out hk7;obtain ⟨V7,hV7⟩:∃ V7,w7.alloc (.cells #[.string ⟨#[]⟩,.int .i64 0,.slice none 0 0,.int .i64 0] 34)=V7:=⟨_,rfl⟩;have hp9:Pl15 At w V7 w.heap.size own [] (.slice pl ln cl) l xs:=by rw [← hV7];exact hp8.none_ HC.out ((Kept.refl noneB w7).alloc _)
          have HN:Hid (PlR15 At w V7 w.heap.size xs pl ln cl e):=Lib.hid ⟨_,_,_,hp9,HLL.out,hle⟩;have HV7:=Lib.hid hV7;clear hk7 hp8 hp9 hV7 HP7 HPN HV6
          go_upto_region 16 with fail
          rw [HV7.out];clear HV7
          go_wp2
          go_meet
          exact ⟨e,ln,cl,pl,he,rfl,rfl,HN⟩
         ·obtain ⟨k,rfl⟩:∃ k:Nat,j=(k:Int):=by
           rcases hj with h | ⟨k,h,_⟩
           ·omega
           ·exact ⟨k,h⟩
          have hj2:TakeAt (l.map EP.m) (l.map EP.m).length (k:Int):=by rw [List.length_map,HLL.out];exact hj
          obtain ⟨hkl,hmin⟩:=hj2.least;rw [List.length_map,HLL.out] at hkl;obtain ⟨v,hvv⟩:∃ v,l.getD k zeroEn=v:=⟨_,rfl⟩;have hvl:v ∈ l:=by rw [← hvv];exact getEn_mem l k (by rw [HLL.out];exact hkl)
          rw [getEn_map,hvv] at hmin;have hkz:(0:Int)≤(k:Int):=by omega
          have hkz2:(k:Int) < (ln:Int):=by omega
          have hLpos:0 < L.length:=by rw [hp5.len,HLL.out];omega
          have hL5:L.length≤100000:=by rw [hp5.len,HLL.out];omega
          have HLE:=Lib.hid (HC.out.least hp5.q.at_ hL5 hLpos);have HP5:=Lib.hid hp5;have HVV:=Lib.hid (And.intro hvv (And.intro hvl hmin));clear hp5 hj hj2 hvv hvl hmin HP hcm
          go_wp2_with fail
          refine HLE.out.mono ?_
          rintro e6 w6 ⟨y,rfl,hyL,hyl,hk6⟩;have hp6:=HP5.out.none_ HC.out hk6;obtain ⟨V6,hV6⟩:∃ V6,w6.alloc (.cells #[.string (str y.m.it.key),.int .i64 y.m.it.seq,.slice y.p y.m.it.data.length y.c,.int .i64 y.m.run] 34)=V6:=⟨_,rfl⟩;have hp7:Pl15 At w V6 w.heap.size own L (.slice pl ln cl) l xs:=by rw [← hV6];exact hp6.none_ HC.out ((Kept.refl noneB w6).alloc _)
          have hy7:Blk V6 w6.heap.size 34 y.cs:=by rw [← hV6];exact Blk.new w6 _ _
          have hyn:¬ own w6.heap.size:=fun ho => Nat.lt_irrefl _ ((HC.out.lt hp6.q.at_).2 _ ho)
          have HPO:=Lib.hid (HC.out.pop hp7.q.at_ hL5 hLpos);have HP7:=Lib.hid hp7;have HY7:=Lib.hid (And.intro hy7 hyn);have HYL:=Lib.hid (And.intro hyL hyl);clear hk6 hp6 hp7 hy7 hyn hyL hyl HLE HP5;unfold EP.cs entC
          go_upto_region 15 with fail
          clear hV6
          go_wp2_with fail
          refine HPO.out.mono ?_
          rintro e7 w7 ⟨x,L7,own7,rfl,hpx,hxl,ha7,hs7,hk7,hxd7⟩;obtain ⟨hq7,hr7,hsep7⟩:=HP7.out.chg ha7 hs7 hk7;have hy8:=HY7.out.1.keptS hk7 HY7.out.2;obtain ⟨V8,hV8⟩:∃ V8,w7.alloc (.cells #[.string (str x.m.it.key),.int .i64 x.m.it.seq,.slice x.p x.m.it.data.length x.c,.int .i64 x.m.run] 34)=V8:=⟨_,rfl⟩;have hk8:Kept noneB w7 V8:=by rw [← hV8];exact (Kept.refl noneB w7).alloc _
          have hq8:=hq7.none_ HC.out hk8;have hr8:V8.ownsRow w.heap.size 34 4 (.slice pl ln cl) l.length (flatEn l):=ownsRow_kept hr7 hk8 (fun _ _ h => h)
          have hy9:=hy8.keptS hk8 (fun h => h)
          have hx9:Blk V8 w7.heap.size 34 x.cs:=by rw [← hV8];exact Blk.new w7 _ _
          have hxd8:DatE V8 x:=hxd7.kept hk8 (fun _ _ _ h => h)
          have hpm:L.Perm (l.map EP.m):=HP7.out.perm;have mem1:x.m ∈ L:=hpx.mem_iff.2 (List.mem_cons_self ..);have mem2:v.m ∈ l.map EP.m:=List.mem_map_of_mem HVV.out.2.1;have mem3:y.m ∈ L:=HYL.out.1;obtain ⟨l1,l2⟩:=least_one hxl HVV.out.2.2 hpm mem1 mem2;have l3:=hxl y.m mem3;have l4:=HYL.out.2 x.m mem1;have h1:=fun w => less15_any x v w
          have h2:=fun w => less15_any v x w
          have h3:=fun w => less15_any y x w
          have h4:=fun w => less15_any x y w
          simp only [l1,EP.cs,entC] at h1;simp only [l2,EP.cs,entC] at h2;simp only [l3,EP.cs,entC] at h3;simp only [l4,EP.cs,entC] at h4;have HL1:=Lib.hid h1;have HL2:=Lib.hid h2;have HL3:=Lib.hid h3;have HL4:=Lib.hid h4;obtain ⟨pw,cw,hw1,_,_,hea8⟩:=ents_own hr8 (fun z hz => (HXD.out z (HP7.out.inl z hz)).below hq8.bel)
          rw [HLL.out] at hw1 hea8
          injection hw1 with hw2 _ hw3
          subst hw2;subst hw3;have HEA8:=Lib.hid hea8;obtain ⟨bg,og,rfl,_,_,hcv⟩:=hea8.cells4n hkl;rw [HVV.out.1] at hcv;obtain ⟨d0,d1,d2,d3⟩:=hcv;have x0:=hx9.cell 0;have x1:=hx9.cell 1;have x2:=hx9.cell 2;have x3:=hx9.cell 3;have y0:=hy9.cell 0;have y1:=hy9.cell 1;have y2:=hy9.cell 2;have y3:=hy9.cell 3;simp only [EP.cs,entC,List.getElem?_toArray,List.getElem?_cons_zero,List.getElem?_cons_succ] at x0 x1 x2 x3 y0 y1 y2 y3;have sd0:=since_cell d0;have sd1:=since_cell d1;have sd2:=since_cell d2;have sd3:=since_cell d3;have sx0:=since_cell x0;have sx1:=since_cell x1
          have sx2:=since_cell x2;have sx3:=since_cell x3;have sy0:=since_cell y0;have sy1:=since_cell y1;have sy2:=since_cell y2;have sy3:=since_cell y3;have HQ8:=Lib.hid hq8;have HR8:=Lib.hid hr8;have HX9:=Lib.hid hx9;have HSP:=Lib.hid hsep7;have HPX:=Lib.hid hpx;have HXD8:=Lib.hid hxd8;have HPL:=Lib.hid HP7.out.inl;have HPM:=Lib.hid hpm;clear hpx hxl ha7 hs7 hk7 hq7 hr7 hsep7 hy8 hk8 hq8 hr8 hy9 hx9 hxd7 hxd8 hpm mem1 mem2 mem3 l1 l2 l3 l4 h1 h2 h3 h4 hea8 HPO HP7 HY7 d0 d1 d2 d3 x0 x1 x2 x3 y0 y1 y2 y3;unfold EP.cs entC
          go_upto_region 19 with fail
          clear hV8;refine wp_region_since (by kernel_rfl) (by kernel_rfl) ?_
          repeat (quiet_step (first
           | (go_at_call 11;with_reducible exact Calls.since_of (HL1.out _))
           | (go_at_call 11;with_reducible exact Calls.since_of (HL2.out _))
           | (go_at_call 11;with_reducible exact Calls.since_of (HL3.out _))
           | (go_at_call 11;with_reducible exact Calls.since_of (HL4.out _))))
          refine wpQuiet_nil ?_
          intro wq hw';have hwq:=since_bel hw';have hxq:=HX9.out.below hwq HX9.out.lt;have HQQ:=Lib.hid (HQ8.out.below HC.out hwq);have HRQ:Hid (wq.ownsRow w.heap.size 34 4 (.slice (some ⟨bg,og,none⟩) ln cl) l.length (flatEn l)):=Lib.hid (ownsRow_kept HR8.out (Kept.of_below hwq noneB) (fun _ _ h => h))
          have HEAQ:=Lib.hid (HEA8.out.below hwq);have HXQ:=Lib.hid hxq;have HXD1:Hid (DatE wq x):=Lib.hid (HXD8.out.below hwq);clear hw' hwq hxq sd0 sd1 sd2 sd3 sx0 sx1 sx2 sx3 sy0 sy1 sy2 sy3 HQ8 HR8 HX9 HEA8 HL1 HL2 HL3 HL4
          go_wp2_with fail
          go_loopw [14,15] (fun t j wz => ∃ (b:Nat) (u:Int),b≤ln∧j=.int .i64 (b:Int)∧t=.int .i64 u∧Hid (FindAt (l.map EP.m) x.m b u)∧Hid (Below wq.heap.size wq wz)) (fun _ j _ => ln - (RowKit.intOf j).toNat)
          case atStart => exact ⟨0,-1,Nat.zero_le _,rfl,rfl,Lib.hid (FindAt.start _ _),Lib.hid (Below.refl _ _)⟩
          case round =>
           obtain ⟨b,u,hb,rfl,rfl,hF,hB⟩:=hrel
           by_cases hbl:b < ln
           ·have hblz:(b:Int) < (ln:Int):=by omega
            obtain ⟨b2,o2,he2,_,_,hcz⟩:=(HEAQ.out.below hB.out).cells4n hbl
            cases he2
            obtain ⟨z,hz⟩:∃ z,l.getD b zeroEn=z:=⟨_,rfl⟩;have hzl:z ∈ l:=by rw [← hz];exact getEn_mem l b (by rw [HLL.out];exact hbl)
            rw [hz] at hcz;have HZ:Hid ((l.map EP.m).getD b zeroV15=z.m):=Lib.hid (by rw [getEn_map,hz])
            have hzd:DatE wr z:=(HXD.out z (HPL.out z hzl)).below (HQQ.out.bel.trans (hB.out.mono HQQ.out.bel.size));have hxd:=HXD1.out.below hB.out;obtain ⟨z0,z1,z2,z3⟩:=hcz;have hxb:=HXQ.out.below hB.out HXQ.out.lt;have x0:=hxb.cell 0;have x1:=hxb.cell 1;have x2:=hxb.cell 2;have x3:=hxb.cell 3;simp only [EP.cs,entC,List.getElem?_toArray,List.getElem?_cons_zero,List.getElem?_cons_succ] at x0 x1 x2 x3;have sz0:=since_cell z0;have sz1:=since_cell z1;have sz2:=since_cell z2;have sz3:=since_cell z3;have sx0:=since_cell x0;have sx1:=since_cell x1;have sx2:=since_cell x2
            have sx3:=since_cell x3;obtain ⟨S,hS⟩:∃ S:Bool,decide (z.m.it=x.m.it)=S:=⟨_,rfl⟩
            have hsm:∀ p:Since wr,Calls Try.prog 12 #[.agg z.ip.cs,.agg x.ip.cs] p.w' fun e w' => e=.returned (.bool S)∧Below p.w'.heap.size p.w' w':=fun p => by
             have:=rsame_any z.ip x.ip p.w' (hzd.below p.bel).ip (hxd.below p.bel).ip;rw [show decide (z.ip.m=x.ip.m)=S from hS] at this
             exact this
            simp only [EP.ip,IP.cs,itmC] at hsm;have HSM:=Lib.hid hsm;have HS2:=Lib.hid hS;clear hz hzl hzd hxd z0 z1 z2 z3 hxb x0 x1 x2 x3 hsm hS
            by_cases hru:z.m.run=x.m.run
            ·have hrz:(z.m.run == x.m.run)=true:=by simpa using hru
             have HRU:=Lib.hid hru;clear hru
             go_upto_region 25 with fail
             refine wp_region_since (by kernel_rfl) (by kernel_rfl) ?_
             repeat (quiet_step (first
              | (go_at_call 12;exact Calls.since_of (HSM.out _))))
             refine wpQuiet_nil ?_
             intro wy hwy;have hby:=since_bel hwy;have HBY:=Lib.hid (hB.out.trans (hby.mono hB.out.size));clear hwy hby sz0 sz1 sz2 sz3 sx0 sx1 sx2 sx3 HSM
             cases S with
             | true =>
               have HF2:Hid (FindAt (l.map EP.m) x.m (b+1) (b:Int)):=Lib.hid (FindAt.yes (by
                rw [HZ.out];have h1:=of_decide_eq_true HS2.out;have h2:=HRU.out;obtain ⟨⟨zi,zr⟩,zp,zc⟩:=z;obtain ⟨⟨xi,xr⟩,xp,xc⟩:=x
                dsimp only at h1 h2 ⊢
                rw [h1,h2]))
               go_wp2
               go_roundw
               case rel => exact ⟨b+1,b,by omega,by go_num,rfl,HF2,HBY⟩
               case measure => simp [RowKit.intOf];omega
             | false =>
               have HF2:Hid (FindAt (l.map EP.m) x.m (b+1) u):=Lib.hid (hF.out.no (by
                rw [HZ.out]
                exact fun h => of_decide_eq_false HS2.out (by rw [h])))
               go_wp2
               go_roundw
               case rel => exact ⟨b+1,u,by omega,by go_num,rfl,HF2,HBY⟩
               case measure => simp [RowKit.intOf];omega
            ·have hrz:(z.m.run == x.m.run)=false:=by simpa using hru
             have HF2:Hid (FindAt (l.map EP.m) x.m (b+1) u):=Lib.hid (hF.out.no (by
              rw [HZ.out]
              exact fun h => hru (by rw [h])))
             clear hru
             go_upto_region 25 with fail
             refine wp_region_since (by kernel_rfl) (by kernel_rfl) ?_
             repeat (quiet_step (first
              | (go_at_call 12;exact Calls.since_of (HSM.out _))))
             refine wpQuiet_nil ?_
             intro wy hwy;have hby:=since_bel hwy;have HBY:=Lib.hid (hB.out.trans (hby.mono hB.out.size));clear hwy hby sz0 sz1 sz2 sz3 sx0 sx1 sx2 sx3 HSM
             go_wp2
             go_roundw
             case rel => exact ⟨b+1,u,by omega,by go_num,rfl,HF2,HBY⟩
             case measure => simp [RowKit.intOf];omega
           ·obtain rfl:b=ln:=by omega
            have hks:¬ ((b:Int) < (b:Int)):=by omega
            obtain ⟨wz,rfl⟩:∃ x,x=wr:=⟨_,rfl⟩;obtain ⟨n0,rfl,hn0,_,hp7⟩:=FindAt.took (l:=l.map EP.m) (L:=L) (L':=L7) (x:=x.m) (by rw [List.length_map,HLL.out];exact hF.out) HPM.out HPX.out
            rw [List.length_map,HLL.out] at hn0;have HP7:=Lib.hid hp7;have HQZ:=Lib.hid (HQQ.out.below HC.out hB.out);have HEAZ:=Lib.hid (HEAQ.out.below hB.out);have HWZ:Hid (w.heap.size≤wz.heap.size):=Lib.hid HQZ.out.bel.size;have HTL:Hid ((l.take n0).length=n0):=Lib.hid (by rw [List.length_take,HLL.out];omega)
            have HLT:Hid ((l.take n0++l.drop (n0+1)).length=n0+(b - (n0+1))):=Lib.hid (by rw [List.length_append,HTL.out,List.length_drop,HLL.out])
            have HKA:Hid (Kept noneB wz (wz.alloc (.cells #[] 34)).drew):=Lib.hid ((Kept.refl noneB wz).alloc _).drew;have HO1:Hid ((wz.alloc (.cells #[] 34)).drew.ownsRow w.heap.size 34 4 (.slice (some ⟨wz.heap.size,0,none⟩) 0 0) 0 (flatEn [])):=Lib.hid (World.ownsRow_made wz.drew #[] 0 HWZ.out (by decide) rfl:(wz.drew.alloc (.cells #[] 34)).ownsRow w.heap.size 34 4 (.slice (some ⟨wz.heap.size,0,none⟩) 0 0) 0 (flatEn []))
            have HEA1:Hid (EntsAt (wz.alloc (.cells #[] 34)).drew (some ⟨bg,og,none⟩) n0 (l.take n0)):=Lib.hid ((HEAZ.out.below (HKA.out.below (Nat.le_refl _) (fun _ h => h.elim))).drop (by omega))
            have HSZ:Hid (w.heap.size≤(wz.alloc (.cells #[] 34)).drew.heap.size):=Lib.hid (Nat.le_trans HWZ.out HKA.out.size);have hz0:¬ ((n0:Int) < 0):=by omega
            have hz1:(n0:Int)≤(cl:Int):=by omega
            have hz2:IntKind.i64.wrap ((n0:Int)+1)=((n0+1:Nat):Int):=by rw [IntKind.wrap_i64];omega
            have hz3:((n0+1:Nat):Int)≤(b:Int):=by omega
            have hz4:(b:Int)≤(cl:Int):=by omega
            have hz5:(n0:Int)≤(n0:Int)+1:=by omega
            have hz6:(0:Int)≤(n0:Int)+1:=by omega
            have hz7:(n0:Int)+1≤(b:Int):=by omega
            by_cases hce:cl=n0+1
            ·have HEA2:Hid (∀ w',Kept noneB wz w' → EntsAt w' (some ⟨bg,og,none⟩) (b - (n0+1)) (l.drop (n0+1))):=Lib.hid (fun w' hk => by
              have h1:b - (n0+1)=0:=by omega
              have h2:l.drop (n0+1)=[]:=List.drop_eq_nil_of_le (by rw [HLL.out];omega)
              rw [h1,h2]
              exact ents_nil _ _)
             clear hF hB hp7 HEAZ
             go_upto_region 29 with fail
             go_region_law (first
              | (refine step_ents (by kernel_rfl) (.tmp 130) (.tmp 133) (by rfl) w.heap.size _ 0 [] rfl (by rfl) HO1.out (some ⟨bg,og,none⟩) n0 (n0+1) (l.take n0) (by rfl) HEA1.out (by omega) HSZ.out ?_
                 intro v3 w3 hown hgrow hnew;have HKB:Hid (Kept noneB wz w3):=Lib.hid (HKA.out.grown hgrow (by intro k hk;simp [Value.ownBlock] at hk;omega))
                 have HV3:Hid (∀ k,v3.ownBlock=some k → wz.heap.size≤k):=Lib.hid (fun k hk => by
                  rcases hnew k hk with h1 | h1
                  ·simp [Value.ownBlock] at h1;omega
                  ·have:wz.heap.size≤(wz.alloc (.cells #[] 34)).drew.heap.size:=HKA.out.size
                   omega)
                 rw [Nat.zero_add,List.nil_append] at hown;obtain ⟨p3,c3,rfl⟩:=own_form15 hown;have HO3:=Lib.hid hown
                 clear hown hgrow hnew)
              | (refine step_ents (by kernel_rfl) (.tmp 134) (.tmp 138) (by rfl) w.heap.size _ n0 (l.take n0) HTL.out (by rfl) HO3.out (some ⟨bg,og,none⟩) (b - (n0+1)) 0 (l.drop (n0+1)) (by rfl) (HEA2.out _ HKB.out) (by omega) (Nat.le_trans HWZ.out HKB.out.size) ?_
                 intro v4 w4 hown hgrow hnew;have HKC:Hid (Kept noneB wz w4):=Lib.hid (HKB.out.grown hgrow (fun k hk => .inl (HV3.out k hk)))
                 have HV4:Hid (∀ k,v4.ownBlock=some k → wz.heap.size≤k):=Lib.hid (fun k hk => by
                  rcases hnew k hk with h1 | h1
                  ·exact HV3.out k h1
                  ·exact Nat.le_trans HKB.out.size h1)
                 obtain ⟨p4,c4,rfl⟩:=own_form15 hown;have HO4:=Lib.hid hown
                 clear hown hgrow hnew)
              | fail)
             all_goals (
              have HN:Hid (PlR15 At w w4 w.heap.size xs p4 (n0+(b - (n0+1))) c4 e):=Lib.hid ⟨own7,L7,l.take n0++l.drop (n0+1),⟨HQZ.out.none_ HC.out HKC.out,by rw [HLT.out];exact HO4.out,fun k hk ho => by
               have h1:=HV4.out k hk;have h2:=(HC.out.lt HQZ.out.at_).2 k ho;omega,by rw [List.map_append,List.map_take,List.map_drop];exact HP7.out,fun z hz => by
               rcases List.mem_append.1 hz with hz | hz
               ·exact HPL.out z (List.mem_of_mem_take hz)
               ·exact HPL.out z (List.mem_of_mem_drop hz)⟩,HLT.out,by omega⟩
              clear HO1 HEA1 HEA2 HKA HSZ HO3 HO4 HKB HKC HV3 HV4
              go_wp2
              go_meet
              exact ⟨e,n0+(b - (n0+1)),c4,p4,he,rfl,rfl,HN⟩)
            ·have HEA2:Hid (∀ w',Kept noneB wz w' → EntsAt w' (some ⟨bg,og+(n0+1) * 4,none⟩) (b - (n0+1)) (l.drop (n0+1))):=Lib.hid (fun w' hk => (HEAZ.out.below (hk.below (Nat.le_refl _) (fun _ h => h.elim))).from_ (by omega))
             clear hF hB hp7 HEAZ
             go_upto_region 29 with fail
             go_region_law (first
              | (refine step_ents (by kernel_rfl) (.tmp 130) (.tmp 133) (by rfl) w.heap.size _ 0 [] rfl (by rfl) HO1.out (some ⟨bg,og,none⟩) n0 cl (l.take n0) (by rfl) HEA1.out (by omega) HSZ.out ?_
                 intro v3 w3 hown hgrow hnew;have HKB:Hid (Kept noneB wz w3):=Lib.hid (HKA.out.grown hgrow (by intro k hk;simp [Value.ownBlock] at hk;omega))
                 have HV3:Hid (∀ k,v3.ownBlock=some k → wz.heap.size≤k):=Lib.hid (fun k hk => by
                  rcases hnew k hk with h1 | h1
                  ·simp [Value.ownBlock] at h1;omega
                  ·have:wz.heap.size≤(wz.alloc (.cells #[] 34)).drew.heap.size:=HKA.out.size
                   omega)
                 rw [Nat.zero_add,List.nil_append] at hown;obtain ⟨p3,c3,rfl⟩:=own_form15 hown;have HO3:=Lib.hid hown
                 clear hown hgrow hnew)
              | (refine step_ents (by kernel_rfl) (.tmp 134) (.tmp 138) (by rfl) w.heap.size _ n0 (l.take n0) HTL.out (by rfl) HO3.out (some ⟨bg,og+(n0+1) * 4,none⟩) (b - (n0+1)) (cl - (n0+1)) (l.drop (n0+1)) (by rfl) (HEA2.out _ HKB.out) (by omega) (Nat.le_trans HWZ.out HKB.out.size) ?_
                 intro v4 w4 hown hgrow hnew;have HKC:Hid (Kept noneB wz w4):=Lib.hid (HKB.out.grown hgrow (fun k hk => .inl (HV3.out k hk)))
                 have HV4:Hid (∀ k,v4.ownBlock=some k → wz.heap.size≤k):=Lib.hid (fun k hk => by
                  rcases hnew k hk with h1 | h1
                  ·exact HV3.out k h1
                  ·exact Nat.le_trans HKB.out.size h1)
                 obtain ⟨p4,c4,rfl⟩:=own_form15 hown;have HO4:=Lib.hid hown
                 clear hown hgrow hnew)
              | fail)
             all_goals (
              have HN:Hid (PlR15 At w w4 w.heap.size xs p4 (n0+(b - (n0+1))) c4 e):=Lib.hid ⟨own7,L7,l.take n0++l.drop (n0+1),⟨HQZ.out.none_ HC.out HKC.out,by rw [HLT.out];exact HO4.out,fun k hk ho => by
               have h1:=HV4.out k hk;have h2:=(HC.out.lt HQZ.out.at_).2 k ho;omega,by rw [List.map_append,List.map_take,List.map_drop];exact HP7.out,fun z hz => by
               rcases List.mem_append.1 hz with hz | hz
               ·exact HPL.out z (List.mem_of_mem_take hz)
               ·exact HPL.out z (List.mem_of_mem_drop hz)⟩,HLT.out,by omega⟩
              clear HO1 HEA1 HEA2 HKA HSZ HO3 HO4 HKB HKC HV3 HV4
              go_wp2
              go_meet
              exact ⟨e,n0+(b - (n0+1)),c4,p4,he,rfl,rfl,HN⟩)
      case rest =>
       clear HP HLL hle HG;obtain ⟨w2,rfl⟩:∃ x,x=wc:=⟨_,rfl⟩;obtain ⟨e2,ln2,cl2,pl2,he2,rfl,rfl,hP⟩:=hcut;obtain ⟨own2,L2,l2,hp,hll,hle⟩:=hP.out;have hlen:=HC.out.len hp.q.at_ (by rw [hp.len,hll];omega)
       rw [hp.len,hll] at hlen;have HP:=Lib.hid hp;have HLN:=Lib.hid hlen;have HLL:=Lib.hid hll;clear hP hp hll hlen
       go_wp2_with fail
       refine HLN.out.mono ?_
       rintro e w3 ⟨rfl,hk⟩;have HN:Hid (PlR15 At w w3 w.heap.size xs pl2 ln2 cl2 e2):=Lib.hid ⟨_,_,_,HP.out.none_ HC.out hk,HLL.out,hle⟩;clear hk
       go_wp2
       go_roundw
       case rel => exact ⟨a+1,e2,ln2,cl2,pl2,by omega,he2,by go_num,rfl,rfl,HN⟩
       case measure => simp [RowKit.intOf];omega
    ·obtain rfl:a=m:=by omega
     have hks:¬ ((a:Int) < (a:Int)):=by omega
     have HAV:=Lib.hid (HAN.out wr)
     go_wp2_with fail
     refine HAV.out.mono ?_
     rintro e w2 ⟨rfl,hb⟩;have HB:=Lib.hid (HP.out.q.bel.trans (hb.mono HP.out.q.bel.size));clear hb
     go_wp2
     go_ret
     exact ⟨rfl,HB.out⟩
  ·have hn1:¬ ((100:Int) < (n:Int)):=by omega
   have hm1:(300:Int) < (m:Int):=by omega
   go_enter Try.func3,Try.ntmps3
   go_wp2_with fail
   refine HAW.out.mono ?_
   rintro e w2 ⟨rfl,hk⟩;have HK:=Lib.hid hk;clear hk
   go_wp2
   go_ret
   exact ⟨rfl,HK.out⟩
 ·have hn1:(100:Int) < (n:Int):=by omega
  go_enter Try.func3,Try.ntmps3
  go_wp2_with fail
  refine HAW.out.mono ?_
  rintro e w2 ⟨rfl,hk⟩;have HK:=Lib.hid hk;clear hk
  go_wp2
  go_ret
  exact ⟨rfl,HK.out⟩
end Go.Proofs.Ytphehianajckaaa.Walk
end
section
namespace Go.Proofs.Ytphehianajckaaa.Walk
open Go.ChangeShapes Go.WideShapes Go.ChangeAt Go.RowKit Base Byt Txt Bk Mem Tre Itm Hea Go.Lib
set_option linter.unusedVariables false
theorem heapPlays (p:Option Addr) (n c:Nat) (xs:List EP) (q:Option Addr) (m d:Nat) (T:Nat → Bool) (w:World) (ma:EntsAt w p n xs) (lc:n≤c) (cm:c≤maxLen) (by0:c * 56≤140737488351232) (rm:∀ x ∈ xs,WfE x.m∧RoomE x)
 (w1:0 < m → ∃ b o,q=some ⟨b,o,none⟩∧b < w.heap.size ∧ ∀ i,i < m → w.cell? ⟨b,o+i,none⟩=some (.bool (T i))) (c1:m≤d∧d≤maxLen) :
 Calls Try.prog 3 #[.slice p n c,.slice q m d] w fun e w' => e=.returned (.bool true)∧Below w.heap.size w w':=heapPlaysC heaC p n c xs q m d T w ma lc cm by0 rm w1 c1
end Go.Proofs.Ytphehianajckaaa.Walk
end
