/- Texts of this seat, merged: what the proof reaches. -/
import Derived.Test.YtpdpgjilalojjaaRecOrdersX15
import Derived.Test.YtpdpgjilalojjaaRecOrdersX4
import Derived.Deep.RegionHeldLaw
import Derived.Deep.DeepCutAuto
import Derived.Test.YtpdpgjilalojjaaRecOrdersX9
import Derived.Test.YtpdpgjilalojjaaRecOrdersX7
import Derived.Test.YtpdpgjilalojjaaRecOrdersX11
import Derived.Laws.BitsLemmas
import Derived.Deep.RegionLaw
import Derived.Test.YtpdpgjilalojjaaRecOrdersX8
namespace Go.Proofs.Ytpdpgjilalojjaa
namespace Base
end Base
namespace Bk
end Bk
namespace Block
end Block
namespace Byt
end Byt
namespace Mem
end Mem
namespace Num
end Num
namespace Rec
end Rec
namespace Tre
end Tre
namespace Txt
end Txt
end Go.Proofs.Ytpdpgjilalojjaa
section
namespace Go.Proofs.Ytpdpgjilalojjaa.Itm
open Go.ChangeShapes Go.WideShapes Go.ChangeAt Go.RowKit Base Byt Txt Bk Rec Block Mem Tre Go.Lib
set_option linter.unusedVariables false
set_option maxRecDepth 100000
structure OwnJ (w wr:World) (xs:List IP) (k:Nat) (o:Value) (ys:List IP):Prop where
 bel:Below w.heap.size w wr
 row:wr.ownsRow w.heap.size 24 3 o ys.length (flatJ ys)
 len:ys.length=k
 same:ys.map IP.m=(xs.take k).map IP.m
 bodies:∀ y ∈ ys,DatAt wr y
 off:∀ y ∈ ys,0 < y.m.data.length → ∀ z,y.p=some z → o.ownBlock≠some z.block
 new:∀ y ∈ ys,0 < y.m.data.length → ∀ z,y.p=some z → w.heap.size≤z.block
 blk:∀ y ∈ ys,0 < y.m.data.length → ∀ z,y.p=some z → ∃ cur,Blk wr z.block 5 cur
section
variable {w wr w':World} {xs ys:List IP} {k:Nat} {o:Value}
theorem OwnJ.below (h:OwnJ w wr xs k o ys) (hb:Below wr.heap.size wr w'):OwnJ w w' xs k o ys where
 bel:=h.bel.trans (hb.mono h.bel.size)
 row:=row_below h.row hb
 len:=h.len
 same:=h.same
 bodies:=fun y hy => (h.bodies y hy).below hb
 off:=h.off
 new:=h.new
 blk:=fun y hy h0 z hz => by
  obtain ⟨cur,hc⟩:=h.blk y hy h0 z hz;exact ⟨cur,hc.below hb hc.lt⟩
theorem OwnJ.add (h:OwnJ w wr xs k o ys) (hk:k < xs.length) {y:IP} (hy:y.m=(xs.getD k zeroJ).m) (hb:DatAt wr y) (ho:0 < y.m.data.length → ∀ z,y.p=some z → o.ownBlock≠some z.block) (hw:0 < y.m.data.length → ∀ z,y.p=some z → w.heap.size≤z.block) (hk8:0 < y.m.data.length → ∀ z,y.p=some z → ∃ cur,Blk wr z.block 5 cur)
 {o':Value} (hrow:w'.ownsRow w.heap.size 24 3 o' (ys++[y]).length (flatJ (ys++[y]))) (hg:wr.grownBy w' o.ownBlock) (hn:NewOr wr o o'):OwnJ w w' xs (k+1) o' (ys++[y]):=by
 have hK:Kept (fun b => o.ownBlock=some b) wr w':=(Kept.refl _ wr).grown hg (fun k hk => .inr hk)
 have lt:∀ {b:Nat},o'.ownBlock=some b → b < wr.heap.size → o.ownBlock=some b:=fun hb hlt => by
  rcases hn _ hb with h | h
  ·exact h
  ·omega
 have all:∀ x ∈ ys++[y],DatAt wr x∧(0 < x.m.data.length → ∀ z,x.p=some z → o.ownBlock≠some z.block):=fun x hx => by
  rcases List.mem_append.1 hx with hx | hx
  ·exact ⟨h.bodies x hx,h.off x hx⟩
  ·rw [List.mem_singleton.1 hx]
   exact ⟨hb,ho⟩
 exact
 { bel:=h.bel.trans (hK.below h.bel.size (fun k hk => (World.ownsRow.lt h.row _ hk).1))
   row:=hrow
   len:=by rw [List.length_append,h.len];rfl
   same:=by rw [List.map_append,h.same,takeJ_succ xs k hk,← hy];rfl
   bodies:=fun x hx => (all x hx).1.kept hK (fun h0 z hz => (all x hx).2 h0 z hz)
   off:=fun x hx h0 z hz e => (all x hx).2 h0 z hz (lt e (bat_lt (all x hx).1.bat h0 hz))
   new:=fun x hx h0 z hz => by
    rcases List.mem_append.1 hx with hx | hx
    ·exact h.new x hx h0 z hz
    ·rw [List.mem_singleton.1 hx] at h0 hz;exact hw h0 z hz
   blk:=fun x hx h0 z hz => by
    have h1:∃ cur,Blk wr z.block 5 cur:=by
     rcases List.mem_append.1 hx with hx | hx
     ·exact h.blk x hx h0 z hz
     ·rw [List.mem_singleton.1 hx] at h0 hz;exact hk8 h0 z hz
    obtain ⟨cur,hc⟩:=h1
    exact ⟨cur,hc.keptS hK (fun e => (all x hx).2 h0 z hz e)⟩ }
end
end Go.Proofs.Ytpdpgjilalojjaa.Itm
end
section
namespace Go.Proofs.Ytpdpgjilalojjaa.Itm
open Go.ChangeShapes Go.WideShapes Go.ChangeAt Go.RowKit Base Byt Txt Bk Go.Lib
set_option linter.unusedVariables false
set_option maxRecDepth 100000
def PutIPost (w:World) (m:ItemV) (e:Ending) (w':World):Prop:=
 (mayI m=true ∧ ∃ p c,e=.returned (.tuple #[.slice p (bytesI m).length c,.bool true])∧(bytesI m).length≤c∧c≤maxLen∧BAt w' p (bytesI m).length (bytesI m)∧Below w.heap.size w w') ∨
 (mayI m=false ∧ ∃ p c,e=.returned (.tuple #[.slice p 0 c,.bool false])∧Below w.heap.size w w')
def GetIPost (w:World) (bs:List UInt8) (e:Ending) (w':World):Prop:=
 ∃ q d,e=.returned (.tuple #[.agg (itmC (beginsI bs).1 q d),.int .i64 ((beginsI bs).2.1:Nat),.bool (beginsI bs).2.2])∧DatAt w' ⟨(beginsI bs).1,q,d⟩∧Below w.heap.size w w'
structure ItmC4:Prop where
 put:∀ (w:World) (x:IP),DatAt w x → WfI x.m → x.m.key.length≤140737488351232 → x.m.data.length≤140737488351232 → Calls Try.prog 10 #[.agg x.cs] w (PutIPost w x.m)
 get:∀ (w:World) (p:Option Addr) (n c:Nat) (bs:List UInt8),BAt w p n bs → bs.length=n → n≤c → c≤maxLen → n≤140737488351232 → Calls Try.prog 12 #[.slice p n c] w (GetIPost w bs)
 less:∀ (w:World) (x y:IP),DatAt w x → DatAt w y → Calls Try.prog 16 #[.agg x.cs,.agg y.cs] w fun e w' => e=.returned (.bool (lessI x.m y.m))∧Below w.heap.size w w'
 same:∀ (w:World) (x y:IP),DatAt w x → DatAt w y → Calls Try.prog 18 #[.agg x.cs,.agg y.cs] w fun e w' => e=.returned (.bool (decide (x.m=y.m)))∧Below w.heap.size w w'
end Go.Proofs.Ytpdpgjilalojjaa.Itm
end
section
namespace Go.Proofs.Ytpdpgjilalojjaa.Itm
open Go.ChangeShapes Go.WideShapes Go.ChangeAt Go.RowKit Base Num Byt Txt Bk Rec Block Tre Go.Lib
set_option linter.unusedVariables false
set_option maxRecDepth 100000
theorem strL_eq (a b:List UInt8):((str a).toList == (str b).toList)=decide (a=b):=by
 rw [str_toList,str_toList]
 by_cases h:a=b<;>simp [h]
set_option maxHeartbeats 1000000 in
theorem rless_any (x y:IP) (w:World) :
 Calls Try.prog 17 #[.agg x.cs,.agg y.cs] w fun e w' => e=.returned (.bool (lessI x.m y.m))∧Below w.heap.size w w':=by
 obtain ⟨⟨k,s,d⟩,p,c⟩:=x;obtain ⟨⟨k2,s2,d2⟩,p2,c2⟩:=y;obtain ⟨L,hL⟩:∃ L,lessI ⟨k,s,d⟩ ⟨k2,s2,d2⟩=L:=⟨_,rfl⟩
 have HL:Hid (L=(ltB k k2 || (decide (k=k2) && decide (s < s2)))):=Lib.hid (by
  rw [← hL];unfold lessI
  congr 2
  by_cases h:k=k2<;>simp [h])
 have t1:Op.bytesLess (str k).toList (str k2).toList=ltB k k2:=by rw [str_toList,str_toList];rfl
 have t2:=strL_eq k k2;obtain ⟨D,hD⟩:∃ D,d.length=D:=⟨_,rfl⟩;obtain ⟨D2,hD2⟩:∃ D2,d2.length=D2:=⟨_,rfl⟩;unfold IP.cs itmC
 dsimp only
 rw [hL,hD,hD2];clear hL hD hD2;obtain ⟨A,hA⟩:∃ A,ltB k k2=A:=⟨_,rfl⟩;obtain ⟨B,hB⟩:∃ B,decide (k=k2)=B:=⟨_,rfl⟩;rw [hA] at t1;rw [hB] at t2;rw [hA,hB] at HL;clear hA hB;obtain ⟨W0,hW0⟩:∃ W0,w.alloc (.cells #[.string (str k),.int .i64 s,.slice p D c] 24)=W0:=⟨_,rfl⟩;have b0:Below w.heap.size w W0:=by rw [← hW0];exact (Below.refl _ _).alloc (Nat.le_refl _) _
 have x0:Blk W0 w.heap.size 24 #[.string (str k),.int .i64 s,.slice p D c]:=by rw [← hW0];exact Blk.new w _ _
 obtain ⟨W,hW⟩:∃ W,W0.alloc (.cells #[.string (str k2),.int .i64 s2,.slice p2 D2 c2] 24)=W:=⟨_,rfl⟩;have b1:Below W0.heap.size W0 W:=by rw [← hW];exact (Below.refl _ _).alloc (Nat.le_refl _) _
 have y1:Blk W W0.heap.size 24 #[.string (str k2),.int .i64 s2,.slice p2 D2 c2]:=by rw [← hW];exact Blk.new W0 _ _
 have x1:=x0.below b1 x0.lt;have a0:=x1.cell 0;have a1:=x1.cell 1;have c0:=y1.cell 0;have c1:=y1.cell 1;simp only [List.getElem?_toArray,List.getElem?_cons_zero,List.getElem?_cons_succ] at a0 a1 c0 c1;have HB:Hid (Below w.heap.size w W):=Lib.hid (b0.trans (b1.mono b0.size));clear b0 x0 b1 y1 x1
 go_enter Try.func17,Try.ntmps17
 go_upto_region 1 with fail
 clear hW0 hW
 cases A with
 | true =>
   go_wp2
   go_ret
   exact ⟨by rw [HL.out];rfl,HB.out⟩
 | false =>
   cases B with
   | false =>
     go_wp2
     go_ret
     exact ⟨by rw [HL.out];rfl,HB.out⟩
   | true =>
     by_cases hlt:s < s2
     ·have E:Hid (L=true):=Lib.hid (by rw [HL.out,decide_eq_true hlt];rfl)
      have z:decide (s < s2)=true:=decide_eq_true hlt
      go_wp2
      go_ret
      exact ⟨by rw [E.out];rfl,HB.out⟩
     ·have E:Hid (L=false):=Lib.hid (by rw [HL.out,decide_eq_false hlt];rfl)
      have z:decide (s < s2)=false:=decide_eq_false hlt;clear hlt
      go_wp2
      go_ret
      exact ⟨by rw [E.out];rfl,HB.out⟩
theorem sameI_iff (x y:ItemV):decide (x=y)=(decide (x.key=y.key) && (decide (x.seq=y.seq) && decide (x.data=y.data))):=by
 obtain ⟨a,b,c⟩:=x;obtain ⟨d,e,f⟩:=y
 by_cases h1:a=d<;>by_cases h2:b=e<;>by_cases h3:c=f<;>simp [h1,h2,h3]
set_option maxHeartbeats 1000000 in
theorem rsame_any (x y:IP) (w:World) (hx:DatAt w x) (hy:DatAt w y) :
 Calls Try.prog 14 #[.agg x.cs,.agg y.cs] w fun e w' => e=.returned (.bool (decide (x.m=y.m)))∧Below w.heap.size w w':=by
 have hbx:=hx.bat;have hby:=hy.bat;clear hx hy;obtain ⟨⟨k,s,d⟩,p,c⟩:=x;obtain ⟨⟨k2,s2,d2⟩,p2,c2⟩:=y;obtain ⟨L,hL⟩:∃ L,decide ((⟨k,s,d⟩:ItemV)=⟨k2,s2,d2⟩)=L:=⟨_,rfl⟩
 have HL:Hid (L=(decide (k=k2) && (decide (s=s2) && decide (d=d2)))):=Lib.hid (by
  rw [← hL,sameI_iff])
 have t2:=strL_eq k k2;have t3:=strL_eq d d2;unfold IP.cs itmC
 dsimp only at hbx hby ⊢
 rw [hL];clear hL;obtain ⟨W0,hW0⟩:∃ W0,w.alloc (.cells #[.string (str k),.int .i64 s,.slice p d.length c] 24)=W0:=⟨_,rfl⟩;have b0:Below w.heap.size w W0:=by rw [← hW0];exact (Below.refl _ _).alloc (Nat.le_refl _) _
 have x0:Blk W0 w.heap.size 24 #[.string (str k),.int .i64 s,.slice p d.length c]:=by rw [← hW0];exact Blk.new w _ _
 obtain ⟨W,hW⟩:∃ W,W0.alloc (.cells #[.string (str k2),.int .i64 s2,.slice p2 d2.length c2] 24)=W:=⟨_,rfl⟩;have b1:Below W0.heap.size W0 W:=by rw [← hW];exact (Below.refl _ _).alloc (Nat.le_refl _) _
 have y1:Blk W W0.heap.size 24 #[.string (str k2),.int .i64 s2,.slice p2 d2.length c2]:=by rw [← hW];exact Blk.new W0 _ _
 have x1:=x0.below b1 x0.lt;have hB:Below w.heap.size w W:=b0.trans (b1.mono b0.size);have v1:=conv_at (P:=Try.prog) (hbx.below hB) rfl _ _ _ Try.underlying22 Try.underlying5 Try.underlying9 c;have v2:=conv_at (P:=Try.prog) (hby.below hB) rfl _ _ _ Try.underlying22 Try.underlying5 Try.underlying9 c2;change _=Go.Result.ok (Value.string (str d)) W at v1;change _=Go.Result.ok (Value.string (str d2)) W at v2;obtain ⟨A,hA⟩:∃ A,decide (k=k2)=A:=⟨_,rfl⟩;obtain ⟨E,hE⟩:∃ E,decide (d=d2)=E:=⟨_,rfl⟩;rw [hA] at t2;rw [hE] at t3;rw [hA,hE] at HL;obtain ⟨D,hD⟩:∃ D,d.length=D:=⟨_,rfl⟩
 obtain ⟨D2,hD2⟩:∃ D2,d2.length=D2:=⟨_,rfl⟩;rw [hD] at hW0 x1 v1 ⊢;rw [hD2] at hW y1 v2 ⊢;have a0:=x1.cell 0;have a1:=x1.cell 1;have a2:=x1.cell 2;have c0:=y1.cell 0;have c1:=y1.cell 1;have c3:=y1.cell 2;simp only [List.getElem?_toArray,List.getElem?_cons_zero,List.getElem?_cons_succ] at a0 a1 a2 c0 c1 c3;have HB:=Lib.hid hB;clear b0 x0 b1 y1 x1 hB hA hE hbx hby hD hD2
 go_enter Try.func14,Try.ntmps14
 go_upto_region 1 with fail
 clear hW0 hW
 cases A with
 | false =>
   go_wp2
   go_ret
   exact ⟨by rw [HL.out];rfl,HB.out⟩
 | true =>
   by_cases hs:s=s2
   ·have z:decide (s=s2)=true:=decide_eq_true hs
    have E2:Hid (L=E):=Lib.hid (by rw [HL.out,z];cases E<;>rfl)
    go_wp2
    go_ret
    exact ⟨by rw [E2.out];rfl,HB.out⟩
   ·have z:decide (s=s2)=false:=decide_eq_false hs
    have E2:Hid (L=false):=Lib.hid (by rw [HL.out,z];rfl)
    go_wp2
    go_ret
    exact ⟨by rw [E2.out];rfl,HB.out⟩
end Go.Proofs.Ytpdpgjilalojjaa.Itm
end
section
namespace Go.Proofs.Ytpdpgjilalojjaa.Itm
open Go.ChangeShapes Go.WideShapes Go.ChangeAt Go.RowKit Base Num Byt Txt Bk Rec Block Tre Go.Lib
set_option linter.unusedVariables false
set_option maxRecDepth 100000
theorem be_get (k:Nat):∀ n i,i < k → (be k n).getD i 0=UInt8.ofNat (n / 2 ^ (8 * (k - 1 - i)) % 256):=by
 induction k with
 | zero => intro n i h;omega
 | succ k ih =>
   intro n i h
   by_cases hi:i=k
   ·subst hi
    rw [be,List.getD,List.getElem?_append_right (by rw [be_length];exact Nat.le_refl _),be_length,Nat.sub_self,show 8 * (i+1 - 1 - i)=0 by omega,Nat.pow_zero,Nat.div_one]
    rfl
   ·have h2:=ih (n / 256) i (by omega)
    rw [List.getD] at h2;rw [be,List.getD,List.getElem?_append_left (by rw [be_length];omega),h2,show 8 * (k+1 - 1 - i)=8+8 * (k - 1 - i) by omega,Nat.pow_add,← Nat.div_div_eq_div_mul]
theorem be_take_succ (k n i:Nat) (h:i < k):(be k n).take (i+1)=(be k n).take i++[UInt8.ofNat (n / 2 ^ (8 * (k - 1 - i)) % 256)]:=by
 rw [← be_get k n i h,List.take_add_one,List.getD,List.getElem?_eq_getElem (by rw [be_length];exact h)]
 rfl
theorem bat_one (w:World) (x:UInt8):BAt (w.alloc (.cells #[.int .u8 (x.toNat:Int)] 5)) (some ⟨w.heap.size,0,none⟩) 1 [x]:=fun _ => ⟨w.heap.size,0,rfl,fun i hi => by
 obtain rfl:i=0:=by omega
 rw [(Blk.new w _ _).cell]
 rfl⟩
def NumPost (W:World) (B:Nat) (m:Nat) (xs:List UInt8) (e:Ending) (w':World):Prop:=∃ v,e=.returned v∧OwnB w' B v m xs∧Below W.heap.size W w'
set_option maxHeartbeats 2000000 in
theorem numberI_any (W:World) (B:Nat) (hWB:W.heap.size≤B) (v:Value) (m:Nat) (xs:List UInt8) (size n:Nat) (si ni:Int) (hsi:si=(size:Int)) (hni:ni=(n:Int)) (w:World) (hown:OwnB w B v m xs) (hb:Below W.heap.size W w) (hB:B≤w.heap.size) (hm:m≤140737488300000) (hs:0 < size∧size≤8) (hn:n≤9223372036854775807) :
 Calls Try.prog 24 #[v,.int .i64 si,.int .i64 ni] w (NumPost W B (m+size) (xs++be size n)):=by
 subst hsi;subst hni;have HO:=Lib.hid hown;have HB:=Lib.hid hb;have HS:=Lib.hid (And.intro hWB hB);obtain ⟨hs0,hs8⟩:=hs;clear hown hb hWB hB
 go_enter Try.func24,Try.ntmps24
 go_wp2_with fail
 go_loopw [0,9] (fun b i wr => ∃ (k:Nat) (u:Value),k≤size∧b=u∧i=.int .i64 (k:Int)∧Hid (OwnB wr B u (m+k) (xs++(be size n).take k))∧Hid (Below W.heap.size W wr∧B≤wr.heap.size)) (fun _ i _ => size - (RowKit.intOf i).toNat)
 case atStart => exact ⟨0,v,Nat.zero_le _,rfl,rfl,Lib.hid (by rw [List.take_zero,List.append_nil];exact HO.out),Lib.hid ⟨HB.out,HS.out.2⟩⟩
 case round =>
  obtain ⟨k,u,hk,rfl,rfl,hO,hW⟩:=hrel
  by_cases hlt:k < size
  ·have hltz:(k:Int) < (size:Int):=by omega
   obtain ⟨s,hs⟩:∃ s,8 * (size - 1 - k)=s:=⟨_,rfl⟩;have hsz:(8:Int) * ((size:Int) - 1 - (k:Int))=(s:Int):=by omega
   have hs64:s < 64:=by omega
   obtain ⟨x,hX⟩:∃ x,UInt8.ofNat (n / 2 ^ s % 256)=x:=⟨_,rfl⟩
   have hXZ:((n:Int) / 2 ^ s) % 256=(x.toNat:Int):=by
    rw [← hX];simp
   have HT:Hid ((be size n).take (k+1)=(be size n).take k++[x]):=Lib.hid (by rw [be_take_succ size n k hlt,hs,hX])
   have HO1:=Lib.hid (own_below hO.out ((Below.refl _ wr).alloc (Nat.le_refl _) (.cells #[.int .u8 (x.toNat:Int)] 5)));have HW1:=Lib.hid (hW.out.1.alloc (hW.out.1.size) (.cells #[.int .u8 (x.toNat:Int)] 5));clear hs hX
   go_wp2_with (at_builtin;refine append_own rfl _ _ rfl B _ _ _ rfl HO1.out (some ⟨wr.heap.size,0,none⟩) 1 1 [x] rfl (bat_one wr x) rfl (by omega) (by rw [World.size_alloc];have:=hW.out.2;omega) ?_)
   intro v1 w1 hown hgrow;have HO2:Hid (OwnB w1 B v1 (m+(k+1)) (xs++(be size n).take (k+1))):=Lib.hid (by rw [HT.out,← Nat.add_assoc];simpa only [List.append_assoc] using hown)
   have HW2:Hid (Below W.heap.size W w1∧B≤w1.heap.size):=Lib.hid ⟨own_grown HW1.out HO1.out HS.out.1 hgrow,by have h1:=hgrow.size;rw [World.size_alloc] at h1;have:=hW.out.2;omega⟩
   clear hown hgrow
   go_wp2_with fail
   go_roundw
   case rel => exact ⟨k+1,v1,by omega,rfl,by go_num,HO2,HW2⟩
   case measure => simp [RowKit.intOf];omega
  ·obtain rfl:k=size:=by omega
   have hks:¬ ((k:Int) < (k:Int)):=by omega
   go_wp2
   go_ret
   exact ⟨_,rfl,by have:=hO.out;rwa [List.take_of_length_le (by rw [be_length];exact Nat.le_refl _)] at this,hW.out.1⟩
end Go.Proofs.Ytpdpgjilalojjaa.Itm
end
section
namespace Go.Proofs.Ytpdpgjilalojjaa.Itm
open Go.ChangeShapes Go.WideShapes Go.ChangeAt Go.RowKit Base Num Byt Txt Bk Rec Block Tre Go.Lib
set_option linter.unusedVariables false
set_option maxRecDepth 100000
theorem pathLess_any (a b:List UInt8) (w:World) :
 Calls Try.prog 31 #[.string (str a),.string (str b)] w fun e w' => e=.returned (.bool (ltB a b))∧w=w':=by
 have t1:Op.bytesLess (str a).toList (str b).toList=ltB a b:=by rw [str_toList,str_toList];rfl
 obtain ⟨L,hL⟩:∃ L,ltB a b=L:=⟨_,rfl⟩;rw [hL] at t1 ⊢;clear hL
 go_enter Try.func31,Try.ntmps31
 go_wp2
 go_ret
 exact ⟨rfl,rfl⟩
theorem equalI_any (p q:Option Addr) (n c m d:Nat) (a b:List UInt8) (w:World) (ha:a.length=n) (hb:b.length=m) (h1:BAt w p n a) (h2:BAt w q m b) :
 Calls Try.prog 32 #[.slice p n c,.slice q m d] w fun e w' => e=.returned (.bool (decide (a=b)))∧w=w':=by
 have c1:(convert 22 9 (.slice p n c)).run Try.prog w=.ok (.string (str a)) w:=conv_at h1 ha _ _ _ Try.underlying22 Try.underlying5 Try.underlying9 _;have c2:(convert 22 9 (.slice q m d)).run Try.prog w=.ok (.string (str b)) w:=conv_at h2 hb _ _ _ Try.underlying22 Try.underlying5 Try.underlying9 _;have e1:=strL_eq a b;clear h1 h2
 go_enter Try.func32,Try.ntmps32
 go_wp2
 go_ret
 exact ⟨rfl,rfl⟩
set_option maxHeartbeats 1000000 in
theorem lessI_any (x y:IP) (w:World) :
 Calls Try.prog 16 #[.agg x.cs,.agg y.cs] w fun e w' => e=.returned (.bool (lessI x.m y.m))∧Below w.heap.size w w':=by
 obtain ⟨⟨k,s,d⟩,p,c⟩:=x;obtain ⟨⟨k2,s2,d2⟩,p2,c2⟩:=y;obtain ⟨L,hL⟩:∃ L,lessI ⟨k,s,d⟩ ⟨k2,s2,d2⟩=L:=⟨_,rfl⟩
 have HL:Hid (L=(ltB k k2 || (decide (k=k2) && decide (s < s2)))):=Lib.hid (by
  rw [← hL];unfold lessI
  congr 2
  by_cases h:k=k2<;>simp [h])
 have HP:=Lib.hid (fun w => pathLess_any k k2 w)
 have t2:=strL_eq k k2;obtain ⟨D,hD⟩:∃ D,d.length=D:=⟨_,rfl⟩;obtain ⟨D2,hD2⟩:∃ D2,d2.length=D2:=⟨_,rfl⟩;unfold IP.cs itmC
 dsimp only
 rw [hL,hD,hD2];clear hL hD hD2;obtain ⟨A,hA⟩:∃ A,ltB k k2=A:=⟨_,rfl⟩;obtain ⟨B,hB⟩:∃ B,decide (k=k2)=B:=⟨_,rfl⟩;rw [hA] at HP;rw [hB] at t2;rw [hA,hB] at HL;clear hA hB;obtain ⟨W0,hW0⟩:∃ W0,w.alloc (.cells #[.string (str k),.int .i64 s,.slice p D c] 24)=W0:=⟨_,rfl⟩;have b0:Below w.heap.size w W0:=by rw [← hW0];exact (Below.refl _ _).alloc (Nat.le_refl _) _
 have x0:Blk W0 w.heap.size 24 #[.string (str k),.int .i64 s,.slice p D c]:=by rw [← hW0];exact Blk.new w _ _
 obtain ⟨W,hW⟩:∃ W,W0.alloc (.cells #[.string (str k2),.int .i64 s2,.slice p2 D2 c2] 24)=W:=⟨_,rfl⟩;have b1:Below W0.heap.size W0 W:=by rw [← hW];exact (Below.refl _ _).alloc (Nat.le_refl _) _
 have y1:Blk W W0.heap.size 24 #[.string (str k2),.int .i64 s2,.slice p2 D2 c2]:=by rw [← hW];exact Blk.new W0 _ _
 have x1:=x0.below b1 x0.lt;have a0:=x1.cell 0;have a1:=x1.cell 1;have c0:=y1.cell 0;have c1:=y1.cell 1;simp only [List.getElem?_toArray,List.getElem?_cons_zero,List.getElem?_cons_succ] at a0 a1 c0 c1;have HB:Hid (Below w.heap.size w W):=Lib.hid (b0.trans (b1.mono b0.size));clear b0 x0 b1 y1 x1
 go_enter Try.func16,Try.ntmps16
 go_upto_region 1 with fail
 clear hW0 hW
 go_wp2_with fail
 refine (HP.out W).mono ?_
 rintro e w' ⟨rfl,rfl⟩
 cases A with
 | true =>
   go_wp2
   go_ret
   exact ⟨by rw [HL.out];rfl,HB.out⟩
 | false =>
   cases B with
   | false =>
     go_wp2
     go_ret
     exact ⟨by rw [HL.out];rfl,HB.out⟩
   | true =>
     by_cases hlt:s < s2
     ·have E:Hid (L=true):=Lib.hid (by rw [HL.out,decide_eq_true hlt];rfl)
      have z:decide (s < s2)=true:=decide_eq_true hlt
      go_wp2
      go_ret
      exact ⟨by rw [E.out];rfl,HB.out⟩
     ·have E:Hid (L=false):=Lib.hid (by rw [HL.out,decide_eq_false hlt];rfl)
      have z:decide (s < s2)=false:=decide_eq_false hlt;clear hlt
      go_wp2
      go_ret
      exact ⟨by rw [E.out];rfl,HB.out⟩
set_option maxHeartbeats 1000000 in
theorem sameI_any (x y:IP) (w:World) (hx:DatAt w x) (hy:DatAt w y) :
 Calls Try.prog 18 #[.agg x.cs,.agg y.cs] w fun e w' => e=.returned (.bool (decide (x.m=y.m)))∧Below w.heap.size w w':=by
 have hbx:=hx.bat;have hby:=hy.bat;clear hx hy;obtain ⟨⟨k,s,d⟩,p,c⟩:=x;obtain ⟨⟨k2,s2,d2⟩,p2,c2⟩:=y;obtain ⟨L,hL⟩:∃ L,decide ((⟨k,s,d⟩:ItemV)=⟨k2,s2,d2⟩)=L:=⟨_,rfl⟩
 have HL:Hid (L=(decide (k=k2) && (decide (s=s2) && decide (d=d2)))):=Lib.hid (by
  rw [← hL,sameI_iff])
 have t2:=strL_eq k k2;unfold IP.cs itmC
 dsimp only at hbx hby ⊢
 rw [hL];clear hL;obtain ⟨W0,hW0⟩:∃ W0,w.alloc (.cells #[.string (str k),.int .i64 s,.slice p d.length c] 24)=W0:=⟨_,rfl⟩;have b0:Below w.heap.size w W0:=by rw [← hW0];exact (Below.refl _ _).alloc (Nat.le_refl _) _
 have x0:Blk W0 w.heap.size 24 #[.string (str k),.int .i64 s,.slice p d.length c]:=by rw [← hW0];exact Blk.new w _ _
 obtain ⟨W,hW⟩:∃ W,W0.alloc (.cells #[.string (str k2),.int .i64 s2,.slice p2 d2.length c2] 24)=W:=⟨_,rfl⟩;have b1:Below W0.heap.size W0 W:=by rw [← hW];exact (Below.refl _ _).alloc (Nat.le_refl _) _
 have y1:Blk W W0.heap.size 24 #[.string (str k2),.int .i64 s2,.slice p2 d2.length c2]:=by rw [← hW];exact Blk.new W0 _ _
 have x1:=x0.below b1 x0.lt;have hB:Below w.heap.size w W:=b0.trans (b1.mono b0.size);have HEQ:=Lib.hid (equalI_any p p2 _ c _ c2 d d2 W rfl rfl (hbx.below hB) (hby.below hB));obtain ⟨A,hA⟩:∃ A,decide (k=k2)=A:=⟨_,rfl⟩;obtain ⟨E,hE⟩:∃ E,decide (d=d2)=E:=⟨_,rfl⟩;rw [hA] at t2;rw [hE] at HEQ;rw [hA,hE] at HL;obtain ⟨D,hD⟩:∃ D,d.length=D:=⟨_,rfl⟩;obtain ⟨D2,hD2⟩:∃ D2,d2.length=D2:=⟨_,rfl⟩;rw [hD] at hW0 x1 HEQ ⊢;rw [hD2] at hW y1 HEQ ⊢;have a0:=x1.cell 0;have a1:=x1.cell 1;have a2:=x1.cell 2;have c0:=y1.cell 0;have c1:=y1.cell 1;have c3:=y1.cell 2
 simp only [List.getElem?_toArray,List.getElem?_cons_zero,List.getElem?_cons_succ] at a0 a1 a2 c0 c1 c3;have HB:=Lib.hid hB;clear b0 x0 b1 y1 x1 hB hA hE hbx hby hD hD2
 go_enter Try.func18,Try.ntmps18
 go_upto_region 1 with fail
 clear hW0 hW
 cases A with
 | false =>
   go_wp2
   go_ret
   exact ⟨by rw [HL.out];rfl,HB.out⟩
 | true =>
   by_cases hs:s=s2
   ·have z:(s == s2)=true:=by simpa using hs
    have E2:Hid (L=E):=Lib.hid (by rw [HL.out,decide_eq_true hs];cases E<;>rfl)
    go_wp2_with fail
    refine HEQ.out.mono ?_
    rintro e w' ⟨rfl,rfl⟩
    go_wp2
    go_ret
    exact ⟨by rw [E2.out];rfl,HB.out⟩
   ·have z:(s == s2)=false:=by simpa using hs
    have E2:Hid (L=false):=Lib.hid (by rw [HL.out,decide_eq_false hs];rfl)
    clear hs
    go_wp2
    go_ret
    exact ⟨by rw [E2.out];rfl,HB.out⟩
theorem inI_any (s:Int) (w:World) :
 Calls Try.prog 36 #[.int .i64 s,.int .i64 0,.int .i64 4611686018427387904] w fun e w' => e=.returned (.bool (decide (0≤s∧s≤4611686018427387904)))∧w=w':=by
 by_cases h1:0≤s
 ·by_cases h2:s≤4611686018427387904
  ·rw [decide_eq_true (show 0≤s∧s≤4611686018427387904 from ⟨h1,h2⟩)]
   go_enter Try.func36,Try.ntmps36
   go_wp2
   go_ret
   exact ⟨rfl,rfl⟩
  ·rw [decide_eq_false (show ¬ (0≤s∧s≤4611686018427387904) from fun h => h2 h.2)]
   go_enter Try.func36,Try.ntmps36
   go_wp2
   go_ret
   exact ⟨rfl,rfl⟩
 ·rw [decide_eq_false (show ¬ (0≤s∧s≤4611686018427387904) from fun h => h1 h.1)]
  go_enter Try.func36,Try.ntmps36
  go_wp2
  go_ret
  exact ⟨rfl,rfl⟩
theorem mayBe_any (x:IP) (w:World) :
 Calls Try.prog 23 #[.agg x.cs] w fun e w' => e=.returned (.bool (mayI x.m))∧Below w.heap.size w w':=by
 obtain ⟨⟨k,s,d⟩,p,c⟩:=x;have hk:(str k).size=k.length:=str_size _;obtain ⟨K,hK⟩:∃ K,k.length=K:=⟨_,rfl⟩;obtain ⟨D,hD⟩:∃ D,d.length=D:=⟨_,rfl⟩
 have HM:Hid (mayI ⟨k,s,d⟩=(decide (K≤200) && (decide (0≤s∧s≤4611686018427387904) && decide (D≤1048576)))):=Lib.hid (by
  unfold mayI;rw [hK,hD]
  by_cases h1:K≤200<;>by_cases h2:0≤s∧s≤4611686018427387904<;>by_cases h3:D≤1048576<;>simp [h1,h2,h3]<;>(intro a;exact fun b => h2 ⟨a,b⟩))
 have HIN:=Lib.hid (fun w => inI_any s w)
 unfold IP.cs itmC
 dsimp only
 rw [hK] at hk;rw [hD];clear hK hD;obtain ⟨A,hA⟩:∃ A,decide (K≤200)=A:=⟨_,rfl⟩;obtain ⟨B,hB⟩:∃ B,decide (0≤s∧s≤4611686018427387904)=B:=⟨_,rfl⟩;obtain ⟨E,hE⟩:∃ E,decide (D≤1048576)=E:=⟨_,rfl⟩;rw [hA,hB,hE] at HM;rw [hB] at HIN;have z1:decide ((K:Int)≤200)=A:=by rw [← hA];congr 1;exact propext (by omega)
 have z3:decide ((D:Int)≤1048576)=E:=by rw [← hE];congr 1;exact propext (by omega)
 clear hA hB hE;obtain ⟨W,hW⟩:∃ W,w.alloc (.cells #[.string (str k),.int .i64 s,.slice p D c] 24)=W:=⟨_,rfl⟩;have hB:Below w.heap.size w W:=by rw [← hW];exact (Below.refl _ _).alloc (Nat.le_refl _) _
 have hX:Blk W w.heap.size 24 #[.string (str k),.int .i64 s,.slice p D c]:=by rw [← hW];exact Blk.new w _ _
 have c0:=hX.cell 0;have c1:=hX.cell 1;have c2:=hX.cell 2;simp only [List.getElem?_toArray,List.getElem?_cons_zero,List.getElem?_cons_succ] at c0 c1 c2;have HB:=Lib.hid hB;clear hB hX
 go_enter Try.func23,Try.ntmps23
 go_upto_region 1 with fail
 clear hW
 cases A with
 | false =>
   go_wp2
   go_ret
   exact ⟨by rw [HM.out];rfl,HB.out⟩
 | true =>
   go_wp2_with fail
   refine (HIN.out W).mono ?_
   rintro e w' ⟨rfl,rfl⟩
   cases B with
   | false =>
     go_wp2
     go_ret
     exact ⟨by rw [HM.out];rfl,HB.out⟩
   | true =>
     go_wp2
     go_ret
     exact ⟨by rw [HM.out];rfl,HB.out⟩
end Go.Proofs.Ytpdpgjilalojjaa.Itm
end
section
namespace Go.Proofs.Ytpdpgjilalojjaa.Itm
open Go.ChangeShapes Go.WideShapes Go.ChangeAt Go.RowKit Base Num Byt Txt Bk Rec Block Tre Go.Lib
set_option linter.unusedVariables false
set_option maxRecDepth 100000
set_option maxHeartbeats 4000000 in
theorem putI_any (w:World) (x:IP) (hx:DatAt w x):Calls Try.prog 10 #[.agg x.cs] w (PutIPost w x.m):=by
 obtain ⟨i0,hi,hz0,hz1,hz2⟩:=info_parts Field.infoByte;have HI:=Lib.hid hi;have HZ0:=Lib.hid hz0;have HZ1:=Lib.hid hz1;have HZ2:=Lib.hid hz2;clear hi hz0 hz1 hz2;have HMB:=Lib.hid (fun w => mayBe_any x w)
 have hbt:=hx.bat;clear hx;obtain ⟨⟨k,s,d⟩,p,c⟩:=x
 dsimp only at hbt HMB ⊢
 obtain ⟨M,hM⟩:∃ M,mayI ⟨k,s,d⟩=M:=⟨_,rfl⟩;rw [hM] at HMB;have HM:=Lib.hid hM;have hks:(str k).size=k.length:=str_size _;unfold IP.cs itmC at HMB ⊢
 dsimp only at HMB ⊢
 obtain ⟨KL,hKL⟩:∃ KL,k.length=KL:=⟨_,rfl⟩;obtain ⟨DL,hDL⟩:∃ DL,d.length=DL:=⟨_,rfl⟩;have HKL:=Lib.hid hKL;have HDL:=Lib.hid hDL;rw [hKL] at hks;rw [hDL] at hbt HMB ⊢;obtain ⟨W,hW⟩:∃ W,w.alloc (.cells #[.string (str k),.int .i64 s,.slice p DL c] 24)=W:=⟨_,rfl⟩;have hB:Below w.heap.size w W:=by rw [← hW];exact (Below.refl _ _).alloc (Nat.le_refl _) _
 have hX:Blk W w.heap.size 24 #[.string (str k),.int .i64 s,.slice p DL c]:=by rw [← hW];exact Blk.new w _ _
 have HC:Hid (∀ w',Below W.heap.size W w' → w'.cell? ⟨w.heap.size,0,none⟩=some (.string (str k))∧w'.cell? ⟨w.heap.size,1,none⟩=some (.int .i64 s)∧w'.cell? ⟨w.heap.size,2,none⟩=some (.slice p DL c)):=Lib.hid (fun w' h => by
  have h1:=hX.below h hX.lt
  exact ⟨h1.cell 0,h1.cell 1,h1.cell 2⟩)
 have HBT:=Lib.hid (hbt.below hB);have HB:=Lib.hid hB;have HB0:Hid (Below W.heap.size W W):=Lib.hid (Below.refl _ _);clear hB hX hbt hM hKL hDL;obtain ⟨c0,c1,c2⟩:=HC.out W HB0.out
 go_enter Try.func10,Try.ntmps10
 go_upto_region 1 with fail
 clear hW
 go_wp2_with fail
 refine (HMB.out W).mono ?_
 rintro e w1 ⟨rfl,hb1⟩;have HB1:=Lib.hid hb1;clear c0 c1 c2 hb1
 cases M with
 | false =>
   go_wp2
   go_ret2
   exact .inr ⟨HM.out,none,0,rfl,HB.out.trans (HB1.out.mono HB.out.size)⟩
 | true =>
   obtain ⟨f1,f2,f3,f4⟩:=mayI_facts HM.out
   dsimp only at f1 f2 f3 f4
   rw [HKL.out] at f1;rw [HDL.out] at f4;obtain ⟨S,rfl⟩:∃ S:Nat,s=(S:Int):=⟨s.toNat,by omega⟩
   have HE:Hid (bytesI ⟨k,(S:Int),d⟩=be 4 KL++k++be 8 S++be 4 DL++d):=Lib.hid (by rw [← HKL.out,← HDL.out];rfl)
   have HLN:Hid ((bytesI ⟨k,(S:Int),d⟩).length=4+KL+8+4+DL):=Lib.hid (by rw [bytesI_length];dsimp only;rw [HKL.out,HDL.out];omega)
   have F:Hid (KL≤200∧S≤4611686018427387904∧DL≤1048576):=Lib.hid ⟨f1,by omega,f4⟩
   obtain ⟨c0,c1,c2⟩:=HC.out w1 HB1.out;obtain ⟨C,hC⟩:∃ C,4+KL+8+4+DL=C:=⟨_,rfl⟩
   have hCz:IntKind.i64.wrap (IntKind.i64.wrap (IntKind.i64.wrap (IntKind.i64.wrap (4+(KL:Int))+8)+4)+(DL:Int))=(C:Int):=by
    simp only [IntKind.wrap_i64];omega
   have hCz2:(4:Int)+(KL:Int)+8+4+(DL:Int)=(C:Int):=by omega
   have HCC:=Lib.hid hC;clear hC c1 f2 f3
   go_wp2_with (at_make;refine wpList_make_own _ rfl _ _ 22 rfl W.heap.size 5 i0 (.int .u8 0) 1 Try.underlying22 HI.out HZ0.out HZ1.out .i64 .i64 (C:Int) C rfl rfl rfl ?b1 ?b2 HB1.out.size ?_)
   case b1 => rw [HZ2.out];have:=F.out;have:=HCC.out;omega
   case b2 => unfold maxLen;have:=F.out;have:=HCC.out;omega
   intro w2 hown hgrow;have HB2:Hid (Below W.heap.size W w2):=Lib.hid (HB1.out.grown hgrow HB1.out.size (by intro k hk;cases hk))
   have HO2:Hid (OwnB w2 W.heap.size (.slice (some ⟨w1.heap.size,0,none⟩) 0 C) 0 []):=Lib.hid hown;obtain ⟨v2,hv2⟩:∃ v2,Value.slice (some ⟨w1.heap.size,0,none⟩) 0 C=v2:=⟨_,rfl⟩;have HV2:=Lib.hid hv2;rw [hv2] at HO2 ⊢;have HB2d:Hid (Below W.heap.size W w2.drew):=Lib.hid (below_drewN HB2.out 1);have HO2d:Hid (OwnB w2.drew W.heap.size v2 0 []):=Lib.hid (own_below HO2.out (below_drewN (Below.refl _ _) 1));clear hown hgrow hv2 c0 c2 hCz hCz2 f1 f4;obtain ⟨c0,c1,c2⟩:=HC.out w2 HB2.out;clear c1 c2
   go_wp2_with fail
   go_region_held_law (fun w' => w'.cell? ⟨w.heap.size,0,none⟩=some (.string (str k))) (first | exact (HC.out _ HBB.out).1 | exact (HC.out _ HB2d.out).1 | exact (HC.out _ HB2.out).1) (first
    | (go_at_call 24
       refine (numberI_any W W.heap.size (Nat.le_refl _) v2 0 [] 4 KL _ _ rfl rfl _ HO2d.out HB2d.out HB2d.out.size (by omega) (by omega) (by have:=F.out.1;omega)).mono ?_
       rintro e wa ⟨v3,rfl,hov,hba⟩;rw [Nat.zero_add,List.nil_append] at hov;have HOV:=Lib.hid hov;have HBB:=Lib.hid hba
       clear hov hba)
    | (refine step_str rfl (.tmp 23) (.tmp 25) rfl W.heap.size _ 4 (be 4 KL) rfl HOV.out k rfl (by have:=F.out.1;rw [HKL.out];omega) HBB.out.size ?_
       intro v4 w4 hown hgrow;have HBB:=Lib.hid (own_grown HBB.out HOV.out (Nat.le_refl _) hgrow);have HOV:Hid (OwnB _ _ v4 (4+KL) (be 4 KL++k)):=Lib.hid (by rw [HKL.out] at hown;exact hown)
       clear hown hgrow))
   all_goals
    obtain ⟨c0,c1,c2⟩:=HC.out _ HBB.out;clear c0 c2
    go_wp2_with fail
    refine (numberI_any W W.heap.size (Nat.le_refl _) _ _ _ 8 S _ _ rfl rfl _ HOV.out HBB.out HBB.out.size (by have:=F.out;omega) (by omega) (by have:=F.out.2.1;omega)).mono ?_
    rintro e w5 ⟨v5,rfl,hov,hba⟩;have HO5:=Lib.hid hov;have HB5:=Lib.hid hba;have HB5d:Hid (Below W.heap.size W w5.drew):=Lib.hid (below_drewN HB5.out 1);have HO5d:Hid (OwnB w5.drew W.heap.size v5 (4+KL+8) (be 4 KL++k++be 8 S)):=Lib.hid (own_below HO5.out (below_drewN (Below.refl _ _) 1));clear hov hba c1 HBB HOV;obtain ⟨c0,c1,c2⟩:=HC.out w5 HB5.out;clear c0 c1
    go_wp2_with fail
    go_region_held_law (fun w' => w'.cell? ⟨w.heap.size,2,none⟩=some (.slice p DL c)) (first | exact (HC.out _ HBB.out).2.2 | exact (HC.out _ HB5d.out).2.2 | exact (HC.out _ HB5.out).2.2) (first
     | (go_at_call 24
        refine (numberI_any W W.heap.size (Nat.le_refl _) v5 _ _ 4 DL _ _ rfl rfl _ HO5d.out HB5d.out HB5d.out.size (by have:=F.out;omega) (by omega) (by have:=F.out.2.2;omega)).mono ?_
        rintro e wa ⟨v6,rfl,hov,hba⟩;have HOV:=Lib.hid hov;have HBB:=Lib.hid hba
        clear hov hba)
     | (refine step_own rfl (.tmp 35) (.tmp 37) rfl W.heap.size _ _ _ rfl HOV.out p DL c d rfl (HBT.out.below HBB.out) HDL.out (by have:=F.out;omega) HBB.out.size ?_
        intro v7 w7 hown hgrow;have HBB:=Lib.hid (own_grown HBB.out HOV.out (Nat.le_refl _) hgrow);have HOV:=Lib.hid hown
        clear hown hgrow))
    all_goals
     obtain ⟨p7,c7,rfl,hle,hmx,hbt,hln,_⟩:=HOV.out.slice;have P:=Lib.hid (And.intro hle (And.intro hmx hbt));clear hle hmx hbt hln
     go_wp2
     go_ret2
     refine .inl ⟨HM.out,p7,c7,?_,?_,P.out.2.1,?_,HB.out.trans (HBB.out.mono HB.out.size)⟩
     ·rw [HLN.out];simp
     ·rw [HLN.out];exact P.out.1
     ·rw [HLN.out,HE.out];exact P.out.2.2
end Go.Proofs.Ytpdpgjilalojjaa.Itm
end
section
namespace Go.Proofs.Ytpdpgjilalojjaa.Itm
open Go.ChangeShapes Go.WideShapes Go.ChangeAt Go.RowKit Base Num Byt Txt Bk Rec Block Tre Go.Lib
set_option linter.unusedVariables false
set_option maxRecDepth 100000
def takeO (o:Option (List UInt8)) (k:Nat):Option (List UInt8 × List UInt8):=match o with
 | none => none
 | some bs => if bs.length < k then none else some (bs.take k,bs.drop k)
def numO (o:Option (List UInt8)) (k most:Nat):Option (Nat × List UInt8):=match takeO o k with
 | none => none
 | some (a,r) => if most < Go.Proofs.Ytpdpgjilalojjaa.Itm.num a then none else some (Go.Proofs.Ytpdpgjilalojjaa.Itm.num a,r)
def textO (o:Option (List UInt8)) (most:Nat):Option (List UInt8 × List UInt8):=match numO o 4 most with
 | none => none
 | some (k,r) => takeO (some r) k
def fstL (o:Option (List UInt8 × List UInt8)):List UInt8:=(o.map Prod.fst).getD []
def fstN (o:Option (Nat × List UInt8)):Nat:=(o.map Prod.fst).getD 0
def SrcO (w:World) (g:Nat) (o:Option (List UInt8)):Prop:=
 ∃ p n c,Blk w g 46 #[.slice p n c,.bool o.isNone] ∧ ∀ bs,o=some bs → BAt w p n bs∧bs.length=n∧n≤c∧c≤maxLen
theorem SrcO.lt {w:World} {g:Nat} {o:Option (List UInt8)} (h:SrcO w g o):g < w.heap.size:=by
 obtain ⟨p,n,c,hb,_⟩:=h;exact hb.lt
theorem SrcO.off {w:World} {g:Nat} {o:Option (List UInt8)} (h:SrcO w g o) {p:Option Addr} {n:Nat} {bs:List UInt8} (hb:BAt w p n bs) (h0:0 < n) (a:Addr) (ha:p=some a):a.block≠g:=by
 obtain ⟨p2,n2,c2,hk,_⟩:=h;obtain ⟨b,off,he,hc⟩:=hb h0;rw [ha] at he
 cases he
 intro e;have h1:=hc 0 h0;have e2:b=g:=e;rw [e2,hk.cell,Nat.add_zero] at h1
 match off,h1 with
 | 0,h1 => cases h1
 | 1,h1 => cases h1
 | off+2,h1 => simp at h1
theorem SrcO.bat {w w':World} {g:Nat} {o:Option (List UInt8)} (h:SrcO w g o) {p:Option Addr} {n:Nat} {bs:List UInt8} (hb:BAt w p n bs) (hk:Kept (oneB g) w w'):BAt w' p n bs:=hb.kept hk (fun h0 a ha => h.off hb h0 a ha)
theorem SrcO.below {w w':World} {g:Nat} {o:Option (List UInt8)} (h:SrcO w g o) (hb:Below w.heap.size w w'):SrcO w' g o:=by
 obtain ⟨p,n,c,hk,hc⟩:=h;exact ⟨p,n,c,hk.below hb hk.lt,fun bs e => ⟨(hc bs e).1.below hb,(hc bs e).2⟩⟩
def TakePost (w:World) (g:Nat) (r:Option (List UInt8 × List UInt8)) (e:Ending) (w':World):Prop:=
 ∃ p n c,e=.returned (.slice p n c)∧n≤c∧c≤maxLen∧BAt w' p n (fstL r)∧(fstL r).length=n∧SrcO w' g (r.map Prod.snd)∧Kept (oneB g) w w'
def NumIPost (w:World) (g:Nat) (r:Option (Nat × List UInt8)) (e:Ending) (w':World):Prop:=
 e=.returned (.int .i64 ((fstN r:Nat):Int))∧SrcO w' g (r.map Prod.snd)∧Kept (oneB g) w w'
theorem src_bad {w:World} {g:Nat} {p:Option Addr} {n c:Nat} {b:Bool} (h:Blk w g 46 #[.slice p n c,.bool b]):SrcO (w.setCell ⟨g,1,none⟩ (.bool true)) g none∧Kept (oneB g) w (w.setCell ⟨g,1,none⟩ (.bool true)):=
 ⟨⟨p,n,c,h.set 1 _ (by decide:1 < 2),fun bs e => by cases e⟩,(Kept.refl (oneB g) w).setCell (a:=⟨g,1,none⟩) (.inr rfl) _⟩
theorem src_rest {w:World} {g k n c d:Nat} {p q:Option Addr} {bs:List UInt8} (h:Blk w g 46 #[.slice p n c,.bool false]) (hb:BAt w p n bs) (hl:bs.length=n) (hle:n≤c) (hmx:c≤maxLen) (hk:k≤n) (hq:q=if c=k then p else p.map (·.add k)) (hd:d=c - k) :
 TakePost w g (some (bs.take k,bs.drop k)) (.returned (.slice p k c)) (w.setCell ⟨g,0,none⟩ (.slice q (n - k) d)):=by
 subst hq;subst hd;have hS:SrcO w g (some bs):=⟨p,n,c,h,fun bs' e => by cases e;exact ⟨hb,hl,hle,hmx⟩⟩
 have hK:Kept (oneB g) w (w.setCell ⟨g,0,none⟩ (.slice (if c=k then p else p.map (·.add k)) (n - k) (c - k))):=(Kept.refl (oneB g) w).setCell (a:=⟨g,0,none⟩) (.inr rfl) _
 refine ⟨p,k,c,rfl,by omega,hmx,hS.bat (hb.take hk) hK,by show (bs.take k).length=k;rw [List.length_take];omega,⟨_,n - k,c - k,h.set 0 _ (by decide:0 < 2),fun bs' e => ?_⟩,hK⟩
 cases e
 exact ⟨hS.bat (hb.drop hk hle hl) hK,by show (bs.drop k).length=n - k;rw [List.length_drop,hl],by omega,by omega⟩
set_option maxHeartbeats 1000000 in
theorem takeS_any (w:World) (g:Nat) (o:Option (List UInt8)) (h:SrcO w g o) (k:Nat) (ki:Int) (hki:ki=(k:Int)) (hk:k≤9223372036854775807) :
 Calls Try.prog 37 #[.pointer (some ⟨g,0,none⟩),.int .i64 ki] w (TakePost w g (takeO o k)):=by
 subst hki;obtain ⟨p,n,c,hb,hc⟩:=h;have HX:=Lib.hid hb;have x0:=hb.cell 0;have x1:=hb.cell 1;have f0:=hb.frozen 0;have f1:=hb.frozen 1;simp only [List.getElem?_toArray,List.getElem?_cons_zero,List.getElem?_cons_succ] at x0 x1
 cases o with
 | none =>
   have HE:=Lib.hid (src_bad hb);clear hb hc x0 f0
   go_enter Try.func37,Try.ntmps37
   go_wp2
   go_ret
   exact ⟨none,0,0,rfl,Nat.le_refl _,by decide,BAt.none_ _ _,rfl,HE.out.1,HE.out.2⟩
 | some bs =>
   obtain ⟨hbt,hln,hle,hmx⟩:=hc bs rfl;have HBT:=Lib.hid hbt;have HLN:=Lib.hid hln;have HMX:=Lib.hid hmx;clear hc hbt hln;unfold maxLen at hmx
   by_cases hlt:n < k
   ·have hz:(n:Int) < (k:Int):=by omega
    have E:takeO (some bs) k=none:=by unfold takeO;simp only;rw [if_pos (by rw [HLN.out];exact hlt)]
    have HE:=Lib.hid (src_bad hb);rw [E];clear hb E
    go_enter Try.func37,Try.ntmps37
    go_wp2
    go_ret
    exact ⟨none,0,0,rfl,Nat.le_refl _,by decide,BAt.none_ _ _,rfl,HE.out.1,HE.out.2⟩
   ·have hz:¬ ((n:Int) < (k:Int)):=by omega
    have E:takeO (some bs) k=some (bs.take k,bs.drop k):=by unfold takeO;simp only;rw [if_neg (by rw [HLN.out];exact hlt)]
    rw [E];clear hb E
    go_enter Try.func37,Try.ntmps37
    go_wp2
    ·subst h
     go_ret
     exact src_rest HX.out HBT.out HLN.out hle HMX.out (by omega) (by rw [if_pos rfl]) (by omega)
    ·go_ret
     exact src_rest HX.out HBT.out HLN.out hle HMX.out (by omega) (by rw [if_neg h]) rfl
theorem or_byte (S X:Nat) (h:S * 256+X < 18446744073709551616) (hX:X < 256):bits .or .u64 ((S:Int) * 256) (X:Int)=((S * 256+X:Nat):Int):=by
 rw [bits_join .u64 64 (by decide) (fun n h0 h1 => by simp [IntKind.wrap,IntKind.bits,IntKind.signed];omega) 8 _ _ (by omega) (by omega) (by omega) (by omega) (by omega) (by omega)]
 omega
theorem numO_none {o:Option (List UInt8)} {k most:Nat} (h:takeO o k=none):numO o k most=none:=by unfold numO;rw [h]
theorem numO_big {o:Option (List UInt8)} {k most:Nat} {a r:List UInt8} (h:takeO o k=some (a,r)) (hm:most < Go.Proofs.Ytpdpgjilalojjaa.Itm.num a):numO o k most=none:=by unfold numO;rw [h];exact if_pos hm
theorem numO_some {o:Option (List UInt8)} {k most:Nat} {a r:List UInt8} (h:takeO o k=some (a,r)) (hm:¬ most < Go.Proofs.Ytpdpgjilalojjaa.Itm.num a):numO o k most=some (Go.Proofs.Ytpdpgjilalojjaa.Itm.num a,r):=by unfold numO;rw [h];exact if_neg hm
theorem takeO_length {o:Option (List UInt8)} {k:Nat} {a r:List UInt8} (h:takeO o k=some (a,r)):a.length=k:=by
 unfold takeO at h
 cases o with
 | none => cases h
 | some bs =>
   simp only at h
   split at h
   ·cases h
   ·cases h
    rw [List.length_take];omega
set_option maxHeartbeats 2000000 in
theorem numS_any (w:World) (g:Nat) (o:Option (List UInt8)) (h:SrcO w g o) (k most:Nat) (ki mi:Int) (hki:ki=(k:Int)) (hmi:mi=(most:Int)) (hk:k≤8) (hm:most≤4611686018427387904) :
 Calls Try.prog 27 #[.pointer (some ⟨g,0,none⟩),.int .i64 ki,.int .i64 mi] w (NumIPost w g (numO o k most)):=by
 subst hki;subst hmi;have HT:=Lib.hid (takeS_any w g o h k _ rfl (by omega))
 obtain ⟨r,hr⟩:∃ r,takeO o k=r:=⟨_,rfl⟩;rw [hr] at HT;have HR:=Lib.hid hr;clear h hr
 go_enter Try.func27,Try.ntmps27
 go_wp2_with fail
 refine HT.out.mono ?_
 rintro e w1 ⟨p,n,c,rfl,hle,hmx,hbt,hln,hs,hk1⟩;have HMX:=Lib.hid hmx;have HBT:=Lib.hid hbt;have HLN:=Lib.hid hln;have HK1:=Lib.hid hk1;have HS:=Lib.hid hs;obtain ⟨p2,n2,c2,hX,_⟩:=hs;have HX:=Lib.hid hX;have x1:=hX.cell 1;have f1:=hX.frozen 1;simp only [List.getElem?_toArray,List.getElem?_cons_zero,List.getElem?_cons_succ] at x1;clear hmx hbt hln hk1 hX HT
 cases r with
 | none =>
   have E:Hid (numO o k most=none):=Lib.hid (numO_none HR.out);change w1.cell? ⟨g,1,none⟩=some (.bool true) at x1;clear f1
   go_wp2
   go_ret
   rw [E.out];exact ⟨rfl,HS.out,HK1.out⟩
 | some r =>
   obtain ⟨a,r⟩:=r;change w1.cell? ⟨g,1,none⟩=some (.bool false) at x1;have hal:a.length=n:=HLN.out;have hnk:n=k:=by rw [← hal];exact takeO_length HR.out
   subst hnk;change Hid (BAt w1 p n a) at HBT;have HAL:=Lib.hid hal
   have hN:Go.Proofs.Ytpdpgjilalojjaa.Itm.num a < 256 ^ 8:=by
    have h1:=num_lt a;rw [hal] at h1;exact Nat.lt_of_lt_of_le h1 (Nat.pow_le_pow_right (by decide) hk)
   obtain ⟨N,hNN⟩:∃ N,Go.Proofs.Ytpdpgjilalojjaa.Itm.num a=N:=⟨_,rfl⟩;have HN:=Lib.hid hNN;rw [hNN] at hN;clear hal hNN
   go_wp2_with fail
   go_loopw [8,18] (fun s i wr => ∃ (j S:Nat),j≤n∧i=.int .i64 (j:Int)∧s=.int .u64 (S:Int)∧wr=w1∧Hid (Go.Proofs.Ytpdpgjilalojjaa.Itm.num (a.take j)=S)) (fun _ i _ => n - (RowKit.intOf i).toNat)
   case atStart => exact ⟨0,0,Nat.zero_le _,rfl,rfl,rfl,Lib.hid rfl⟩
   case round =>
    obtain ⟨j,S,hj,rfl,rfl,rfl,hE⟩:=hrel
    by_cases hlt:j < n
    ·obtain ⟨b,off,rfl,hbw,hc'⟩:=HBT.out.cell hlt
     have hc:=hc' j hlt;clear hc';have hT:=num_take_succ a j (by rw [HAL.out];exact hlt)
     have hle2:Go.Proofs.Ytpdpgjilalojjaa.Itm.num (a.take (j+1)) < 18446744073709551616:=by
      have:=num_take_le a (show j+1≤n by omega)
      rw [List.take_of_length_le (show a.length≤n by rw [HAL.out];exact Nat.le_refl _),HN.out] at this
      omega
     rw [hE.out] at hT;obtain ⟨x,hx⟩:∃ x,a.getD j 0=x:=⟨_,rfl⟩;rw [hx] at hc hT;obtain ⟨X,hX⟩:∃ X,x.toNat=X:=⟨_,rfl⟩;have hX8:X < 256:=by rw [← hX];exact x.toNat_lt
     rw [hX] at hc hT;rw [hT] at hle2;have HT:=Lib.hid hT;have hltz:(j:Int) < (n:Int):=by omega
     clear hT hx hX hbw;have hor:=or_byte S X hle2 hX8
     go_wp2
     go_roundw
     case rel => exact ⟨j+1,S * 256+X,by omega,by go_num,by go_num,trivial,HT⟩
     case measure => simp [RowKit.intOf];omega
    ·obtain rfl:j=n:=by omega
     have hks:¬ ((j:Int) < (j:Int)):=by omega
     have hSN:S=N:=by
      rw [← hE.out,← HN.out,List.take_of_length_le (show a.length≤j by rw [HAL.out];exact Nat.le_refl _)]
     subst hSN
     by_cases hmo:most < S
     ·have hz:(most:Int) < (S:Int):=by omega
      have E:Hid (numO o j most=none):=Lib.hid (numO_big HR.out (by rw [HN.out];exact hmo))
      go_wp2
      go_ret
      rw [E.out];obtain ⟨h1,h2⟩:=src_bad HX.out;exact ⟨rfl,h1,HK1.out.trans h2⟩
     ·have hz:¬ ((most:Int) < (S:Int)):=by omega
      have E:Hid (numO o j most=some (S,r)):=Lib.hid (by rw [← HN.out];exact numO_some HR.out (by rw [HN.out];exact hmo))
      have hS:S≤4611686018427387904:=by omega
      go_wp2
      go_ret
      rw [E.out];exact ⟨rfl,HS.out,HK1.out⟩
theorem textS_any (w:World) (g:Nat) (o:Option (List UInt8)) (h:SrcO w g o) (most:Nat) (mi:Int) (hmi:mi=(most:Int)) (hm:most≤4611686018427387904) :
 Calls Try.prog 26 #[.pointer (some ⟨g,0,none⟩),.int .i64 mi] w (TakePost w g (textO o most)):=by
 subst hmi;have HT:=Lib.hid (numS_any w g o h 4 most _ _ rfl rfl (by decide) hm)
 obtain ⟨r,hr⟩:∃ r,numO o 4 most=r:=⟨_,rfl⟩
 have E:textO o most=takeO (r.map Prod.snd) (fstN r):=by
  unfold textO;rw [hr]
  cases r<;>rfl
 have hN:fstN r≤most:=by
  rw [← hr];unfold numO
  cases takeO o 4 with
  | none => exact Nat.zero_le _
  | some x =>
    obtain ⟨a,b⟩:=x;simp only
    split
    ·exact Nat.zero_le _
    ·next h => exact Nat.le_of_not_lt h
 rw [hr] at HT;rw [E];clear h hr E
 go_enter Try.func26,Try.ntmps26
 go_wp2_with fail
 refine HT.out.mono ?_
 rintro e w1 ⟨rfl,hs,hk1⟩;have HS:=Lib.hid hs;have HK1:=Lib.hid hk1;clear hs hk1
 go_wp2_with fail
 refine (takeS_any w1 g _ HS.out _ _ rfl (by omega)).mono ?_
 rintro e w2 ⟨p,n,c,rfl,h1,h2,h3,h4,h5,h6⟩;have P:=Lib.hid (And.intro h2 (And.intro h3 (And.intro h4 (And.intro h5 (HK1.out.trans h6)))));clear h2 h3 h4 h5 h6
 go_wp2
 go_ret
 exact ⟨p,n,c,rfl,h1,P.out⟩
end Go.Proofs.Ytpdpgjilalojjaa.Itm
end
section
namespace Go.Proofs.Ytpdpgjilalojjaa.Itm
open Go.ChangeShapes Go.WideShapes Go.ChangeAt Go.RowKit Base Num Byt Txt Bk Rec Block Tre Go.Lib
set_option linter.unusedVariables false
set_option maxRecDepth 100000
theorem ret_beg {fn:Func} (hf:fn.results=#[.cell 2 24,.tmp 3,.tmp 4]) (tmps:Array Value) (w:World) (g:Nat) (a v:Value) (ht:tmps.getD 2 undef=.pointer (some ⟨g,0,none⟩)) (ha:tmps.getD 3 undef=a) (hv:tmps.getD 4 undef=v)
 (cs:Array Value) (u0 u1 u2:Value) (hcs:cs=#[u0,u1,u2]) (hb:Blk w g 24 cs):(results fn tmps).run Try.prog w=.ok (.tuple #[.agg cs,a,v]) w:=by
 subst hcs;have c0:=hb.cell 0;have c1:=hb.cell 1;have c2:=hb.cell 2;simp only [List.getElem?_toArray,List.getElem?_cons_zero,List.getElem?_cons_succ] at c0 c1 c2;clear hb;have hl:(loadVar 24 ⟨g,0,none⟩).run Try.prog w=.ok (.agg #[u0,u1,u2]) w:=by go_simp
 have ht':tmps[2]?.getD undef=.pointer (some ⟨g,0,none⟩):=by simpa using ht
 have ha':tmps[3]?.getD undef=a:=by simpa using ha
 have hv':tmps[4]?.getD undef=v:=by simpa using hv
 simp only [results,hf];simp [Result.andThen,ht',ha',hv',asAddr,hl]
def zc:Array Value:=#[.string ⟨#[]⟩,.int .i64 0,.slice none 0 0]
theorem zero_again {W:World} {g:Nat} (h:Blk W g 24 zc):Blk (((W.setCell ⟨g,0,none⟩ (.string ⟨#[]⟩)).setCell ⟨g,1,none⟩ (.int .i64 0)).setCell ⟨g,2,none⟩ (.slice none 0 0)) g 24 zc:=
 ((h.set 0 _ (by decide:0 < 3)).set 1 _ (by decide:1 < 3)).set 2 _ (by decide:2 < 3)
theorem dat_zero (w:World):DatAt w ⟨zeroI,none,0⟩:=⟨fun h => absurd h (by decide),Nat.le_refl _,by show (0:Nat)≤maxLen;decide⟩
theorem begins_some {w w3:World} {g:Nat} {bs L D:List UInt8} {S cnt m c3:Nat} {p3:Option Addr} {u0 u1 u2:Value} (hE:beginsI bs=(⟨L,(S:Int),D⟩,cnt,true)) (hm:D.length=m) (hbt:BAt w3 p3 m D) (hle:m≤c3) (hmx:c3≤maxLen) (hB:Below w.heap.size w w3) (hg:w.heap.size≤g) (hat:∀ x,p3=some x → x.block≠g) :
 ∃ q d,Ending.returned (.tuple #[.agg #[.string (str L),.int .i64 (S:Int),.slice p3 m c3],.int .i64 (cnt:Int),.bool true])=.returned (.tuple #[.agg (itmC (beginsI bs).1 q d),.int .i64 ((beginsI bs).2.1:Nat),.bool (beginsI bs).2.2])∧DatAt (((w3.setCell ⟨g,0,none⟩ u0).setCell ⟨g,1,none⟩ u1).setCell ⟨g,2,none⟩ u2) ⟨(beginsI bs).1,q,d⟩∧Below w.heap.size w (((w3.setCell ⟨g,0,none⟩ u0).setCell ⟨g,1,none⟩ u1).setCell ⟨g,2,none⟩ u2):=by
 subst hm;rw [hE];have hk:Kept (oneB g) w3 (((w3.setCell ⟨g,0,none⟩ u0).setCell ⟨g,1,none⟩ u1).setCell ⟨g,2,none⟩ u2):=(((Kept.refl (oneB g) w3).setCell (a:=⟨g,0,none⟩) (.inr rfl) _).setCell (a:=⟨g,1,none⟩) (.inr rfl) _).setCell (a:=⟨g,2,none⟩) (.inr rfl) _;exact ⟨p3,c3,rfl,⟨hbt.kept hk (fun _ x hx e => hat x hx e),hle,hmx⟩,((hB.setCell (p:=⟨g,0,none⟩) hg _).setCell (p:=⟨g,1,none⟩) hg _).setCell (p:=⟨g,2,none⟩) hg _⟩
theorem begins_none {w W:World} {bs:List UInt8} (hR:beginsOk bs=false) (hB:Below w.heap.size w W) :
 ∃ q d,Ending.returned (.tuple #[.agg zc,.int .i64 0,.bool false])=.returned (.tuple #[.agg (itmC (beginsI bs).1 q d),.int .i64 ((beginsI bs).2.1:Nat),.bool (beginsI bs).2.2])∧DatAt W ⟨(beginsI bs).1,q,d⟩∧Below w.heap.size w W:=by
 have E:beginsI bs=(zeroI,0,false):=by unfold beginsI;rw [hR];rfl
 rw [E];exact ⟨none,0,rfl,dat_zero _,hB⟩
abbrev Res3 (w:World) (g:Nat):Prop:=w.cell? ⟨g,0,none⟩=some (.string ⟨#[]⟩)∧w.cell? ⟨g,1,none⟩=some (.int .i64 0)∧w.cell? ⟨g,2,none⟩=some (.slice none 0 0)∧w.frozen? ⟨g,0,none⟩=false∧w.frozen? ⟨g,1,none⟩=false∧w.frozen? ⟨g,2,none⟩=false
theorem res3 {w:World} {g:Nat} (h:Blk w g 24 zc):Res3 w g:=⟨h.cell 0,h.cell 1,h.cell 2,h.frozen 0,h.frozen 1,h.frozen 2⟩
end Go.Proofs.Ytpdpgjilalojjaa.Itm
end
section
namespace Go.Proofs.Ytpdpgjilalojjaa.Itm
open Go.ChangeShapes Go.WideShapes Go.ChangeAt Go.RowKit Base Num Byt Txt Bk Rec Block Tre Go.Lib
set_option linter.unusedVariables false
set_option maxRecDepth 100000
theorem takeO_is {o:Option (List UInt8)} {k:Nat} {a r:List UInt8} (h:takeO o k=some (a,r)):∃ bs,o=some bs∧k≤bs.length∧a=bs.take k∧r=bs.drop k:=by
 unfold takeO at h
 cases o with
 | none => cases h
 | some bs =>
   simp only at h
   split at h
   ·cases h
   ·next hk => cases h;exact ⟨bs,rfl,by omega,rfl,rfl⟩
theorem numO_is {o:Option (List UInt8)} {k most m:Nat} {r:List UInt8} (h:numO o k most=some (m,r)):∃ bs,o=some bs∧k≤bs.length∧Go.Proofs.Ytpdpgjilalojjaa.Itm.num (bs.take k)≤most∧m=Go.Proofs.Ytpdpgjilalojjaa.Itm.num (bs.take k)∧r=bs.drop k:=by
 unfold numO at h
 cases ht:takeO o k with
 | none => rw [ht] at h;cases h
 | some x =>
   obtain ⟨a,r2⟩:=x;rw [ht] at h;simp only at h;obtain ⟨bs,h1,h2,h3,h4⟩:=takeO_is ht
   split at h
   ·cases h
   ·next hk => cases h;subst h3;exact ⟨bs,h1,h2,by omega,rfl,h4⟩
theorem textO_is {o:Option (List UInt8)} {most:Nat} {a r:List UInt8} (h:textO o most=some (a,r)):∃ bs,o=some bs∧4≤bs.length∧Go.Proofs.Ytpdpgjilalojjaa.Itm.num (bs.take 4)≤most∧4+Go.Proofs.Ytpdpgjilalojjaa.Itm.num (bs.take 4)≤bs.length∧a=(bs.drop 4).take (Go.Proofs.Ytpdpgjilalojjaa.Itm.num (bs.take 4))∧r=bs.drop (4+Go.Proofs.Ytpdpgjilalojjaa.Itm.num (bs.take 4)):=by
 unfold textO at h
 cases hn:numO o 4 most with
 | none => rw [hn] at h;cases h
 | some x =>
   obtain ⟨m,r2⟩:=x;rw [hn] at h;simp only at h;obtain ⟨bs,h1,h2,h3,h4,h5⟩:=numO_is hn;obtain ⟨bs2,g1,g2,g3,g4⟩:=takeO_is h
   cases g1
   subst h5;subst h4;rw [List.length_drop] at g2;exact ⟨bs,h1,h2,h3,by omega,g3,by rw [g4,List.drop_drop]⟩
theorem takeO_yes {bs:List UInt8} {k:Nat} (h:k≤bs.length):takeO (some bs) k=some (bs.take k,bs.drop k):=by
 unfold takeO;simp only;rw [if_neg (by omega)]
theorem numO_yes {bs:List UInt8} {k most:Nat} (h:k≤bs.length) (hm:Go.Proofs.Ytpdpgjilalojjaa.Itm.num (bs.take k)≤most):numO (some bs) k most=some (Go.Proofs.Ytpdpgjilalojjaa.Itm.num (bs.take k),bs.drop k):=numO_some (takeO_yes h) (by omega)
theorem textO_yes {bs:List UInt8} {most:Nat} (hm:Go.Proofs.Ytpdpgjilalojjaa.Itm.num (bs.take 4)≤most) (h:4+Go.Proofs.Ytpdpgjilalojjaa.Itm.num (bs.take 4)≤bs.length):textO (some bs) most=some ((bs.drop 4).take (Go.Proofs.Ytpdpgjilalojjaa.Itm.num (bs.take 4)),bs.drop (4+Go.Proofs.Ytpdpgjilalojjaa.Itm.num (bs.take 4))):=by
 unfold textO;rw [numO_yes (by omega) hm]
 simp only;rw [takeO_yes (by rw [List.length_drop];omega),List.drop_drop]
def left1 (bs:List UInt8):Option (List UInt8):=(textO (some bs) 200).map Prod.snd
def left2 (bs:List UInt8):Option (List UInt8):=(numO (left1 bs) 8 4611686018427387904).map Prod.snd
def left3 (bs:List UInt8):Option (List UInt8):=(textO (left2 bs) 1048576).map Prod.snd
theorem left_some {bs r:List UInt8} (h:left3 bs=some r):beginsOk bs=true:=by
 unfold left3 at h;obtain ⟨⟨d,r3⟩,h3,e3⟩:=Option.map_eq_some_iff.1 h;obtain ⟨b2,h2,l2,n2,m2,_,_⟩:=textO_is h3;unfold left2 at h2;obtain ⟨⟨s,r2⟩,h2,e2⟩:=Option.map_eq_some_iff.1 h2;obtain ⟨b1,h1,l1,n1,_,q1⟩:=numO_is h2;unfold left1 at h1;obtain ⟨⟨k,r1⟩,h1,e1⟩:=Option.map_eq_some_iff.1 h1;obtain ⟨b0,h0,l0,n0,m0,_,q0⟩:=textO_is h1
 cases h0
 simp only at e1 e2;subst e1;subst e2;subst q0;subst q1;rw [List.drop_drop,show 4+Go.Proofs.Ytpdpgjilalojjaa.Itm.num (bs.take 4)+8=12+keyN bs by unfold keyN;omega] at l2 n2 m2
 rw [List.length_drop] at l1 l2 m2;have hK:Go.Proofs.Ytpdpgjilalojjaa.Itm.num (bs.take 4)=keyN bs:=rfl;have hN:Go.Proofs.Ytpdpgjilalojjaa.Itm.num ((bs.drop (12+keyN bs)).take 4)=dataN bs:=rfl;rw [hK] at n0 m0 l1 n1;rw [hN] at n2 m2;have hS:Go.Proofs.Ytpdpgjilalojjaa.Itm.num ((bs.drop (4+keyN bs)).take 8)=seqN bs:=rfl;rw [hS] at n1;unfold beginsOk;exact decide_eq_true ⟨by omega,n0,by omega,n1,n2,by omega⟩
theorem left_yes {bs:List UInt8} (h:beginsOk bs=true) :
 textO (some bs) 200=some ((bs.drop 4).take (keyN bs),bs.drop (4+keyN bs))∧numO (some (bs.drop (4+keyN bs))) 8 4611686018427387904=some (seqN bs,bs.drop (12+keyN bs))∧textO (some (bs.drop (12+keyN bs))) 1048576=some ((bs.drop (16+keyN bs)).take (dataN bs),bs.drop (16+keyN bs+dataN bs)):=by
 obtain ⟨a1,a2,a3,a4,a5,a6⟩:=of_decide_eq_true h;have hK:Go.Proofs.Ytpdpgjilalojjaa.Itm.num (bs.take 4)=keyN bs:=rfl;have hN:Go.Proofs.Ytpdpgjilalojjaa.Itm.num ((bs.drop (12+keyN bs)).take 4)=dataN bs:=rfl;have hS:Go.Proofs.Ytpdpgjilalojjaa.Itm.num ((bs.drop (4+keyN bs)).take 8)=seqN bs:=rfl;refine ⟨?_,?_,?_⟩
 ·rw [textO_yes (by rw [hK];exact a2) (by rw [hK];omega),hK]
 ·rw [numO_yes (by rw [List.length_drop];omega) (by rw [hS];exact a4),hS,List.drop_drop,show 4+keyN bs+8=12+keyN bs by omega]
 ·rw [textO_yes (by rw [hN];exact a5) (by rw [hN,List.length_drop];omega),hN,List.drop_drop,List.drop_drop,show 12+keyN bs+4=16+keyN bs by omega,show 12+keyN bs+(4+dataN bs)=16+keyN bs+dataN bs by omega]
theorem ownG {W u v:World} (hu:W.heap.size≤u.heap.size) (h:Kept (oneB W.heap.size) u v):Below W.heap.size u v:=h.below hu (fun k hk => by rw [show k=W.heap.size from hk];exact Nat.le_refl _)
set_option maxHeartbeats 4000000 in
theorem getI_any (w:World) (p:Option Addr) (n c:Nat) (bs:List UInt8) (hb:BAt w p n bs) (hl:bs.length=n) (hc:n≤c) (hm:c≤maxLen) (hn:n≤140737488351232) :
 Calls Try.prog 12 #[.slice p n c] w (GetIPost w bs):=by
 have HL:=Lib.hid hl;obtain ⟨W,hW⟩:∃ W,w.alloc (.cells #[.string ⟨#[]⟩,.int .i64 0,.slice none 0 0] 24)=W:=⟨_,rfl⟩;have hB:Below w.heap.size w W:=by rw [← hW];exact (Below.refl _ _).alloc (Nat.le_refl _) _
 have hX:Blk W w.heap.size 24 zc:=by rw [← hW];exact Blk.new w _ _
 have HB:=Lib.hid hB;have HX:=Lib.hid hX;have HBW:=Lib.hid (hb.below hB);have HMX:=Lib.hid (And.intro hc hm);clear hb hl hB hX hm
 go_enter Try.func12,Try.ntmps12
 go_upto_region 1 with fail
 clear hW
 go_upto_region 2 with fail
 obtain ⟨W2,hW2⟩:∃ W2,W.alloc (.cells #[.slice p n c,.bool false] 46)=W2:=⟨_,rfl⟩;have hB2:Below W.heap.size W W2:=by rw [← hW2];exact (Below.refl _ _).alloc (Nat.le_refl _) _
 have HS2:Hid (SrcO W2 W.heap.size (some bs)):=Lib.hid (by
  refine ⟨p,n,c,by rw [← hW2];exact Blk.new W _ _,fun bs' e => ?_⟩
  cases e
  exact ⟨HBW.out.below hB2,HL.out,HMX.out.1,HMX.out.2⟩)
 have HB2:=Lib.hid hB2;rw [hW2];clear hW2 hB2
 go_wp2_with fail
 refine (textS_any W2 _ _ HS2.out 200 _ rfl (by decide)).mono ?_
 rintro e w3 ⟨p3,n3,c3,rfl,h1,h2,h3,h4,h5,h6⟩;have HM3:=Lib.hid (And.intro h1 h2);have HK3:=Lib.hid h3;have HN3:=Lib.hid h4;have HS3:=Lib.hid (show SrcO w3 W.heap.size (left1 bs) from h5)
 have HB3:=Lib.hid (HB2.out.trans (ownG HB2.out.size h6));clear h1 h2 h3 h4 h5 h6
 go_wp2_with fail
 refine (numS_any w3 _ _ HS3.out 8 4611686018427387904 _ _ rfl rfl (by decide) (by decide)).mono ?_
 rintro e w4 ⟨rfl,h5,h6⟩;have HK4:=Lib.hid (HS3.out.bat HK3.out h6);have HS4:=Lib.hid (show SrcO w4 W.heap.size (left2 bs) from h5)
 have HB4:=Lib.hid (HB3.out.trans (ownG HB3.out.size h6));clear h5 h6
 go_wp2_with fail
 refine (textS_any w4 _ _ HS4.out 1048576 _ rfl (by decide)).mono ?_
 rintro e w5 ⟨p5,n5,c5,rfl,h1,h2,h3,h4,h5,h6⟩;have HK5:=Lib.hid (HS4.out.bat HK4.out h6);have HM5:=Lib.hid (And.intro h1 h2);have HD5:=Lib.hid h3;have HN5:=Lib.hid h4;have HS5:=Lib.hid (show SrcO w5 W.heap.size (left3 bs) from h5)
 have HB5:=Lib.hid (HB4.out.trans (ownG HB4.out.size h6));clear h1 h2 h3 h4 h5 h6 HK3 HK4 HS3 HS4 HS2;obtain ⟨q5,m5,d5,hk5,hr5⟩:=HS5.out;have HX5:=Lib.hid hk5;have HR5:=Lib.hid hr5;clear hk5 hr5
 cases hlf:left3 bs with
 | none =>
   have E:Hid (beginsOk bs=false):=Lib.hid (by
    rw [Bool.eq_false_iff];intro h;obtain ⟨h1,h2,h3⟩:=left_yes h;unfold left3 left2 left1 at hlf;rw [h1,Option.map_some,h2,Option.map_some,h3] at hlf
    cases hlf)
   rw [hlf] at HX5;have x1:=HX5.out.cell 1;simp only [List.getElem?_toArray,List.getElem?_cons_zero,List.getElem?_cons_succ] at x1;change w5.cell? ⟨W.heap.size,1,none⟩=some (.bool true) at x1;have HXR:=HX.out.below HB5.out HX.out.lt;have f0:=HXR.frozen 0;have f1:=HXR.frozen 1;have f2:=HXR.frozen 2;have y0:=HXR.cell 0;have y1:=HXR.cell 1;have y2:=HXR.cell 2;simp only [zc,List.getElem?_toArray,List.getElem?_cons_zero,List.getElem?_cons_succ] at y0 y1 y2;have HXR:=Lib.hid HXR;clear hlf
   go_wp2_with fail
   refine bodyPost_ret (ret_beg rfl _ _ w.heap.size _ _ rfl rfl rfl zc _ _ _ rfl (zero_again HXR.out)) rfl ?_
   exact begins_none E.out (((((HB.out.trans (HB5.out.mono HB.out.size))).setCell (p:=⟨w.heap.size,0,none⟩) (Nat.le_refl _) _).setCell (p:=⟨w.heap.size,1,none⟩) (Nat.le_refl _) _).setCell (p:=⟨w.heap.size,2,none⟩) (Nat.le_refl _) _)
 | some r5 =>
   have hok:=left_some hlf;obtain ⟨g1,g2,g3⟩:=left_yes hok;obtain ⟨a1,a2,a3,a4,a5,a6⟩:=of_decide_eq_true hok;have e1:left1 bs=some (bs.drop (4+keyN bs)):=by unfold left1;rw [g1];rfl
   have e2:left2 bs=some (bs.drop (12+keyN bs)):=by unfold left2;rw [e1,g2];rfl
   have e3:left3 bs=some (bs.drop (16+keyN bs+dataN bs)):=by unfold left3;rw [e2,g3];rfl
   rw [hlf] at HX5 HR5 e3
   cases e3
   rw [g1] at HK5 HN3;rw [e1,g2];rw [e2,g3] at HD5 HN5;obtain ⟨L,hLL⟩:∃ L,(bs.drop 4).take (keyN bs)=L:=⟨_,rfl⟩;obtain ⟨D,hDD⟩:∃ D,(bs.drop (16+keyN bs)).take (dataN bs)=D:=⟨_,rfl⟩;obtain ⟨S,hSS⟩:∃ S,seqN bs=S:=⟨_,rfl⟩;obtain ⟨C,hCC⟩:∃ C,16+keyN bs+dataN bs=C:=⟨_,rfl⟩
   have HE:Hid (beginsI bs=(⟨L,(S:Int),D⟩,C,true)):=Lib.hid (by
    unfold beginsI beginsV
    rw [if_pos hok,hLL,hDD,hSS,hCC])
   rw [show fstN (some (seqN bs,bs.drop (12+keyN bs)))=seqN bs from rfl,hSS]
   rw [hLL] at HK5 HN3;rw [hDD] at HD5 HN5;rw [hCC] at HR5;change Hid (BAt w5 p3 n3 L) at HK5;change Hid (BAt w5 p5 n5 D) at HD5;change Hid (L.length=n3) at HN3;change Hid (D.length=n5) at HN5
   have hm5:C+m5=n:=by
    have:=(HR5.out _ rfl).2.1;rw [List.length_drop] at this;have:=HL.out;omega
   have hmz:IntKind.i64.wrap ((n:Int) - (m5:Int))=(C:Int):=by rw [IntKind.wrap_i64];omega
   have hn5:n5≤1048576:=by
    rw [← HN5.out,← hDD,List.length_take];omega
   have HN5B:=Lib.hid hn5;clear hn5 hm5 hok g1 g2 g3 a1 a2 a3 a4 a5 a6 e1 e2 hLL hDD hSS hCC hlf HR5;have x1:=HX5.out.cell 1;simp only [List.getElem?_toArray,List.getElem?_cons_zero,List.getElem?_cons_succ] at x1;change w5.cell? ⟨W.heap.size,1,none⟩=some (.bool false) at x1
   go_upto_region 7 with fail
   have HCV:Hid (∀ w',Below w5.heap.size w5 w' → Sem.run Try.prog (convert 22 9 (.slice p3 n3 c3)) w'=.ok (.string (str L)) w'):=Lib.hid (fun w' h => conv_at (P:=Try.prog) (HK5.out.below h) HN3.out _ _ _ Try.underlying22 Try.underlying5 Try.underlying9 c3)
   have HCL:Hid (∀ w',Below w5.heap.size w5 w' → w'.cell? ⟨W.heap.size,0,none⟩=some (.slice q5 m5 d5)):=Lib.hid (fun w' h => (HX5.out.below h HX5.out.lt).cell 0)
   have HR:Hid (Blk w5 w.heap.size 24 zc):=Lib.hid (HX.out.below HB5.out HX.out.lt);have HBd:Hid (Below w5.heap.size w5 w5.drew):=Lib.hid (below_drewN (Below.refl w5.heap.size w5) 1);have cv0:=HCV.out w5 (Below.refl _ _);have cv1:=HCV.out _ HBd.out;have cl0:=HCL.out w5 (Below.refl _ _);have cl1:=HCL.out _ HBd.out;have ne1:¬ (w.heap.size=W.heap.size):=by have:=HX.out.lt;omega
   have ne2:¬ (W.heap.size=w.heap.size):=by have:=HX.out.lt;omega
   clear x1
   go_region_law (
    (go_simp
     refine (Go.Proofs.Ytpdpgjilalojjaa.Block.clone_any _ p5 n5 c5 D (HD5.out.below HBd.out) HN5.out (by have:=HN5B.out;omega)).mono ?_
     rintro e w6 ⟨v6,rfl,ho6,hk6⟩;have HB6:Hid (Below w5.heap.size w5 w6):=Lib.hid (HBd.out.trans (hk6.below HBd.out.size (fun _ h => h.elim)))
     obtain ⟨p6,c6,rfl,hle6,hmx6,hbt6,hln6,hat6⟩:=OwnB.slice ho6;have HO6:=Lib.hid (And.intro hle6 (And.intro hmx6 (And.intro hbt6 (And.intro hln6 hat6))));have cv2:=HCV.out _ HB6.out;have cl2:=HCL.out _ HB6.out;obtain ⟨r0,r1,r2,r3,r4,r5⟩:=res3 (HR.out.below HB6.out HR.out.lt)
     clear ho6 hk6 hle6 hmx6 hbt6 hln6 hat6))
   all_goals
    have HF:=Lib.hid ((HB.out.trans (HB5.out.mono HB.out.size)).trans (HB6.out.mono ((HB.out.trans (HB5.out.mono HB.out.size))).size));clear cv0 cv1 cv2 cl0 cl1 cl2
    go_wp2
    refine bodyPost_ret (ret_beg rfl _ _ w.heap.size _ _ rfl rfl rfl #[.string (str L),.int .i64 (S:Int),.slice p6 n5 c6] _ _ _ rfl ((((HR.out.below HB6.out HR.out.lt).set 0 _ (by decide:0 < 3)).set 1 _ (by decide:1 < 3)).set 2 _ (by decide:2 < 3))) rfl ?_
    obtain ⟨q,d,h1,h2,h3⟩:=begins_some (u0:=.string (str L)) (u1:=.int .i64 (S:Int)) (u2:=.slice p6 n5 c6) HE.out HN5.out HO6.out.2.2.1 HO6.out.1 HO6.out.2.1 HF.out (Nat.le_refl _) (fun x hx e => by have h1:=(HO6.out.2.2.2.2 x hx).1;have h2:=HR.out.lt;rw [show w5.drew.heap.size=w5.heap.size from rfl] at h1;omega)
    exact ⟨q,d,Eq.trans rfl h1,h2,h3⟩
end Go.Proofs.Ytpdpgjilalojjaa.Itm
end
section
namespace Go.Proofs.Ytpdpgjilalojjaa.Itm
open Go.ChangeShapes Go.WideShapes Go.ChangeAt Go.RowKit Base Byt Txt Bk Go.Lib
set_option linter.unusedVariables false
theorem itemC4:ItmC4 where
 put:=fun w x hx _ _ _ => putI_any w x hx
 get:=fun w p n c bs hb hl hc hm hn => getI_any w p n c bs hb hl hc hm hn
 less:=fun w x y _ _ => lessI_any x y w
 same:=fun w x y hx hy => sameI_any x y w hx hy
end Go.Proofs.Ytpdpgjilalojjaa.Itm
end
