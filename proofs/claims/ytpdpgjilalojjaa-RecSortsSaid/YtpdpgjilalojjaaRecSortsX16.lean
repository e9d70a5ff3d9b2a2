/- Texts of this seat, merged: what the proof reaches. -/
import Derived.Test.YtpdpgjilalojjaaRecSortsX15
import Derived.Test.YtpdpgjilalojjaaRecSortsX4
import Derived.Deep.RegionHeldLaw
import Derived.Deep.DeepCutAuto
import Derived.Test.YtpdpgjilalojjaaRecSortsX9
import Derived.Test.YtpdpgjilalojjaaRecSortsX7
import Derived.Test.YtpdpgjilalojjaaRecSortsX11
import Derived.Laws.BitsLemmas
import Derived.Deep.RegionLaw
import Derived.Test.YtpdpgjilalojjaaRecSortsX8
import Derived.Test.YtpdpgjilalojjaaRecSortsX14
import Derived.BigQuiet
namespace Go.Proofs.Ytpdpgjilalojjaa
namespace Base
end Base
namespace Bk
end Bk
namespace Block
end Block
namespace Byt
end Byt
namespace Mem
end Mem
namespace Num
end Num
namespace Rec
end Rec
namespace Tre
end Tre
namespace Txt
end Txt
end Go.Proofs.Ytpdpgjilalojjaa
section
namespace Go.Proofs.Ytpdpgjilalojjaa.Itm
open Go.ChangeShapes Go.WideShapes Go.ChangeAt Go.RowKit Base Byt Txt Bk Rec Block Mem Tre Go.Lib
set_option linter.unusedVariables false
set_option maxRecDepth 100000
theorem own_of {w:World} {B:Nat} {e:TypeId} {s:Nat} {z:Addr} {n c:Nat} {l:List Value} (h0:0 < n) (h:w.ownsRow B e s (.slice (some z) n c) n l):(Value.slice (some z) n c).ownBlock=some z.block:=by
 rcases h.2 with ⟨h1,_⟩ | ⟨g,cap,cur,h1,_⟩
 ·cases h1
 ·cases h1;rfl
theorem own_blk {w:World} {B:Nat} {v:Value} {n:Nat} {bs:List UInt8} (h:OwnB w B v n bs):0 < n → ∀ z,(∃ c,v=.slice (some z) n c) → ∃ cur,Blk w z.block 5 cur:=fun h0 z hz => by
 obtain ⟨c,rfl⟩:=hz;rcases h.2 with ⟨h1,_⟩ | ⟨g,cap,cur,h1,_,hg,_⟩
 ·cases h1
 ·cases h1;exact ⟨cur,hg⟩
structure OwnJ (w wr:World) (xs:List IP) (k:Nat) (o:Value) (ys:List IP):Prop where
 bel:Below w.heap.size w wr
 row:wr.ownsRow w.heap.size 24 3 o ys.length (flatJ ys)
 len:ys.length=k
 same:ys.map IP.m=(xs.take k).map IP.m
 bodies:∀ y ∈ ys,DatAt wr y
 off:∀ y ∈ ys,0 < y.m.data.length → ∀ z,y.p=some z → o.ownBlock≠some z.block
 new:∀ y ∈ ys,0 < y.m.data.length → ∀ z,y.p=some z → w.heap.size≤z.block
 blk:∀ y ∈ ys,0 < y.m.data.length → ∀ z,y.p=some z → ∃ cur,Blk wr z.block 5 cur
section
variable {w wr w':World} {xs ys:List IP} {k:Nat} {o:Value}
theorem OwnJ.below (h:OwnJ w wr xs k o ys) (hb:Below wr.heap.size wr w'):OwnJ w w' xs k o ys where
 bel:=h.bel.trans (hb.mono h.bel.size)
 row:=row_below h.row hb
 len:=h.len
 same:=h.same
 bodies:=fun y hy => (h.bodies y hy).below hb
 off:=h.off
 new:=h.new
 blk:=fun y hy h0 z hz => by
  obtain ⟨cur,hc⟩:=h.blk y hy h0 z hz;exact ⟨cur,hc.below hb hc.lt⟩
theorem OwnJ.add (h:OwnJ w wr xs k o ys) (hk:k < xs.length) {y:IP} (hy:y.m=(xs.getD k zeroJ).m) (hb:DatAt wr y) (ho:0 < y.m.data.length → ∀ z,y.p=some z → o.ownBlock≠some z.block) (hw:0 < y.m.data.length → ∀ z,y.p=some z → w.heap.size≤z.block) (hk8:0 < y.m.data.length → ∀ z,y.p=some z → ∃ cur,Blk wr z.block 5 cur)
 {o':Value} (hrow:w'.ownsRow w.heap.size 24 3 o' (ys++[y]).length (flatJ (ys++[y]))) (hg:wr.grownBy w' o.ownBlock) (hn:NewOr wr o o'):OwnJ w w' xs (k+1) o' (ys++[y]):=by
 have hK:Kept (fun b => o.ownBlock=some b) wr w':=(Kept.refl _ wr).grown hg (fun k hk => .inr hk)
 have lt:∀ {b:Nat},o'.ownBlock=some b → b < wr.heap.size → o.ownBlock=some b:=fun hb hlt => by
  rcases hn _ hb with h | h
  ·exact h
  ·omega
 have all:∀ x ∈ ys++[y],DatAt wr x∧(0 < x.m.data.length → ∀ z,x.p=some z → o.ownBlock≠some z.block):=fun x hx => by
  rcases List.mem_append.1 hx with hx | hx
  ·exact ⟨h.bodies x hx,h.off x hx⟩
  ·rw [List.mem_singleton.1 hx]
   exact ⟨hb,ho⟩
 exact
 { bel:=h.bel.trans (hK.below h.bel.size (fun k hk => (World.ownsRow.lt h.row _ hk).1))
   row:=hrow
   len:=by rw [List.length_append,h.len];rfl
   same:=by rw [List.map_append,h.same,takeJ_succ xs k hk,← hy];rfl
   bodies:=fun x hx => (all x hx).1.kept hK (fun h0 z hz => (all x hx).2 h0 z hz)
   off:=fun x hx h0 z hz e => (all x hx).2 h0 z hz (lt e (bat_lt (all x hx).1.bat h0 hz))
   new:=fun x hx h0 z hz => by
    rcases List.mem_append.1 hx with hx | hx
    ·exact h.new x hx h0 z hz
    ·rw [List.mem_singleton.1 hx] at h0 hz;exact hw h0 z hz
   blk:=fun x hx h0 z hz => by
    have h1:∃ cur,Blk wr z.block 5 cur:=by
     rcases List.mem_append.1 hx with hx | hx
     ·exact h.blk x hx h0 z hz
     ·rw [List.mem_singleton.1 hx] at h0 hz;exact hk8 h0 z hz
    obtain ⟨cur,hc⟩:=h1
    exact ⟨cur,hc.keptS hK (fun e => (all x hx).2 h0 z hz e)⟩ }
end
structure Fresh (B:Nat) (q:Option Addr) (ys:List IP):Prop where
 row:0 < ys.length → ∀ z,q=some z → B≤z.block
 data:∀ y ∈ ys,0 < y.m.data.length → ∀ z,y.p=some z → B≤z.block
def Off (q:Option Addr) (ys:List IP):Prop:=∀ y ∈ ys,0 < y.m.data.length → ∀ z,y.p=some z → ∀ x,q=some x → x.block≠z.block
def OwnIPost (w:World) (n:Nat) (xs:List IP) (e:Ending) (w':World):Prop:=∃ q d ys,e=.returned (.slice q n d)∧ys.map IP.m=xs.map IP.m∧ItemsAt w' q n ys∧Fresh w.heap.size q ys∧Off q ys∧(∀ y ∈ ys,0 < y.m.data.length → ∀ z,y.p=some z → ∃ cur,Blk w' z.block 5 cur)∧Below w.heap.size w w'∧n≤d∧d≤maxLen
set_option maxHeartbeats 4000000 in
theorem rownI_any (p:Option Addr) (n c:Nat) (xs:List IP) (w:World) (h:ItemsAt w p n xs) (hn:n≤1000) (hR:∀ x ∈ xs,x.m.data.length≤140737488351232) :
 Calls Try.prog 19 #[.slice p n c] w (OwnIPost w n xs):=by
 obtain ⟨i0,hi,hz0,hz1,hz2⟩:=info_parts infoU8;have HI:=Lib.hid hi;have HZ0:=Lib.hid hz0;have HZ1:=Lib.hid hz1;have HZ2:=Lib.hid hz2;have HM:=Lib.hid h;have HL:=Lib.hid h.1;have HR:=Lib.hid hR;clear hi hz0 hz1 hz2 h hR
 go_enter Try.func19,Try.ntmps19
 go_wp2_with fail
 go_loopw [3,4] (fun o i wr => ∃ (k:Nat) (ys:List IP) (vo:Value),k≤n∧vo=o∧i=.int .i64 (k:Int)∧Hid (OwnJ w wr xs k vo ys)) (fun _ i _ => n - (RowKit.intOf i).toNat)
 case atStart => exact ⟨0,[],_,Nat.zero_le _,rfl,rfl,Lib.hid ⟨Below.refl _ _,World.ownsRow_nil _ _ _ _,rfl,rfl,fun x hx => (by cases hx),fun x hx => (by cases hx),fun x hx => (by cases hx),fun x hx => (by cases hx)⟩⟩
 case round =>
  obtain ⟨k,ys,o,hk,rfl,rfl,hO⟩:=hrel
  by_cases hlt:k < n
  ·have hkl:k < xs.length:=by rw [HL.out];exact hlt
   obtain ⟨b,o',rfl,hb,hB,hc⟩:=(HM.out.below hO.out.bel).cells3 hlt;obtain ⟨v,hv⟩:∃ v,xs.getD k zeroJ=v:=⟨_,rfl⟩;rw [hv] at hB hc;have HV:=Lib.hid hv;have HB:=Lib.hid hB;have HKL:=Lib.hid hkl;obtain ⟨c0,c1,c2⟩:=hc;have hltz:(k:Int) < (n:Int):=by omega
   clear hv hB hkl
   go_upto_region 6 with fail
   obtain ⟨w1,hw⟩:∃ w1,wr.alloc (.cells #[.string (str v.m.key),.int .i64 v.m.seq,.slice v.p v.m.data.length v.c] 24)=w1:=⟨_,rfl⟩;have hX:Blk w1 wr.heap.size 24 #[.string (str v.m.key),.int .i64 v.m.seq,.slice v.p v.m.data.length v.c]:=by rw [← hw];exact Blk.new wr _ _
   have hS:Below wr.heap.size wr w1:=by rw [← hw];exact (Below.refl _ _).alloc (Nat.le_refl _) _
   have x7:=(hX.alloc (.cells #[] 5)).cell 2;simp only [List.getElem?_toArray,List.getElem?_cons_zero,List.getElem?_cons_succ] at x7;have HX:=Lib.hid hX;have H1:=Lib.hid hS;have HB1:=Lib.hid (HB.out.below hS);rw [hw];clear hw hX hS c0 c1 c2 hb
   go_wp2_with (at_builtin;refine append_bytes rfl _ _ 22 rfl w1.heap.size 5 i0 Try.underlying22 HI.out HZ0.out HZ1.out HZ2.out _ 0 [] rfl (World.ownsRow_made w1 #[] 0 (Nat.le_refl _) (by decide) rfl) v.p v.m.data.length v.c v.m.data rfl (HB1.out.bat.alloc _) rfl ?d2 ?d3 ?_)
   case d2 => have:=HR.out _ (getJ_mem xs k HKL.out);rw [HV.out] at this;omega
   case d3 => simp
   intro v2 w2 hown hgrow;have ho2:OwnB w2 w1.heap.size v2 v.m.data.length v.m.data:=by simpa [OwnB] using hown
   have hk2:Kept noneB w1 w2:=(((Kept.refl noneB w1).alloc _)).grown hgrow (by intro k hk;simp [Value.ownBlock] at hk;omega)
   have h12:Below w1.heap.size w1 w2:=hk2.below (Nat.le_refl _) (fun _ h => h.elim)
   have hbl2:=own_blk ho2;obtain ⟨p2,c2,rfl,hle2,hmx2,hb2,_,hat2⟩:=ho2.slice;have HBL:=Lib.hid hbl2;clear hbl2;have hX2:=HX.out.below h12 HX.out.lt;have y7:=hX2.cell 2;have f7:=hX2.frozen 2;simp only [List.getElem?_toArray,List.getElem?_cons_zero,List.getElem?_cons_succ] at y7;have H2:=Lib.hid (H1.out.trans (h12.mono H1.out.size));have HB2:=Lib.hid hb2;have HAT:=Lib.hid hat2;have HX2:=Lib.hid hX2;clear hown hgrow ho2 hk2 h12 hb2 hat2 hX2 x7
   go_upto_region 7 with fail
   obtain ⟨w3,hw⟩:∃ w3,w2.setCell ⟨wr.heap.size,2,none⟩ (.slice p2 v.m.data.length c2)=w3:=⟨_,rfl⟩;have hX:Blk w3 wr.heap.size 24 #[.string (str v.m.key),.int .i64 v.m.seq,.slice p2 v.m.data.length c2]:=by rw [← hw];exact HX2.out.set 2 _ (by decide:2 < 3)
   have hk3:Kept (oneB wr.heap.size) w2 w3:=by rw [← hw];exact (Kept.refl (oneB wr.heap.size) w2).setCell (a:=⟨wr.heap.size,2,none⟩) (.inr rfl) _
   have hb3:BAt w3 p2 v.m.data.length v.m.data:=HB2.out.kept hk3 (fun _ y hy e => by
    have h1:=(HAT.out y hy).1;have h2:y.block=wr.heap.size:=e;have h3:=HX.out.lt
    omega)
   have H3:Hid (Below wr.heap.size wr w3):=Lib.hid (by rw [← hw];exact H2.out.setCell (p:=⟨wr.heap.size,2,none⟩) (Nat.le_refl _) _)
   have z0:=hX.cell 0;have z1:=hX.cell 1;have z2:=hX.cell 2;simp only [List.getElem?_toArray,List.getElem?_cons_zero,List.getElem?_cons_succ] at z0 z1 z2;rw [hw];have HO3:=Lib.hid (hO.out.below H3.out);have HBY:Hid (DatAt w3 ⟨v.m,p2,c2⟩):=Lib.hid ⟨hb3,hle2,hmx2⟩
   have HOFF:Hid (0 < v.m.data.length → ∀ z,p2=some z → o.ownBlock≠some z.block):=Lib.hid (fun _ z hz e => by
    have h1:=(HAT.out z hz).1;have h2:=(World.ownsRow.lt hO.out.row _ e).2;have h3:=H1.out.size
    omega)
   have HNEW:Hid (0 < v.m.data.length → ∀ z,p2=some z → w.heap.size≤z.block):=Lib.hid (fun _ z hz => by
    have h1:=(HAT.out z hz).1;have h3:=H1.out.size;have h4:=hO.out.bel.size
    omega)
   have HBK:Hid (0 < v.m.data.length → ∀ z,p2=some z → ∃ cur,Blk w3 z.block 5 cur):=Lib.hid (fun h0 z hz => by
    obtain ⟨cur,hc⟩:=HBL.out h0 z ⟨c2,by rw [hz]⟩
    have h1:=(HAT.out z hz).1;have h3:=HX.out.lt
    exact ⟨cur,hc.keptS hk3 (fun e => by have h2:z.block=wr.heap.size:=e;omega)⟩)
   clear hw hX hk3 hb3 y7 f7
   go_wp2_with (at_builtin;refine append_item rfl _ _ rfl w.heap.size o ys rfl (row_below HO3.out.row ((Below.refl _ _).alloc (Nat.le_refl _) _)) w3.heap.size 1 ⟨v.m,p2,c2⟩ rfl (Blk.new w3 _ _) ?e1 ?e2 ?_)
   case e1 => have:=HO3.out.len;omega
   case e2 => have:=HO3.out.bel.size;omega
   intro v4 w4 hrow hg hnw;have h34:Below w3.heap.size w3 (w3.alloc (.cells #[.string (str v.m.key),.int .i64 v.m.seq,.slice p2 v.m.data.length c2] 24)):=(Below.refl _ _).alloc (Nat.le_refl _) _;rw [show ys.length+1=(ys++[(⟨v.m,p2,c2⟩:IP)]).length by simp] at hrow
   have HO4:Hid (OwnJ w w4 xs (k+1) v4 (ys++[⟨v.m,p2,c2⟩])):=Lib.hid ((HO3.out.below h34).add (y:=⟨v.m,p2,c2⟩) HKL.out (by rw [HV.out]) (HBY.out.below h34) HOFF.out HNEW.out (fun h0 z hz => by
    obtain ⟨cur,hc⟩:=HBK.out h0 z hz
    exact ⟨cur,hc.below h34 hc.lt⟩) hrow hg hnw)
   clear hrow hg hnw h34 z0 z1 z2
   go_wp2
   go_roundw
   case rel => exact ⟨k+1,_,_,by omega,rfl,by go_num,HO4⟩
   case measure => simp [RowKit.intOf];omega
  ·obtain rfl:k=n:=by omega
   have hks:¬ ((k:Int) < (k:Int)):=by omega
   have hlen:=hO.out.len;obtain ⟨q,d,rfl,hd1,hd2,hm⟩:=items_own hO.out.row hO.out.bodies
   have FR:Hid (Fresh w.heap.size q ys∧Off q ys):=Lib.hid ⟨⟨fun h0 z hz => by
    subst hz
    exact (World.ownsRow.lt hO.out.row _ (own_of h0 hO.out.row)).1,hO.out.new⟩,fun y hy h0 z hz x hx e => by
    subst hx;have hn0:0 < ys.length:=List.length_pos_of_mem hy
    exact hO.out.off y hy h0 z hz (by rw [own_of hn0 hO.out.row,e])⟩
   rw [hlen] at hm hd1 ⊢;have HMM:=Lib.hid hm;have HD:=Lib.hid (And.intro hd1 hd2);clear hm hlen hd1 hd2
   go_wp2
   go_ret
   refine ⟨q,d,ys,rfl,?_,HMM.out,FR.out.1,FR.out.2,hO.out.blk,hO.out.bel,HD.out⟩;rw [hO.out.same,List.take_of_length_le (by rw [HL.out];exact Nat.le_refl _)]
end Go.Proofs.Ytpdpgjilalojjaa.Itm
end
section
namespace Go.Proofs.Ytpdpgjilalojjaa.Itm
open Go.ChangeShapes Go.WideShapes Go.ChangeAt Go.RowKit Base Byt Txt Bk Go.Lib
set_option linter.unusedVariables false
set_option maxRecDepth 100000
def PutIPost (w:World) (m:ItemV) (e:Ending) (w':World):Prop:=
 (mayI m=true ∧ ∃ p c,e=.returned (.tuple #[.slice p (bytesI m).length c,.bool true])∧(bytesI m).length≤c∧c≤maxLen∧BAt w' p (bytesI m).length (bytesI m)∧Below w.heap.size w w') ∨
 (mayI m=false ∧ ∃ p c,e=.returned (.tuple #[.slice p 0 c,.bool false])∧Below w.heap.size w w')
def GetIPost (w:World) (bs:List UInt8) (e:Ending) (w':World):Prop:=
 ∃ q d,e=.returned (.tuple #[.agg (itmC (beginsI bs).1 q d),.int .i64 ((beginsI bs).2.1:Nat),.bool (beginsI bs).2.2])∧DatAt w' ⟨(beginsI bs).1,q,d⟩∧Below w.heap.size w w'
def SortIPost (w:World) (n:Nat) (xs:List IP) (e:Ending) (w':World):Prop:=
 ∃ q d ys,e=.returned (.slice q n d)∧ys.map IP.m=sortI (xs.map IP.m)∧ItemsAt w' q n ys∧Fresh w.heap.size q ys∧Below w.heap.size w w'∧n≤d∧d≤maxLen
structure ItmC4:Prop where
 put:∀ (w:World) (x:IP),DatAt w x → WfI x.m → x.m.key.length≤140737488351232 → x.m.data.length≤140737488351232 → Calls Try.prog 10 #[.agg x.cs] w (PutIPost w x.m)
 get:∀ (w:World) (p:Option Addr) (n c:Nat) (bs:List UInt8),BAt w p n bs → bs.length=n → n≤c → c≤maxLen → n≤140737488351232 → Calls Try.prog 12 #[.slice p n c] w (GetIPost w bs)
 less:∀ (w:World) (x y:IP),DatAt w x → DatAt w y → Calls Try.prog 16 #[.agg x.cs,.agg y.cs] w fun e w' => e=.returned (.bool (lessI x.m y.m))∧Below w.heap.size w w'
 same:∀ (w:World) (x y:IP),DatAt w x → DatAt w y → Calls Try.prog 18 #[.agg x.cs,.agg y.cs] w fun e w' => e=.returned (.bool (decide (x.m=y.m)))∧Below w.heap.size w w'
structure ItmC:Prop where
 base:ItmC4
 sorted:∀ (w:World) (p:Option Addr) (n c:Nat) (xs:List IP),ItemsAt w p n xs → n≤c → c≤maxLen → n≤1000 → (∀ x ∈ xs,WfI x.m∧x.m.key.length≤1000000∧x.m.data.length≤1000000) → Calls Try.prog 20 #[.slice p n c] w (SortIPost w n xs)
end Go.Proofs.Ytpdpgjilalojjaa.Itm
end
section
namespace Go.Proofs.Ytpdpgjilalojjaa.Itm
open Go.ChangeShapes Go.WideShapes Go.ChangeAt Go.RowKit Base Num Byt Txt Bk Rec Block Tre Go.Lib
set_option linter.unusedVariables false
set_option maxRecDepth 100000
theorem strL_eq (a b:List UInt8):((str a).toList == (str b).toList)=decide (a=b):=by
 rw [str_toList,str_toList]
 by_cases h:a=b<;>simp [h]
set_option maxHeartbeats 1000000 in
theorem rless_any (x y:IP) (w:World) :
 Calls Try.prog 17 #[.agg x.cs,.agg y.cs] w fun e w' => e=.returned (.bool (lessI x.m y.m))∧Below w.heap.size w w':=by
 obtain ⟨⟨k,s,d⟩,p,c⟩:=x;obtain ⟨⟨k2,s2,d2⟩,p2,c2⟩:=y;obtain ⟨L,hL⟩:∃ L,lessI ⟨k,s,d⟩ ⟨k2,s2,d2⟩=L:=⟨_,rfl⟩
 have HL:Hid (L=(ltB k k2 || (decide (k=k2) && decide (s < s2)))):=Lib.hid (by
  rw [← hL];unfold lessI
  congr 2
  by_cases h:k=k2<;>simp [h])
 have t1:Op.bytesLess (str k).toList (str k2).toList=ltB k k2:=by rw [str_toList,str_toList];rfl
 have t2:=strL_eq k k2;obtain ⟨D,hD⟩:∃ D,d.length=D:=⟨_,rfl⟩;obtain ⟨D2,hD2⟩:∃ D2,d2.length=D2:=⟨_,rfl⟩;unfold IP.cs itmC
 dsimp only
 rw [hL,hD,hD2];clear hL hD hD2;obtain ⟨A,hA⟩:∃ A,ltB k k2=A:=⟨_,rfl⟩;obtain ⟨B,hB⟩:∃ B,decide (k=k2)=B:=⟨_,rfl⟩;rw [hA] at t1;rw [hB] at t2;rw [hA,hB] at HL;clear hA hB;obtain ⟨W0,hW0⟩:∃ W0,w.alloc (.cells #[.string (str k),.int .i64 s,.slice p D c] 24)=W0:=⟨_,rfl⟩;have b0:Below w.heap.size w W0:=by rw [← hW0];exact (Below.refl _ _).alloc (Nat.le_refl _) _
 have x0:Blk W0 w.heap.size 24 #[.string (str k),.int .i64 s,.slice p D c]:=by rw [← hW0];exact Blk.new w _ _
 obtain ⟨W,hW⟩:∃ W,W0.alloc (.cells #[.string (str k2),.int .i64 s2,.slice p2 D2 c2] 24)=W:=⟨_,rfl⟩;have b1:Below W0.heap.size W0 W:=by rw [← hW];exact (Below.refl _ _).alloc (Nat.le_refl _) _
 have y1:Blk W W0.heap.size 24 #[.string (str k2),.int .i64 s2,.slice p2 D2 c2]:=by rw [← hW];exact Blk.new W0 _ _
 have x1:=x0.below b1 x0.lt;have a0:=x1.cell 0;have a1:=x1.cell 1;have c0:=y1.cell 0;have c1:=y1.cell 1;simp only [List.getElem?_toArray,List.getElem?_cons_zero,List.getElem?_cons_succ] at a0 a1 c0 c1;have HB:Hid (Below w.heap.size w W):=Lib.hid (b0.trans (b1.mono b0.size));clear b0 x0 b1 y1 x1
 go_enter Try.func17,Try.ntmps17
 go_upto_region 1 with fail
 clear hW0 hW
 cases A with
 | true =>
   go_wp2
   go_ret
   exact ⟨by rw [HL.out];rfl,HB.out⟩
 | false =>
   cases B with
   | false =>
     go_wp2
     go_ret
     exact ⟨by rw [HL.out];rfl,HB.out⟩
   | true =>
     by_cases hlt:s < s2
     ·have E:Hid (L=true):=Lib.hid (by rw [HL.out,decide_eq_true hlt];rfl)
      have z:decide (s < s2)=true:=decide_eq_true hlt
      go_wp2
      go_ret
      exact ⟨by rw [E.out];rfl,HB.out⟩
     ·have E:Hid (L=false):=Lib.hid (by rw [HL.out,decide_eq_false hlt];rfl)
      have z:decide (s < s2)=false:=decide_eq_false hlt;clear hlt
      go_wp2
      go_ret
      exact ⟨by rw [E.out];rfl,HB.out⟩
theorem sameI_iff (x y:ItemV):decide (x=y)=(decide (x.key=y.key) && (decide (x.seq=y.seq) && decide (x.data=y.data))):=by
 obtain ⟨a,b,c⟩:=x;obtain ⟨d,e,f⟩:=y
 by_cases h1:a=d<;>by_cases h2:b=e<;>by_cases h3:c=f<;>simp [h1,h2,h3]
set_option maxHeartbeats 1000000 in
theorem rsame_any (x y:IP) (w:World) (hx:DatAt w x) (hy:DatAt w y) :
 Calls Try.prog 14 #[.agg x.cs,.agg y.cs] w fun e w' => e=.returned (.bool (decide (x.m=y.m)))∧Below w.heap.size w w':=by
 have hbx:=hx.bat;have hby:=hy.bat;clear hx hy;obtain ⟨⟨k,s,d⟩,p,c⟩:=x;obtain ⟨⟨k2,s2,d2⟩,p2,c2⟩:=y;obtain ⟨L,hL⟩:∃ L,decide ((⟨k,s,d⟩:ItemV)=⟨k2,s2,d2⟩)=L:=⟨_,rfl⟩
 have HL:Hid (L=(decide (k=k2) && (decide (s=s2) && decide (d=d2)))):=Lib.hid (by
  rw [← hL,sameI_iff])
 have t2:=strL_eq k k2;have t3:=strL_eq d d2;unfold IP.cs itmC
 dsimp only at hbx hby ⊢
 rw [hL];clear hL;obtain ⟨W0,hW0⟩:∃ W0,w.alloc (.cells #[.string (str k),.int .i64 s,.slice p d.length c] 24)=W0:=⟨_,rfl⟩;have b0:Below w.heap.size w W0:=by rw [← hW0];exact (Below.refl _ _).alloc (Nat.le_refl _) _
 have x0:Blk W0 w.heap.size 24 #[.string (str k),.int .i64 s,.slice p d.length c]:=by rw [← hW0];exact Blk.new w _ _
 obtain ⟨W,hW⟩:∃ W,W0.alloc (.cells #[.string (str k2),.int .i64 s2,.slice p2 d2.length c2] 24)=W:=⟨_,rfl⟩;have b1:Below W0.heap.size W0 W:=by rw [← hW];exact (Below.refl _ _).alloc (Nat.le_refl _) _
 have y1:Blk W W0.heap.size 24 #[.string (str k2),.int .i64 s2,.slice p2 d2.length c2]:=by rw [← hW];exact Blk.new W0 _ _
 have x1:=x0.below b1 x0.lt;have hB:Below w.heap.size w W:=b0.trans (b1.mono b0.size);have v1:=conv_at (P:=Try.prog) (hbx.below hB) rfl _ _ _ Try.underlying22 Try.underlying5 Try.underlying9 c;have v2:=conv_at (P:=Try.prog) (hby.below hB) rfl _ _ _ Try.underlying22 Try.underlying5 Try.underlying9 c2;change _=Go.Result.ok (Value.string (str d)) W at v1;change _=Go.Result.ok (Value.string (str d2)) W at v2;obtain ⟨A,hA⟩:∃ A,decide (k=k2)=A:=⟨_,rfl⟩;obtain ⟨E,hE⟩:∃ E,decide (d=d2)=E:=⟨_,rfl⟩;rw [hA] at t2;rw [hE] at t3;rw [hA,hE] at HL;obtain ⟨D,hD⟩:∃ D,d.length=D:=⟨_,rfl⟩
 obtain ⟨D2,hD2⟩:∃ D2,d2.length=D2:=⟨_,rfl⟩;rw [hD] at hW0 x1 v1 ⊢;rw [hD2] at hW y1 v2 ⊢;have a0:=x1.cell 0;have a1:=x1.cell 1;have a2:=x1.cell 2;have c0:=y1.cell 0;have c1:=y1.cell 1;have c3:=y1.cell 2;simp only [List.getElem?_toArray,List.getElem?_cons_zero,List.getElem?_cons_succ] at a0 a1 a2 c0 c1 c3;have HB:=Lib.hid hB;clear b0 x0 b1 y1 x1 hB hA hE hbx hby hD hD2
 go_enter Try.func14,Try.ntmps14
 go_upto_region 1 with fail
 clear hW0 hW
 cases A with
 | false =>
   go_wp2
   go_ret
   exact ⟨by rw [HL.out];rfl,HB.out⟩
 | true =>
   by_cases hs:s=s2
   ·have z:decide (s=s2)=true:=decide_eq_true hs
    have E2:Hid (L=E):=Lib.hid (by rw [HL.out,z];cases E<;>rfl)
    go_wp2
    go_ret
    exact ⟨by rw [E2.out];rfl,HB.out⟩
   ·have z:decide (s=s2)=false:=decide_eq_false hs
    have E2:Hid (L=false):=Lib.hid (by rw [HL.out,z];rfl)
    go_wp2
    go_ret
    exact ⟨by rw [E2.out];rfl,HB.out⟩
end Go.Proofs.Ytpdpgjilalojjaa.Itm
end
section
namespace Go.Proofs.Ytpdpgjilalojjaa.Itm
open Go.ChangeShapes Go.WideShapes Go.ChangeAt Go.RowKit Base Num Byt Txt Bk Rec Block Tre Go.Lib
set_option linter.unusedVariables false
set_option maxRecDepth 100000
theorem be_get (k:Nat):∀ n i,i < k → (be k n).getD i 0=UInt8.ofNat (n / 2 ^ (8 * (k - 1 - i)) % 256):=by
 induction k with
 | zero => intro n i h;omega
 | succ k ih =>
   intro n i h
   by_cases hi:i=k
   ·subst hi
    rw [be,List.getD,List.getElem?_append_right (by rw [be_length];exact Nat.le_refl _),be_length,Nat.sub_self,show 8 * (i+1 - 1 - i)=0 by omega,Nat.pow_zero,Nat.div_one]
    rfl
   ·have h2:=ih (n / 256) i (by omega)
    rw [List.getD] at h2;rw [be,List.getD,List.getElem?_append_left (by rw [be_length];omega),h2,show 8 * (k+1 - 1 - i)=8+8 * (k - 1 - i) by omega,Nat.pow_add,← Nat.div_div_eq_div_mul]
theorem be_take_succ (k n i:Nat) (h:i < k):(be k n).take (i+1)=(be k n).take i++[UInt8.ofNat (n / 2 ^ (8 * (k - 1 - i)) % 256)]:=by
 rw [← be_get k n i h,List.take_add_one,List.getD,List.getElem?_eq_getElem (by rw [be_length];exact h)]
 rfl
theorem bat_one (w:World) (x:UInt8):BAt (w.alloc (.cells #[.int .u8 (x.toNat:Int)] 5)) (some ⟨w.heap.size,0,none⟩) 1 [x]:=fun _ => ⟨w.heap.size,0,rfl,fun i hi => by
 obtain rfl:i=0:=by omega
 rw [(Blk.new w _ _).cell]
 rfl⟩
def NumPost (W:World) (B:Nat) (m:Nat) (xs:List UInt8) (e:Ending) (w':World):Prop:=∃ v,e=.returned v∧OwnB w' B v m xs∧Below W.heap.size W w'
set_option maxHeartbeats 2000000 in
theorem numberI_any (W:World) (B:Nat) (hWB:W.heap.size≤B) (v:Value) (m:Nat) (xs:List UInt8) (size n:Nat) (si ni:Int) (hsi:si=(size:Int)) (hni:ni=(n:Int)) (w:World) (hown:OwnB w B v m xs) (hb:Below W.heap.size W w) (hB:B≤w.heap.size) (hm:m≤140737488300000) (hs:0 < size∧size≤8) (hn:n≤9223372036854775807) :
 Calls Try.prog 24 #[v,.int .i64 si,.int .i64 ni] w (NumPost W B (m+size) (xs++be size n)):=by
 subst hsi;subst hni;have HO:=Lib.hid hown;have HB:=Lib.hid hb;have HS:=Lib.hid (And.intro hWB hB);obtain ⟨hs0,hs8⟩:=hs;clear hown hb hWB hB
 go_enter Try.func24,Try.ntmps24
 go_wp2_with fail
 go_loopw [0,9] (fun b i wr => ∃ (k:Nat) (u:Value),k≤size∧b=u∧i=.int .i64 (k:Int)∧Hid (OwnB wr B u (m+k) (xs++(be size n).take k))∧Hid (Below W.heap.size W wr∧B≤wr.heap.size)) (fun _ i _ => size - (RowKit.intOf i).toNat)
 case atStart => exact ⟨0,v,Nat.zero_le _,rfl,rfl,Lib.hid (by rw [List.take_zero,List.append_nil];exact HO.out),Lib.hid ⟨HB.out,HS.out.2⟩⟩
 case round =>
  obtain ⟨k,u,hk,rfl,rfl,hO,hW⟩:=hrel
  by_cases hlt:k < size
  ·have hltz:(k:Int) < (size:Int):=by omega
   obtain ⟨s,hs⟩:∃ s,8 * (size - 1 - k)=s:=⟨_,rfl⟩;have hsz:(8:Int) * ((size:Int) - 1 - (k:Int))=(s:Int):=by omega
   have hs64:s < 64:=by omega
   obtain ⟨x,hX⟩:∃ x,UInt8.ofNat (n / 2 ^ s % 256)=x:=⟨_,rfl⟩
   have hXZ:((n:Int) / 2 ^ s) % 256=(x.toNat:Int):=by
    rw [← hX];simp
   have HT:Hid ((be size n).take (k+1)=(be size n).take k++[x]):=Lib.hid (by rw [be_take_succ size n k hlt,hs,hX])
   have HO1:=Lib.hid (own_below hO.out ((Below.refl _ wr).alloc (Nat.le_refl _) (.cells #[.int .u8 (x.toNat:Int)] 5)));have HW1:=Lib.hid (hW.out.1.alloc (hW.out.1.size) (.cells #[.int .u8 (x.toNat:Int)] 5));clear hs hX
   go_wp2_with (at_builtin;refine append_own rfl _ _ rfl B _ _ _ rfl HO1.out (some ⟨wr.heap.size,0,none⟩) 1 1 [x] rfl (bat_one wr x) rfl (by omega) (by rw [World.size_alloc];have:=hW.out.2;omega) ?_)
   intro v1 w1 hown hgrow;have HO2:Hid (OwnB w1 B v1 (m+(k+1)) (xs++(be size n).take (k+1))):=Lib.hid (by rw [HT.out,← Nat.add_assoc];simpa only [List.append_assoc] using hown)
   have HW2:Hid (Below W.heap.size W w1∧B≤w1.heap.size):=Lib.hid ⟨own_grown HW1.out HO1.out HS.out.1 hgrow,by have h1:=hgrow.size;rw [World.size_alloc] at h1;have:=hW.out.2;omega⟩
   clear hown hgrow
   go_wp2_with fail
   go_roundw
   case rel => exact ⟨k+1,v1,by omega,rfl,by go_num,HO2,HW2⟩
   case measure => simp [RowKit.intOf];omega
  ·obtain rfl:k=size:=by omega
   have hks:¬ ((k:Int) < (k:Int)):=by omega
   go_wp2
   go_ret
   exact ⟨_,rfl,by have:=hO.out;rwa [List.take_of_length_le (by rw [be_length];exact Nat.le_refl _)] at this,hW.out.1⟩
end Go.Proofs.Ytpdpgjilalojjaa.Itm
end
section
namespace Go.Proofs.Ytpdpgjilalojjaa.Itm
open Go.ChangeShapes Go.WideShapes Go.ChangeAt Go.RowKit Base Num Byt Txt Bk Rec Block Tre Go.Lib
set_option linter.unusedVariables false
set_option maxRecDepth 100000
theorem pathLess_any (a b:List UInt8) (w:World) :
 Calls Try.prog 31 #[.string (str a),.string (str b)] w fun e w' => e=.returned (.bool (ltB a b))∧w=w':=by
 have t1:Op.bytesLess (str a).toList (str b).toList=ltB a b:=by rw [str_toList,str_toList];rfl
 obtain ⟨L,hL⟩:∃ L,ltB a b=L:=⟨_,rfl⟩;rw [hL] at t1 ⊢;clear hL
 go_enter Try.func31,Try.ntmps31
 go_wp2
 go_ret
 exact ⟨rfl,rfl⟩
theorem equalI_any (p q:Option Addr) (n c m d:Nat) (a b:List UInt8) (w:World) (ha:a.length=n) (hb:b.length=m) (h1:BAt w p n a) (h2:BAt w q m b) :
 Calls Try.prog 32 #[.slice p n c,.slice q m d] w fun e w' => e=.returned (.bool (decide (a=b)))∧w=w':=by
 have c1:(convert 22 9 (.slice p n c)).run Try.prog w=.ok (.string (str a)) w:=conv_at h1 ha _ _ _ Try.underlying22 Try.underlying5 Try.underlying9 _;have c2:(convert 22 9 (.slice q m d)).run Try.prog w=.ok (.string (str b)) w:=conv_at h2 hb _ _ _ Try.underlying22 Try.underlying5 Try.underlying9 _;have e1:=strL_eq a b;clear h1 h2
 go_enter Try.func32,Try.ntmps32
 go_wp2
 go_ret
 exact ⟨rfl,rfl⟩
set_option maxHeartbeats 1000000 in
theorem lessI_any (x y:IP) (w:World) :
 Calls Try.prog 16 #[.agg x.cs,.agg y.cs] w fun e w' => e=.returned (.bool (lessI x.m y.m))∧Below w.heap.size w w':=by
 obtain ⟨⟨k,s,d⟩,p,c⟩:=x;obtain ⟨⟨k2,s2,d2⟩,p2,c2⟩:=y;obtain ⟨L,hL⟩:∃ L,lessI ⟨k,s,d⟩ ⟨k2,s2,d2⟩=L:=⟨_,rfl⟩
 have HL:Hid (L=(ltB k k2 || (decide (k=k2) && decide (s < s2)))):=Lib.hid (by
  rw [← hL];unfold lessI
  congr 2
  by_cases h:k=k2<;>simp [h])
 have HP:=Lib.hid (fun w => pathLess_any k k2 w)
 have t2:=strL_eq k k2;obtain ⟨D,hD⟩:∃ D,d.length=D:=⟨_,rfl⟩;obtain ⟨D2,hD2⟩:∃ D2,d2.length=D2:=⟨_,rfl⟩;unfold IP.cs itmC
 dsimp only
 rw [hL,hD,hD2];clear hL hD hD2;obtain ⟨A,hA⟩:∃ A,ltB k k2=A:=⟨_,rfl⟩;obtain ⟨B,hB⟩:∃ B,decide (k=k2)=B:=⟨_,rfl⟩;rw [hA] at HP;rw [hB] at t2;rw [hA,hB] at HL;clear hA hB;obtain ⟨W0,hW0⟩:∃ W0,w.alloc (.cells #[.string (str k),.int .i64 s,.slice p D c] 24)=W0:=⟨_,rfl⟩;have b0:Below w.heap.size w W0:=by rw [← hW0];exact (Below.refl _ _).alloc (Nat.le_refl _) _
 have x0:Blk W0 w.heap.size 24 #[.string (str k),.int .i64 s,.slice p D c]:=by rw [← hW0];exact Blk.new w _ _
 obtain ⟨W,hW⟩:∃ W,W0.alloc (.cells #[.string (str k2),.int .i64 s2,.slice p2 D2 c2] 24)=W:=⟨_,rfl⟩;have b1:Below W0.heap.size W0 W:=by rw [← hW];exact (Below.refl _ _).alloc (Nat.le_refl _) _
 have y1:Blk W W0.heap.size 24 #[.string (str k2),.int .i64 s2,.slice p2 D2 c2]:=by rw [← hW];exact Blk.new W0 _ _
 have x1:=x0.below b1 x0.lt;have a0:=x1.cell 0;have a1:=x1.cell 1;have c0:=y1.cell 0;have c1:=y1.cell 1;simp only [List.getElem?_toArray,List.getElem?_cons_zero,List.getElem?_cons_succ] at a0 a1 c0 c1;have HB:Hid (Below w.heap.size w W):=Lib.hid (b0.trans (b1.mono b0.size));clear b0 x0 b1 y1 x1
 go_enter Try.func16,Try.ntmps16
 go_upto_region 1 with fail
 clear hW0 hW
 go_wp2_with fail
 refine (HP.out W).mono ?_
 rintro e w' ⟨rfl,rfl⟩
 cases A with
 | true =>
   go_wp2
   go_ret
   exact ⟨by rw [HL.out];rfl,HB.out⟩
 | false =>
   cases B with
   | false =>
     go_wp2
     go_ret
     exact ⟨by rw [HL.out];rfl,HB.out⟩
   | true =>
     by_cases hlt:s < s2
     ·have E:Hid (L=true):=Lib.hid (by rw [HL.out,decide_eq_true hlt];rfl)
      have z:decide (s < s2)=true:=decide_eq_true hlt
      go_wp2
      go_ret
      exact ⟨by rw [E.out];rfl,HB.out⟩
     ·have E:Hid (L=false):=Lib.hid (by rw [HL.out,decide_eq_false hlt];rfl)
      have z:decide (s < s2)=false:=decide_eq_false hlt;clear hlt
      go_wp2
      go_ret
      exact ⟨by rw [E.out];rfl,HB.out⟩
set_option maxHeartbeats 1000000 in
theorem sameI_any (x y:IP) (w:World) (hx:DatAt w x) (hy:DatAt w y) :
 Calls Try.prog 18 #[.agg x.cs,.agg y.cs] w fun e w' => e=.returned (.bool (decide (x.m=y.m)))∧Below w.heap.size w w':=by
 have hbx:=hx.bat;have hby:=hy.bat;clear hx hy;obtain ⟨⟨k,s,d⟩,p,c⟩:=x;obtain ⟨⟨k2,s2,d2⟩,p2,c2⟩:=y;obtain ⟨L,hL⟩:∃ L,decide ((⟨k,s,d⟩:ItemV)=⟨k2,s2,d2⟩)=L:=⟨_,rfl⟩
 have HL:Hid (L=(decide (k=k2) && (decide (s=s2) && decide (d=d2)))):=Lib.hid (by
  rw [← hL,sameI_iff])
 have t2:=strL_eq k k2;unfold IP.cs itmC
 dsimp only at hbx hby ⊢
 rw [hL];clear hL;obtain ⟨W0,hW0⟩:∃ W0,w.alloc (.cells #[.string (str k),.int .i64 s,.slice p d.length c] 24)=W0:=⟨_,rfl⟩;have b0:Below w.heap.size w W0:=by rw [← hW0];exact (Below.refl _ _).alloc (Nat.le_refl _) _
 have x0:Blk W0 w.heap.size 24 #[.string (str k),.int .i64 s,.slice p d.length c]:=by rw [← hW0];exact Blk.new w _ _
 obtain ⟨W,hW⟩:∃ W,W0.alloc (.cells #[.string (str k2),.int .i64 s2,.slice p2 d2.length c2] 24)=W:=⟨_,rfl⟩;have b1:Below W0.heap.size W0 W:=by rw [← hW];exact (Below.refl _ _).alloc (Nat.le_refl _) _
 have y1:Blk W W0.heap.size 24 #[.string (str k2),.int .i64 s2,.slice p2 d2.length c2]:=by rw [← hW];exact Blk.new W0 _ _
 have x1:=x0.below b1 x0.lt;have hB:Below w.heap.size w W:=b0.trans (b1.mono b0.size);have HEQ:=Lib.hid (equalI_any p p2 _ c _ c2 d d2 W rfl rfl (hbx.below hB) (hby.below hB));obtain ⟨A,hA⟩:∃ A,decide (k=k2)=A:=⟨_,rfl⟩;obtain ⟨E,hE⟩:∃ E,decide (d=d2)=E:=⟨_,rfl⟩;rw [hA] at t2;rw [hE] at HEQ;rw [hA,hE] at HL;obtain ⟨D,hD⟩:∃ D,d.length=D:=⟨_,rfl⟩;obtain ⟨D2,hD2⟩:∃ D2,d2.length=D2:=⟨_,rfl⟩;rw [hD] at hW0 x1 HEQ ⊢;rw [hD2] at hW y1 HEQ ⊢;have a0:=x1.cell 0;have a1:=x1.cell 1;have a2:=x1.cell 2;have c0:=y1.cell 0;have c1:=y1.cell 1;have c3:=y1.cell 2
 simp only [List.getElem?_toArray,List.getElem?_cons_zero,List.getElem?_cons_succ] at a0 a1 a2 c0 c1 c3;have HB:=Lib.hid hB;clear b0 x0 b1 y1 x1 hB hA hE hbx hby hD hD2
 go_enter Try.func18,Try.ntmps18
 go_upto_region 1 with fail
 clear hW0 hW
 cases A with
 | false =>
   go_wp2
   go_ret
   exact ⟨by rw [HL.out];rfl,HB.out⟩
 | true =>
   by_cases hs:s=s2
   ·have z:(s == s2)=true:=by simpa using hs
    have E2:Hid (L=E):=Lib.hid (by rw [HL.out,decide_eq_true hs];cases E<;>rfl)
    go_wp2_with fail
    refine HEQ.out.mono ?_
    rintro e w' ⟨rfl,rfl⟩
    go_wp2
    go_ret
    exact ⟨by rw [E2.out];rfl,HB.out⟩
   ·have z:(s == s2)=false:=by simpa using hs
    have E2:Hid (L=false):=Lib.hid (by rw [HL.out,decide_eq_false hs];rfl)
    clear hs
    go_wp2
    go_ret
    exact ⟨by rw [E2.out];rfl,HB.out⟩
theorem inI_any (s:Int) (w:World) :
 Calls Try.prog 36 #[.int .i64 s,.int .i64 0,.int .i64 4611686018427387904] w fun e w' => e=.returned (.bool (decide (0≤s∧s≤4611686018427387904)))∧w=w':=by
 by_cases h1:0≤s
 ·by_cases h2:s≤4611686018427387904
  ·rw [decide_eq_true (show 0≤s∧s≤4611686018427387904 from ⟨h1,h2⟩)]
   go_enter Try.func36,Try.ntmps36
   go_wp2
   go_ret
   exact ⟨rfl,rfl⟩
  ·rw [decide_eq_false (show ¬ (0≤s∧s≤4611686018427387904) from fun h => h2 h.2)]
   go_enter Try.func36,Try.ntmps36
   go_wp2
   go_ret
   exact ⟨rfl,rfl⟩
 ·rw [decide_eq_false (show ¬ (0≤s∧s≤4611686018427387904) from fun h => h1 h.1)]
  go_enter Try.func36,Try.ntmps36
  go_wp2
  go_ret
  exact ⟨rfl,rfl⟩
theorem mayBe_any (x:IP) (w:World) :
 Calls Try.prog 23 #[.agg x.cs] w fun e w' => e=.returned (.bool (mayI x.m))∧Below w.heap.size w w':=by
 obtain ⟨⟨k,s,d⟩,p,c⟩:=x;have hk:(str k).size=k.length:=str_size _;obtain ⟨K,hK⟩:∃ K,k.length=K:=⟨_,rfl⟩;obtain ⟨D,hD⟩:∃ D,d.length=D:=⟨_,rfl⟩
 have HM:Hid (mayI ⟨k,s,d⟩=(decide (K≤200) && (decide (0≤s∧s≤4611686018427387904) && decide (D≤1048576)))):=Lib.hid (by
  unfold mayI;rw [hK,hD]
  by_cases h1:K≤200<;>by_cases h2:0≤s∧s≤4611686018427387904<;>by_cases h3:D≤1048576<;>simp [h1,h2,h3]<;>(intro a;exact fun b => h2 ⟨a,b⟩))
 have HIN:=Lib.hid (fun w => inI_any s w)
 unfold IP.cs itmC
 dsimp only
 rw [hK] at hk;rw [hD];clear hK hD;obtain ⟨A,hA⟩:∃ A,decide (K≤200)=A:=⟨_,rfl⟩;obtain ⟨B,hB⟩:∃ B,decide (0≤s∧s≤4611686018427387904)=B:=⟨_,rfl⟩;obtain ⟨E,hE⟩:∃ E,decide (D≤1048576)=E:=⟨_,rfl⟩;rw [hA,hB,hE] at HM;rw [hB] at HIN;have z1:decide ((K:Int)≤200)=A:=by rw [← hA];congr 1;exact propext (by omega)
 have z3:decide ((D:Int)≤1048576)=E:=by rw [← hE];congr 1;exact propext (by omega)
 clear hA hB hE;obtain ⟨W,hW⟩:∃ W,w.alloc (.cells #[.string (str k),.int .i64 s,.slice p D c] 24)=W:=⟨_,rfl⟩;have hB:Below w.heap.size w W:=by rw [← hW];exact (Below.refl _ _).alloc (Nat.le_refl _) _
 have hX:Blk W w.heap.size 24 #[.string (str k),.int .i64 s,.slice p D c]:=by rw [← hW];exact Blk.new w _ _
 have c0:=hX.cell 0;have c1:=hX.cell 1;have c2:=hX.cell 2;simp only [List.getElem?_toArray,List.getElem?_cons_zero,List.getElem?_cons_succ] at c0 c1 c2;have HB:=Lib.hid hB;clear hB hX
 go_enter Try.func23,Try.ntmps23
 go_upto_region 1 with fail
 clear hW
 cases A with
 | false =>
   go_wp2
   go_ret
   exact ⟨by rw [HM.out];rfl,HB.out⟩
 | true =>
   go_wp2_with fail
   refine (HIN.out W).mono ?_
   rintro e w' ⟨rfl,rfl⟩
   cases B with
   | false =>
     go_wp2
     go_ret
     exact ⟨by rw [HM.out];rfl,HB.out⟩
   | true =>
     go_wp2
     go_ret
     exact ⟨by rw [HM.out];rfl,HB.out⟩
def orderI (a b:ItemV):Int:=if lessI a b=true then -1 else if lessI b a=true then 1 else 0
theorem orderI_neg (a b:ItemV):decide (orderI a b < 0)=lessI a b:=by
 unfold orderI
 cases lessI a b<;>cases lessI b a<;>rfl
set_option maxHeartbeats 1000000 in
theorem orderI_any (x y:IP) (w:World) :
 Calls Try.prog 35 #[.agg x.cs,.agg y.cs] w fun e w' => e=.returned (.int .i64 (orderI x.m y.m))∧Below w.heap.size w w':=by
 have H1:=Lib.hid (fun w => lessI_any x y w)
 have H2:=Lib.hid (fun w => lessI_any y x w)
 obtain ⟨O,hO⟩:∃ O,orderI x.m y.m=O:=⟨_,rfl⟩;have HO:=Lib.hid hO;rw [hO];clear hO;obtain ⟨A,hA⟩:∃ A,lessI x.m y.m=A:=⟨_,rfl⟩;obtain ⟨B,hB⟩:∃ B,lessI y.m x.m=B:=⟨_,rfl⟩;rw [hA] at H1;rw [hB] at H2;have HV:Hid (O=if A=true then -1 else if B=true then 1 else 0):=Lib.hid (by rw [← HO.out];unfold orderI;rw [hA,hB])
 clear hA hB HO;obtain ⟨⟨k,s,d⟩,p,c⟩:=x;obtain ⟨⟨k2,s2,d2⟩,p2,c2⟩:=y;unfold IP.cs itmC at H1 H2 ⊢
 dsimp only at H1 H2 ⊢
 obtain ⟨D,hD⟩:∃ D,d.length=D:=⟨_,rfl⟩;obtain ⟨D2,hD2⟩:∃ D2,d2.length=D2:=⟨_,rfl⟩;rw [hD,hD2] at H1 H2 ⊢;clear hD hD2;obtain ⟨W0,hW0⟩:∃ W0,w.alloc (.cells #[.string (str k),.int .i64 s,.slice p D c] 24)=W0:=⟨_,rfl⟩;have b0:Below w.heap.size w W0:=by rw [← hW0];exact (Below.refl _ _).alloc (Nat.le_refl _) _
 have x0:Blk W0 w.heap.size 24 #[.string (str k),.int .i64 s,.slice p D c]:=by rw [← hW0];exact Blk.new w _ _
 obtain ⟨W,hW⟩:∃ W,W0.alloc (.cells #[.string (str k2),.int .i64 s2,.slice p2 D2 c2] 24)=W:=⟨_,rfl⟩;have b1:Below W0.heap.size W0 W:=by rw [← hW];exact (Below.refl _ _).alloc (Nat.le_refl _) _
 have y1:Blk W W0.heap.size 24 #[.string (str k2),.int .i64 s2,.slice p2 D2 c2]:=by rw [← hW];exact Blk.new W0 _ _
 have x1:=x0.below b1 x0.lt;have HX:=Lib.hid (And.intro x1 y1);have a0:=x1.cell 0;have a1:=x1.cell 1;have a2:=x1.cell 2;have c0:=y1.cell 0;have c1:=y1.cell 1;have c3:=y1.cell 2;simp only [List.getElem?_toArray,List.getElem?_cons_zero,List.getElem?_cons_succ] at a0 a1 a2 c0 c1 c3;have HB:Hid (Below w.heap.size w W):=Lib.hid (b0.trans (b1.mono b0.size));clear b0 x0 b1 y1 x1
 go_enter Try.func35,Try.ntmps35
 go_upto_region 1 with fail
 clear hW0 hW
 go_wp2_with fail
 refine (H1.out W).mono ?_
 rintro e w1 ⟨rfl,hb1⟩;have HB1:=Lib.hid (HB.out.trans (hb1.mono HB.out.size));have hx:=HX.out.1.below hb1 HX.out.1.lt;have hy:=HX.out.2.below hb1 HX.out.2.lt;clear a0 a1 a2 c0 c1 c3 hb1
 cases A with
 | true =>
   clear hx hy
   go_wp2
   go_ret
   exact ⟨by rw [HV.out];rfl,HB1.out⟩
 | false =>
   have a0:=hx.cell 0;have a1:=hx.cell 1;have a2:=hx.cell 2;have c0:=hy.cell 0;have c1:=hy.cell 1;have c3:=hy.cell 2;simp only [List.getElem?_toArray,List.getElem?_cons_zero,List.getElem?_cons_succ] at a0 a1 a2 c0 c1 c3;clear hx hy
   go_wp2_with fail
   refine (H2.out w1).mono ?_
   rintro e w2 ⟨rfl,hb2⟩;have HB2:=Lib.hid (HB1.out.trans (hb2.mono HB1.out.size));clear a0 a1 a2 c0 c1 c3 hb2
   cases B with
   | true =>
     go_wp2
     go_ret
     exact ⟨by rw [HV.out];rfl,HB2.out⟩
   | false =>
     go_wp2
     go_ret
     exact ⟨by rw [HV.out];rfl,HB2.out⟩
end Go.Proofs.Ytpdpgjilalojjaa.Itm
end
section
namespace Go.Proofs.Ytpdpgjilalojjaa.Itm
open Go.ChangeShapes Go.WideShapes Go.ChangeAt Go.RowKit Base Num Byt Txt Bk Rec Block Tre Go.Lib
set_option linter.unusedVariables false
set_option maxRecDepth 100000
set_option maxHeartbeats 4000000 in
theorem putI_any (w:World) (x:IP) (hx:DatAt w x):Calls Try.prog 10 #[.agg x.cs] w (PutIPost w x.m):=by
 obtain ⟨i0,hi,hz0,hz1,hz2⟩:=info_parts Field.infoByte;have HI:=Lib.hid hi;have HZ0:=Lib.hid hz0;have HZ1:=Lib.hid hz1;have HZ2:=Lib.hid hz2;clear hi hz0 hz1 hz2;have HMB:=Lib.hid (fun w => mayBe_any x w)
 have hbt:=hx.bat;clear hx;obtain ⟨⟨k,s,d⟩,p,c⟩:=x
 dsimp only at hbt HMB ⊢
 obtain ⟨M,hM⟩:∃ M,mayI ⟨k,s,d⟩=M:=⟨_,rfl⟩;rw [hM] at HMB;have HM:=Lib.hid hM;have hks:(str k).size=k.length:=str_size _;unfold IP.cs itmC at HMB ⊢
 dsimp only at HMB ⊢
 obtain ⟨KL,hKL⟩:∃ KL,k.length=KL:=⟨_,rfl⟩;obtain ⟨DL,hDL⟩:∃ DL,d.length=DL:=⟨_,rfl⟩;have HKL:=Lib.hid hKL;have HDL:=Lib.hid hDL;rw [hKL] at hks;rw [hDL] at hbt HMB ⊢;obtain ⟨W,hW⟩:∃ W,w.alloc (.cells #[.string (str k),.int .i64 s,.slice p DL c] 24)=W:=⟨_,rfl⟩;have hB:Below w.heap.size w W:=by rw [← hW];exact (Below.refl _ _).alloc (Nat.le_refl _) _
 have hX:Blk W w.heap.size 24 #[.string (str k),.int .i64 s,.slice p DL c]:=by rw [← hW];exact Blk.new w _ _
 have HC:Hid (∀ w',Below W.heap.size W w' → w'.cell? ⟨w.heap.size,0,none⟩=some (.string (str k))∧w'.cell? ⟨w.heap.size,1,none⟩=some (.int .i64 s)∧w'.cell? ⟨w.heap.size,2,none⟩=some (.slice p DL c)):=Lib.hid (fun w' h => by
  have h1:=hX.below h hX.lt
  exact ⟨h1.cell 0,h1.cell 1,h1.cell 2⟩)
 have HBT:=Lib.hid (hbt.below hB);have HB:=Lib.hid hB;have HB0:Hid (Below W.heap.size W W):=Lib.hid (Below.refl _ _);clear hB hX hbt hM hKL hDL;obtain ⟨c0,c1,c2⟩:=HC.out W HB0.out
 go_enter Try.func10,Try.ntmps10
 go_upto_region 1 with fail
 clear hW
 go_wp2_with fail
 refine (HMB.out W).mono ?_
 rintro e w1 ⟨rfl,hb1⟩;have HB1:=Lib.hid hb1;clear c0 c1 c2 hb1
 cases M with
 | false =>
   go_wp2
   go_ret2
   exact .inr ⟨HM.out,none,0,rfl,HB.out.trans (HB1.out.mono HB.out.size)⟩
 | true =>
   obtain ⟨f1,f2,f3,f4⟩:=mayI_facts HM.out
   dsimp only at f1 f2 f3 f4
   rw [HKL.out] at f1;rw [HDL.out] at f4;obtain ⟨S,rfl⟩:∃ S:Nat,s=(S:Int):=⟨s.toNat,by omega⟩
   have HE:Hid (bytesI ⟨k,(S:Int),d⟩=be 4 KL++k++be 8 S++be 4 DL++d):=Lib.hid (by rw [← HKL.out,← HDL.out];rfl)
   have HLN:Hid ((bytesI ⟨k,(S:Int),d⟩).length=4+KL+8+4+DL):=Lib.hid (by rw [bytesI_length];dsimp only;rw [HKL.out,HDL.out];omega)
   have F:Hid (KL≤200∧S≤4611686018427387904∧DL≤1048576):=Lib.hid ⟨f1,by omega,f4⟩
   obtain ⟨c0,c1,c2⟩:=HC.out w1 HB1.out;obtain ⟨C,hC⟩:∃ C,4+KL+8+4+DL=C:=⟨_,rfl⟩
   have hCz:IntKind.i64.wrap (IntKind.i64.wrap (IntKind.i64.wrap (IntKind.i64.wrap (4+(KL:Int))+8)+4)+(DL:Int))=(C:Int):=by
    simp only [IntKind.wrap_i64];omega
   have hCz2:(4:Int)+(KL:Int)+8+4+(DL:Int)=(C:Int):=by omega
   have HCC:=Lib.hid hC;clear hC c1 f2 f3
   go_wp2_with (at_make;refine wpList_make_own _ rfl _ _ 22 rfl W.heap.size 5 i0 (.int .u8 0) 1 Try.underlying22 HI.out HZ0.out HZ1.out .i64 .i64 (C:Int) C rfl rfl rfl ?b1 ?b2 HB1.out.size ?_)
   case b1 => rw [HZ2.out];have:=F.out;have:=HCC.out;omega
   case b2 => unfold maxLen;have:=F.out;have:=HCC.out;omega
   intro w2 hown hgrow;have HB2:Hid (Below W.heap.size W w2):=Lib.hid (HB1.out.grown hgrow HB1.out.size (by intro k hk;cases hk))
   have HO2:Hid (OwnB w2 W.heap.size (.slice (some ⟨w1.heap.size,0,none⟩) 0 C) 0 []):=Lib.hid hown;obtain ⟨v2,hv2⟩:∃ v2,Value.slice (some ⟨w1.heap.size,0,none⟩) 0 C=v2:=⟨_,rfl⟩;have HV2:=Lib.hid hv2;rw [hv2] at HO2 ⊢;have HB2d:Hid (Below W.heap.size W w2.drew):=Lib.hid (below_drewN HB2.out 1);have HO2d:Hid (OwnB w2.drew W.heap.size v2 0 []):=Lib.hid (own_below HO2.out (below_drewN (Below.refl _ _) 1));clear hown hgrow hv2 c0 c2 hCz hCz2 f1 f4;obtain ⟨c0,c1,c2⟩:=HC.out w2 HB2.out;clear c1 c2
   go_wp2_with fail
   go_region_held_law (fun w' => w'.cell? ⟨w.heap.size,0,none⟩=some (.string (str k))) (first | exact (HC.out _ HBB.out).1 | exact (HC.out _ HB2d.out).1 | exact (HC.out _ HB2.out).1) (first
    | (go_at_call 24
       refine (numberI_any W W.heap.size (Nat.le_refl _) v2 0 [] 4 KL _ _ rfl rfl _ HO2d.out HB2d.out HB2d.out.size (by omega) (by omega) (by have:=F.out.1;omega)).mono ?_
       rintro e wa ⟨v3,rfl,hov,hba⟩;rw [Nat.zero_add,List.nil_append] at hov;have HOV:=Lib.hid hov;have HBB:=Lib.hid hba
       clear hov hba)
    | (refine step_str rfl (.tmp 23) (.tmp 25) rfl W.heap.size _ 4 (be 4 KL) rfl HOV.out k rfl (by have:=F.out.1;rw [HKL.out];omega) HBB.out.size ?_
       intro v4 w4 hown hgrow;have HBB:=Lib.hid (own_grown HBB.out HOV.out (Nat.le_refl _) hgrow);have HOV:Hid (OwnB _ _ v4 (4+KL) (be 4 KL++k)):=Lib.hid (by rw [HKL.out] at hown;exact hown)
       clear hown hgrow))
   all_goals
    obtain ⟨c0,c1,c2⟩:=HC.out _ HBB.out;clear c0 c2
    go_wp2_with fail
    refine (numberI_any W W.heap.size (Nat.le_refl _) _ _ _ 8 S _ _ rfl rfl _ HOV.out HBB.out HBB.out.size (by have:=F.out;omega) (by omega) (by have:=F.out.2.1;omega)).mono ?_
    rintro e w5 ⟨v5,rfl,hov,hba⟩;have HO5:=Lib.hid hov;have HB5:=Lib.hid hba;have HB5d:Hid (Below W.heap.size W w5.drew):=Lib.hid (below_drewN HB5.out 1);have HO5d:Hid (OwnB w5.drew W.heap.size v5 (4+KL+8) (be 4 KL++k++be 8 S)):=Lib.hid (own_below HO5.out (below_drewN (Below.refl _ _) 1));clear hov hba c1 HBB HOV;obtain ⟨c0,c1,c2⟩:=HC.out w5 HB5.out;clear c0 c1
    go_wp2_with fail
    go_region_held_law (fun w' => w'.cell? ⟨w.heap.size,2,none⟩=some (.slice p DL c)) (first | exact (HC.out _ HBB.out).2.2 | exact (HC.out _ HB5d.out).2.2 | exact (HC.out _ HB5.out).2.2) (first
     | (go_at_call 24
        refine (numberI_any W W.heap.size (Nat.le_refl _) v5 _ _ 4 DL _ _ rfl rfl _ HO5d.out HB5d.out HB5d.out.size (by have:=F.out;omega) (by omega) (by have:=F.out.2.2;omega)).mono ?_
        rintro e wa ⟨v6,rfl,hov,hba⟩;have HOV:=Lib.hid hov;have HBB:=Lib.hid hba
        clear hov hba)
     | (refine step_own rfl (.tmp 35) (.tmp 37) rfl W.heap.size _ _ _ rfl HOV.out p DL c d rfl (HBT.out.below HBB.out) HDL.out (by have:=F.out;omega) HBB.out.size ?_
        intro v7 w7 hown hgrow;have HBB:=Lib.hid (own_grown HBB.out HOV.out (Nat.le_refl _) hgrow);have HOV:=Lib.hid hown
        clear hown hgrow))
    all_goals
     obtain ⟨p7,c7,rfl,hle,hmx,hbt,hln,_⟩:=HOV.out.slice;have P:=Lib.hid (And.intro hle (And.intro hmx hbt));clear hle hmx hbt hln
     go_wp2
     go_ret2
     refine .inl ⟨HM.out,p7,c7,?_,?_,P.out.2.1,?_,HB.out.trans (HBB.out.mono HB.out.size)⟩
     ·rw [HLN.out];simp
     ·rw [HLN.out];exact P.out.1
     ·rw [HLN.out,HE.out];exact P.out.2.2
end Go.Proofs.Ytpdpgjilalojjaa.Itm
end
section
namespace Go.Proofs.Ytpdpgjilalojjaa.Itm
open Go.ChangeShapes Go.WideShapes Go.ChangeAt Go.RowKit Base Num Byt Txt Bk Rec Block Tre Go.Lib
set_option linter.unusedVariables false
set_option maxRecDepth 100000
def takeO (o:Option (List UInt8)) (k:Nat):Option (List UInt8 × List UInt8):=match o with
 | none => none
 | some bs => if bs.length < k then none else some (bs.take k,bs.drop k)
def numO (o:Option (List UInt8)) (k most:Nat):Option (Nat × List UInt8):=match takeO o k with
 | none => none
 | some (a,r) => if most < Go.Proofs.Ytpdpgjilalojjaa.Itm.num a then none else some (Go.Proofs.Ytpdpgjilalojjaa.Itm.num a,r)
def textO (o:Option (List UInt8)) (most:Nat):Option (List UInt8 × List UInt8):=match numO o 4 most with
 | none => none
 | some (k,r) => takeO (some r) k
def fstL (o:Option (List UInt8 × List UInt8)):List UInt8:=(o.map Prod.fst).getD []
def fstN (o:Option (Nat × List UInt8)):Nat:=(o.map Prod.fst).getD 0
def SrcO (w:World) (g:Nat) (o:Option (List UInt8)):Prop:=
 ∃ p n c,Blk w g 46 #[.slice p n c,.bool o.isNone] ∧ ∀ bs,o=some bs → BAt w p n bs∧bs.length=n∧n≤c∧c≤maxLen
theorem SrcO.lt {w:World} {g:Nat} {o:Option (List UInt8)} (h:SrcO w g o):g < w.heap.size:=by
 obtain ⟨p,n,c,hb,_⟩:=h;exact hb.lt
theorem SrcO.off {w:World} {g:Nat} {o:Option (List UInt8)} (h:SrcO w g o) {p:Option Addr} {n:Nat} {bs:List UInt8} (hb:BAt w p n bs) (h0:0 < n) (a:Addr) (ha:p=some a):a.block≠g:=by
 obtain ⟨p2,n2,c2,hk,_⟩:=h;obtain ⟨b,off,he,hc⟩:=hb h0;rw [ha] at he
 cases he
 intro e;have h1:=hc 0 h0;have e2:b=g:=e;rw [e2,hk.cell,Nat.add_zero] at h1
 match off,h1 with
 | 0,h1 => cases h1
 | 1,h1 => cases h1
 | off+2,h1 => simp at h1
theorem SrcO.bat {w w':World} {g:Nat} {o:Option (List UInt8)} (h:SrcO w g o) {p:Option Addr} {n:Nat} {bs:List UInt8} (hb:BAt w p n bs) (hk:Kept (oneB g) w w'):BAt w' p n bs:=hb.kept hk (fun h0 a ha => h.off hb h0 a ha)
theorem SrcO.below {w w':World} {g:Nat} {o:Option (List UInt8)} (h:SrcO w g o) (hb:Below w.heap.size w w'):SrcO w' g o:=by
 obtain ⟨p,n,c,hk,hc⟩:=h;exact ⟨p,n,c,hk.below hb hk.lt,fun bs e => ⟨(hc bs e).1.below hb,(hc bs e).2⟩⟩
def TakePost (w:World) (g:Nat) (r:Option (List UInt8 × List UInt8)) (e:Ending) (w':World):Prop:=
 ∃ p n c,e=.returned (.slice p n c)∧n≤c∧c≤maxLen∧BAt w' p n (fstL r)∧(fstL r).length=n∧SrcO w' g (r.map Prod.snd)∧Kept (oneB g) w w'
def NumIPost (w:World) (g:Nat) (r:Option (Nat × List UInt8)) (e:Ending) (w':World):Prop:=
 e=.returned (.int .i64 ((fstN r:Nat):Int))∧SrcO w' g (r.map Prod.snd)∧Kept (oneB g) w w'
theorem src_bad {w:World} {g:Nat} {p:Option Addr} {n c:Nat} {b:Bool} (h:Blk w g 46 #[.slice p n c,.bool b]):SrcO (w.setCell ⟨g,1,none⟩ (.bool true)) g none∧Kept (oneB g) w (w.setCell ⟨g,1,none⟩ (.bool true)):=
 ⟨⟨p,n,c,h.set 1 _ (by decide:1 < 2),fun bs e => by cases e⟩,(Kept.refl (oneB g) w).setCell (a:=⟨g,1,none⟩) (.inr rfl) _⟩
theorem src_rest {w:World} {g k n c d:Nat} {p q:Option Addr} {bs:List UInt8} (h:Blk w g 46 #[.slice p n c,.bool false]) (hb:BAt w p n bs) (hl:bs.length=n) (hle:n≤c) (hmx:c≤maxLen) (hk:k≤n) (hq:q=if c=k then p else p.map (·.add k)) (hd:d=c - k) :
 TakePost w g (some (bs.take k,bs.drop k)) (.returned (.slice p k c)) (w.setCell ⟨g,0,none⟩ (.slice q (n - k) d)):=by
 subst hq;subst hd;have hS:SrcO w g (some bs):=⟨p,n,c,h,fun bs' e => by cases e;exact ⟨hb,hl,hle,hmx⟩⟩
 have hK:Kept (oneB g) w (w.setCell ⟨g,0,none⟩ (.slice (if c=k then p else p.map (·.add k)) (n - k) (c - k))):=(Kept.refl (oneB g) w).setCell (a:=⟨g,0,none⟩) (.inr rfl) _
 refine ⟨p,k,c,rfl,by omega,hmx,hS.bat (hb.take hk) hK,by show (bs.take k).length=k;rw [List.length_take];omega,⟨_,n - k,c - k,h.set 0 _ (by decide:0 < 2),fun bs' e => ?_⟩,hK⟩
 cases e
 exact ⟨hS.bat (hb.drop hk hle hl) hK,by show (bs.drop k).length=n - k;rw [List.length_drop,hl],by omega,by omega⟩
set_option maxHeartbeats 1000000 in
theorem takeS_any (w:World) (g:Nat) (o:Option (List UInt8)) (h:SrcO w g o) (k:Nat) (ki:Int) (hki:ki=(k:Int)) (hk:k≤9223372036854775807) :
 Calls Try.prog 37 #[.pointer (some ⟨g,0,none⟩),.int .i64 ki] w (TakePost w g (takeO o k)):=by
 subst hki;obtain ⟨p,n,c,hb,hc⟩:=h;have HX:=Lib.hid hb;have x0:=hb.cell 0;have x1:=hb.cell 1;have f0:=hb.frozen 0;have f1:=hb.frozen 1;simp only [List.getElem?_toArray,List.getElem?_cons_zero,List.getElem?_cons_succ] at x0 x1
 cases o with
 | none =>
   have HE:=Lib.hid (src_bad hb);clear hb hc x0 f0
   go_enter Try.func37,Try.ntmps37
   go_wp2
   go_ret
   exact ⟨none,0,0,rfl,Nat.le_refl _,by decide,BAt.none_ _ _,rfl,HE.out.1,HE.out.2⟩
 | some bs =>
   obtain ⟨hbt,hln,hle,hmx⟩:=hc bs rfl;have HBT:=Lib.hid hbt;have HLN:=Lib.hid hln;have HMX:=Lib.hid hmx;clear hc hbt hln;unfold maxLen at hmx
   by_cases hlt:n < k
   ·have hz:(n:Int) < (k:Int):=by omega
    have E:takeO (some bs) k=none:=by unfold takeO;simp only;rw [if_pos (by rw [HLN.out];exact hlt)]
    have HE:=Lib.hid (src_bad hb);rw [E];clear hb E
    go_enter Try.func37,Try.ntmps37
    go_wp2
    go_ret
    exact ⟨none,0,0,rfl,Nat.le_refl _,by decide,BAt.none_ _ _,rfl,HE.out.1,HE.out.2⟩
   ·have hz:¬ ((n:Int) < (k:Int)):=by omega
    have E:takeO (some bs) k=some (bs.take k,bs.drop k):=by unfold takeO;simp only;rw [if_neg (by rw [HLN.out];exact hlt)]
    rw [E];clear hb E
    go_enter Try.func37,Try.ntmps37
    go_wp2
    ·subst h
     go_ret
     exact src_rest HX.out HBT.out HLN.out hle HMX.out (by omega) (by rw [if_pos rfl]) (by omega)
    ·go_ret
     exact src_rest HX.out HBT.out HLN.out hle HMX.out (by omega) (by rw [if_neg h]) rfl
theorem or_byte (S X:Nat) (h:S * 256+X < 18446744073709551616) (hX:X < 256):bits .or .u64 ((S:Int) * 256) (X:Int)=((S * 256+X:Nat):Int):=by
 rw [bits_join .u64 64 (by decide) (fun n h0 h1 => by simp [IntKind.wrap,IntKind.bits,IntKind.signed];omega) 8 _ _ (by omega) (by omega) (by omega) (by omega) (by omega) (by omega)]
 omega
theorem numO_none {o:Option (List UInt8)} {k most:Nat} (h:takeO o k=none):numO o k most=none:=by unfold numO;rw [h]
theorem numO_big {o:Option (List UInt8)} {k most:Nat} {a r:List UInt8} (h:takeO o k=some (a,r)) (hm:most < Go.Proofs.Ytpdpgjilalojjaa.Itm.num a):numO o k most=none:=by unfold numO;rw [h];exact if_pos hm
theorem numO_some {o:Option (List UInt8)} {k most:Nat} {a r:List UInt8} (h:takeO o k=some (a,r)) (hm:¬ most < Go.Proofs.Ytpdpgjilalojjaa.Itm.num a):numO o k most=some (Go.Proofs.Ytpdpgjilalojjaa.Itm.num a,r):=by unfold numO;rw [h];exact if_neg hm
theorem takeO_length {o:Option (List UInt8)} {k:Nat} {a r:List UInt8} (h:takeO o k=some (a,r)):a.length=k:=by
 unfold takeO at h
 cases o with
 | none => cases h
 | some bs =>
   simp only at h
   split at h
   ·cases h
   ·cases h
    rw [List.length_take];omega
set_option maxHeartbeats 2000000 in
theorem numS_any (w:World) (g:Nat) (o:Option (List UInt8)) (h:SrcO w g o) (k most:Nat) (ki mi:Int) (hki:ki=(k:Int)) (hmi:mi=(most:Int)) (hk:k≤8) (hm:most≤4611686018427387904) :
 Calls Try.prog 27 #[.pointer (some ⟨g,0,none⟩),.int .i64 ki,.int .i64 mi] w (NumIPost w g (numO o k most)):=by
 subst hki;subst hmi;have HT:=Lib.hid (takeS_any w g o h k _ rfl (by omega))
 obtain ⟨r,hr⟩:∃ r,takeO o k=r:=⟨_,rfl⟩;rw [hr] at HT;have HR:=Lib.hid hr;clear h hr
 go_enter Try.func27,Try.ntmps27
 go_wp2_with fail
 refine HT.out.mono ?_
 rintro e w1 ⟨p,n,c,rfl,hle,hmx,hbt,hln,hs,hk1⟩;have HMX:=Lib.hid hmx;have HBT:=Lib.hid hbt;have HLN:=Lib.hid hln;have HK1:=Lib.hid hk1;have HS:=Lib.hid hs;obtain ⟨p2,n2,c2,hX,_⟩:=hs;have HX:=Lib.hid hX;have x1:=hX.cell 1;have f1:=hX.frozen 1;simp only [List.getElem?_toArray,List.getElem?_cons_zero,List.getElem?_cons_succ] at x1;clear hmx hbt hln hk1 hX HT
 cases r with
 | none =>
   have E:Hid (numO o k most=none):=Lib.hid (numO_none HR.out);change w1.cell? ⟨g,1,none⟩=some (.bool true) at x1;clear f1
   go_wp2
   go_ret
   rw [E.out];exact ⟨rfl,HS.out,HK1.out⟩
 | some r =>
   obtain ⟨a,r⟩:=r;change w1.cell? ⟨g,1,none⟩=some (.bool false) at x1;have hal:a.length=n:=HLN.out;have hnk:n=k:=by rw [← hal];exact takeO_length HR.out
   subst hnk;change Hid (BAt w1 p n a) at HBT;have HAL:=Lib.hid hal
   have hN:Go.Proofs.Ytpdpgjilalojjaa.Itm.num a < 256 ^ 8:=by
    have h1:=num_lt a;rw [hal] at h1;exact Nat.lt_of_lt_of_le h1 (Nat.pow_le_pow_right (by decide) hk)
   obtain ⟨N,hNN⟩:∃ N,Go.Proofs.Ytpdpgjilalojjaa.Itm.num a=N:=⟨_,rfl⟩;have HN:=Lib.hid hNN;rw [hNN] at hN;clear hal hNN
   go_wp2_with fail
   go_loopw [8,18] (fun s i wr => ∃ (j S:Nat),j≤n∧i=.int .i64 (j:Int)∧s=.int .u64 (S:Int)∧wr=w1∧Hid (Go.Proofs.Ytpdpgjilalojjaa.Itm.num (a.take j)=S)) (fun _ i _ => n - (RowKit.intOf i).toNat)
   case atStart => exact ⟨0,0,Nat.zero_le _,rfl,rfl,rfl,Lib.hid rfl⟩
   case round =>
    obtain ⟨j,S,hj,rfl,rfl,rfl,hE⟩:=hrel
    by_cases hlt:j < n
    ·obtain ⟨b,off,rfl,hbw,hc'⟩:=HBT.out.cell hlt
     have hc:=hc' j hlt;clear hc';have hT:=num_take_succ a j (by rw [HAL.out];exact hlt)
     have hle2:Go.Proofs.Ytpdpgjilalojjaa.Itm.num (a.take (j+1)) < 18446744073709551616:=by
      have:=num_take_le a (show j+1≤n by omega)
      rw [List.take_of_length_le (show a.length≤n by rw [HAL.out];exact Nat.le_refl _),HN.out] at this
      omega
     rw [hE.out] at hT;obtain ⟨x,hx⟩:∃ x,a.getD j 0=x:=⟨_,rfl⟩;rw [hx] at hc hT;obtain ⟨X,hX⟩:∃ X,x.toNat=X:=⟨_,rfl⟩;have hX8:X < 256:=by rw [← hX];exact x.toNat_lt
     rw [hX] at hc hT;rw [hT] at hle2;have HT:=Lib.hid hT;have hltz:(j:Int) < (n:Int):=by omega
     clear hT hx hX hbw;have hor:=or_byte S X hle2 hX8
     go_wp2
     go_roundw
     case rel => exact ⟨j+1,S * 256+X,by omega,by go_num,by go_num,trivial,HT⟩
     case measure => simp [RowKit.intOf];omega
    ·obtain rfl:j=n:=by omega
     have hks:¬ ((j:Int) < (j:Int)):=by omega
     have hSN:S=N:=by
      rw [← hE.out,← HN.out,List.take_of_length_le (show a.length≤j by rw [HAL.out];exact Nat.le_refl _)]
     subst hSN
     by_cases hmo:most < S
     ·have hz:(most:Int) < (S:Int):=by omega
      have E:Hid (numO o j most=none):=Lib.hid (numO_big HR.out (by rw [HN.out];exact hmo))
      go_wp2
      go_ret
      rw [E.out];obtain ⟨h1,h2⟩:=src_bad HX.out;exact ⟨rfl,h1,HK1.out.trans h2⟩
     ·have hz:¬ ((most:Int) < (S:Int)):=by omega
      have E:Hid (numO o j most=some (S,r)):=Lib.hid (by rw [← HN.out];exact numO_some HR.out (by rw [HN.out];exact hmo))
      have hS:S≤4611686018427387904:=by omega
      go_wp2
      go_ret
      rw [E.out];exact ⟨rfl,HS.out,HK1.out⟩
theorem textS_any (w:World) (g:Nat) (o:Option (List UInt8)) (h:SrcO w g o) (most:Nat) (mi:Int) (hmi:mi=(most:Int)) (hm:most≤4611686018427387904) :
 Calls Try.prog 26 #[.pointer (some ⟨g,0,none⟩),.int .i64 mi] w (TakePost w g (textO o most)):=by
 subst hmi;have HT:=Lib.hid (numS_any w g o h 4 most _ _ rfl rfl (by decide) hm)
 obtain ⟨r,hr⟩:∃ r,numO o 4 most=r:=⟨_,rfl⟩
 have E:textO o most=takeO (r.map Prod.snd) (fstN r):=by
  unfold textO;rw [hr]
  cases r<;>rfl
 have hN:fstN r≤most:=by
  rw [← hr];unfold numO
  cases takeO o 4 with
  | none => exact Nat.zero_le _
  | some x =>
    obtain ⟨a,b⟩:=x;simp only
    split
    ·exact Nat.zero_le _
    ·next h => exact Nat.le_of_not_lt h
 rw [hr] at HT;rw [E];clear h hr E
 go_enter Try.func26,Try.ntmps26
 go_wp2_with fail
 refine HT.out.mono ?_
 rintro e w1 ⟨rfl,hs,hk1⟩;have HS:=Lib.hid hs;have HK1:=Lib.hid hk1;clear hs hk1
 go_wp2_with fail
 refine (takeS_any w1 g _ HS.out _ _ rfl (by omega)).mono ?_
 rintro e w2 ⟨p,n,c,rfl,h1,h2,h3,h4,h5,h6⟩;have P:=Lib.hid (And.intro h2 (And.intro h3 (And.intro h4 (And.intro h5 (HK1.out.trans h6)))));clear h2 h3 h4 h5 h6
 go_wp2
 go_ret
 exact ⟨p,n,c,rfl,h1,P.out⟩
end Go.Proofs.Ytpdpgjilalojjaa.Itm
end
section
namespace Go.Proofs.Ytpdpgjilalojjaa.Itm
open Go.ChangeShapes Go.WideShapes Go.ChangeAt Go.RowKit Base Num Byt Txt Bk Rec Block Tre Go.Lib
set_option linter.unusedVariables false
set_option maxRecDepth 100000
theorem ret_beg {fn:Func} (hf:fn.results=#[.cell 2 24,.tmp 3,.tmp 4]) (tmps:Array Value) (w:World) (g:Nat) (a v:Value) (ht:tmps.getD 2 undef=.pointer (some ⟨g,0,none⟩)) (ha:tmps.getD 3 undef=a) (hv:tmps.getD 4 undef=v)
 (cs:Array Value) (u0 u1 u2:Value) (hcs:cs=#[u0,u1,u2]) (hb:Blk w g 24 cs):(results fn tmps).run Try.prog w=.ok (.tuple #[.agg cs,a,v]) w:=by
 subst hcs;have c0:=hb.cell 0;have c1:=hb.cell 1;have c2:=hb.cell 2;simp only [List.getElem?_toArray,List.getElem?_cons_zero,List.getElem?_cons_succ] at c0 c1 c2;clear hb;have hl:(loadVar 24 ⟨g,0,none⟩).run Try.prog w=.ok (.agg #[u0,u1,u2]) w:=by go_simp
 have ht':tmps[2]?.getD undef=.pointer (some ⟨g,0,none⟩):=by simpa using ht
 have ha':tmps[3]?.getD undef=a:=by simpa using ha
 have hv':tmps[4]?.getD undef=v:=by simpa using hv
 simp only [results,hf];simp [Result.andThen,ht',ha',hv',asAddr,hl]
def zc:Array Value:=#[.string ⟨#[]⟩,.int .i64 0,.slice none 0 0]
theorem zero_again {W:World} {g:Nat} (h:Blk W g 24 zc):Blk (((W.setCell ⟨g,0,none⟩ (.string ⟨#[]⟩)).setCell ⟨g,1,none⟩ (.int .i64 0)).setCell ⟨g,2,none⟩ (.slice none 0 0)) g 24 zc:=
 ((h.set 0 _ (by decide:0 < 3)).set 1 _ (by decide:1 < 3)).set 2 _ (by decide:2 < 3)
theorem dat_zero (w:World):DatAt w ⟨zeroI,none,0⟩:=⟨fun h => absurd h (by decide),Nat.le_refl _,by show (0:Nat)≤maxLen;decide⟩
theorem begins_some {w w3:World} {g:Nat} {bs L D:List UInt8} {S cnt m c3:Nat} {p3:Option Addr} {u0 u1 u2:Value} (hE:beginsI bs=(⟨L,(S:Int),D⟩,cnt,true)) (hm:D.length=m) (hbt:BAt w3 p3 m D) (hle:m≤c3) (hmx:c3≤maxLen) (hB:Below w.heap.size w w3) (hg:w.heap.size≤g) (hat:∀ x,p3=some x → x.block≠g) :
 ∃ q d,Ending.returned (.tuple #[.agg #[.string (str L),.int .i64 (S:Int),.slice p3 m c3],.int .i64 (cnt:Int),.bool true])=.returned (.tuple #[.agg (itmC (beginsI bs).1 q d),.int .i64 ((beginsI bs).2.1:Nat),.bool (beginsI bs).2.2])∧DatAt (((w3.setCell ⟨g,0,none⟩ u0).setCell ⟨g,1,none⟩ u1).setCell ⟨g,2,none⟩ u2) ⟨(beginsI bs).1,q,d⟩∧Below w.heap.size w (((w3.setCell ⟨g,0,none⟩ u0).setCell ⟨g,1,none⟩ u1).setCell ⟨g,2,none⟩ u2):=by
 subst hm;rw [hE];have hk:Kept (oneB g) w3 (((w3.setCell ⟨g,0,none⟩ u0).setCell ⟨g,1,none⟩ u1).setCell ⟨g,2,none⟩ u2):=(((Kept.refl (oneB g) w3).setCell (a:=⟨g,0,none⟩) (.inr rfl) _).setCell (a:=⟨g,1,none⟩) (.inr rfl) _).setCell (a:=⟨g,2,none⟩) (.inr rfl) _;exact ⟨p3,c3,rfl,⟨hbt.kept hk (fun _ x hx e => hat x hx e),hle,hmx⟩,((hB.setCell (p:=⟨g,0,none⟩) hg _).setCell (p:=⟨g,1,none⟩) hg _).setCell (p:=⟨g,2,none⟩) hg _⟩
theorem begins_none {w W:World} {bs:List UInt8} (hR:beginsOk bs=false) (hB:Below w.heap.size w W) :
 ∃ q d,Ending.returned (.tuple #[.agg zc,.int .i64 0,.bool false])=.returned (.tuple #[.agg (itmC (beginsI bs).1 q d),.int .i64 ((beginsI bs).2.1:Nat),.bool (beginsI bs).2.2])∧DatAt W ⟨(beginsI bs).1,q,d⟩∧Below w.heap.size w W:=by
 have E:beginsI bs=(zeroI,0,false):=by unfold beginsI;rw [hR];rfl
 rw [E];exact ⟨none,0,rfl,dat_zero _,hB⟩
abbrev Res3 (w:World) (g:Nat):Prop:=w.cell? ⟨g,0,none⟩=some (.string ⟨#[]⟩)∧w.cell? ⟨g,1,none⟩=some (.int .i64 0)∧w.cell? ⟨g,2,none⟩=some (.slice none 0 0)∧w.frozen? ⟨g,0,none⟩=false∧w.frozen? ⟨g,1,none⟩=false∧w.frozen? ⟨g,2,none⟩=false
theorem res3 {w:World} {g:Nat} (h:Blk w g 24 zc):Res3 w g:=⟨h.cell 0,h.cell 1,h.cell 2,h.frozen 0,h.frozen 1,h.frozen 2⟩
end Go.Proofs.Ytpdpgjilalojjaa.Itm
end
section
namespace Go.Proofs.Ytpdpgjilalojjaa.Itm
open Go.ChangeShapes Go.WideShapes Go.ChangeAt Go.RowKit Base Num Byt Txt Bk Rec Block Tre Go.Lib
set_option linter.unusedVariables false
set_option maxRecDepth 100000
theorem takeO_is {o:Option (List UInt8)} {k:Nat} {a r:List UInt8} (h:takeO o k=some (a,r)):∃ bs,o=some bs∧k≤bs.length∧a=bs.take k∧r=bs.drop k:=by
 unfold takeO at h
 cases o with
 | none => cases h
 | some bs =>
   simp only at h
   split at h
   ·cases h
   ·next hk => cases h;exact ⟨bs,rfl,by omega,rfl,rfl⟩
theorem numO_is {o:Option (List UInt8)} {k most m:Nat} {r:List UInt8} (h:numO o k most=some (m,r)):∃ bs,o=some bs∧k≤bs.length∧Go.Proofs.Ytpdpgjilalojjaa.Itm.num (bs.take k)≤most∧m=Go.Proofs.Ytpdpgjilalojjaa.Itm.num (bs.take k)∧r=bs.drop k:=by
 unfold numO at h
 cases ht:takeO o k with
 | none => rw [ht] at h;cases h
 | some x =>
   obtain ⟨a,r2⟩:=x;rw [ht] at h;simp only at h;obtain ⟨bs,h1,h2,h3,h4⟩:=takeO_is ht
   split at h
   ·cases h
   ·next hk => cases h;subst h3;exact ⟨bs,h1,h2,by omega,rfl,h4⟩
theorem textO_is {o:Option (List UInt8)} {most:Nat} {a r:List UInt8} (h:textO o most=some (a,r)):∃ bs,o=some bs∧4≤bs.length∧Go.Proofs.Ytpdpgjilalojjaa.Itm.num (bs.take 4)≤most∧4+Go.Proofs.Ytpdpgjilalojjaa.Itm.num (bs.take 4)≤bs.length∧a=(bs.drop 4).take (Go.Proofs.Ytpdpgjilalojjaa.Itm.num (bs.take 4))∧r=bs.drop (4+Go.Proofs.Ytpdpgjilalojjaa.Itm.num (bs.take 4)):=by
 unfold textO at h
 cases hn:numO o 4 most with
 | none => rw [hn] at h;cases h
 | some x =>
   obtain ⟨m,r2⟩:=x;rw [hn] at h;simp only at h;obtain ⟨bs,h1,h2,h3,h4,h5⟩:=numO_is hn;obtain ⟨bs2,g1,g2,g3,g4⟩:=takeO_is h
   cases g1
   subst h5;subst h4;rw [List.length_drop] at g2;exact ⟨bs,h1,h2,h3,by omega,g3,by rw [g4,List.drop_drop]⟩
theorem takeO_yes {bs:List UInt8} {k:Nat} (h:k≤bs.length):takeO (some bs) k=some (bs.take k,bs.drop k):=by
 unfold takeO;simp only;rw [if_neg (by omega)]
theorem numO_yes {bs:List UInt8} {k most:Nat} (h:k≤bs.length) (hm:Go.Proofs.Ytpdpgjilalojjaa.Itm.num (bs.take k)≤most):numO (some bs) k most=some (Go.Proofs.Ytpdpgjilalojjaa.Itm.num (bs.take k),bs.drop k):=numO_some (takeO_yes h) (by omega)
theorem textO_yes {bs:List UInt8} {most:Nat} (hm:Go.Proofs.Ytpdpgjilalojjaa.Itm.num (bs.take 4)≤most) (h:4+Go.Proofs.Ytpdpgjilalojjaa.Itm.num (bs.take 4)≤bs.length):textO (some bs) most=some ((bs.drop 4).take (Go.Proofs.Ytpdpgjilalojjaa.Itm.num (bs.take 4)),bs.drop (4+Go.Proofs.Ytpdpgjilalojjaa.Itm.num (bs.take 4))):=by
 unfold textO;rw [numO_yes (by omega) hm]
 simp only;rw [takeO_yes (by rw [List.length_drop];omega),List.drop_drop]
def left1 (bs:List UInt8):Option (List UInt8):=(textO (some bs) 200).map Prod.snd
def left2 (bs:List UInt8):Option (List UInt8):=(numO (left1 bs) 8 4611686018427387904).map Prod.snd
def left3 (bs:List UInt8):Option (List UInt8):=(textO (left2 bs) 1048576).map Prod.snd
theorem left_some {bs r:List UInt8} (h:left3 bs=some r):beginsOk bs=true:=by
 unfold left3 at h;obtain ⟨⟨d,r3⟩,h3,e3⟩:=Option.map_eq_some_iff.1 h;obtain ⟨b2,h2,l2,n2,m2,_,_⟩:=textO_is h3;unfold left2 at h2;obtain ⟨⟨s,r2⟩,h2,e2⟩:=Option.map_eq_some_iff.1 h2;obtain ⟨b1,h1,l1,n1,_,q1⟩:=numO_is h2;unfold left1 at h1;obtain ⟨⟨k,r1⟩,h1,e1⟩:=Option.map_eq_some_iff.1 h1;obtain ⟨b0,h0,l0,n0,m0,_,q0⟩:=textO_is h1
 cases h0
 simp only at e1 e2;subst e1;subst e2;subst q0;subst q1;rw [List.drop_drop,show 4+Go.Proofs.Ytpdpgjilalojjaa.Itm.num (bs.take 4)+8=12+keyN bs by unfold keyN;omega] at l2 n2 m2
 rw [List.length_drop] at l1 l2 m2;have hK:Go.Proofs.Ytpdpgjilalojjaa.Itm.num (bs.take 4)=keyN bs:=rfl;have hN:Go.Proofs.Ytpdpgjilalojjaa.Itm.num ((bs.drop (12+keyN bs)).take 4)=dataN bs:=rfl;rw [hK] at n0 m0 l1 n1;rw [hN] at n2 m2;have hS:Go.Proofs.Ytpdpgjilalojjaa.Itm.num ((bs.drop (4+keyN bs)).take 8)=seqN bs:=rfl;rw [hS] at n1;unfold beginsOk;exact decide_eq_true ⟨by omega,n0,by omega,n1,n2,by omega⟩
theorem left_yes {bs:List UInt8} (h:beginsOk bs=true) :
 textO (some bs) 200=some ((bs.drop 4).take (keyN bs),bs.drop (4+keyN bs))∧numO (some (bs.drop (4+keyN bs))) 8 4611686018427387904=some (seqN bs,bs.drop (12+keyN bs))∧textO (some (bs.drop (12+keyN bs))) 1048576=some ((bs.drop (16+keyN bs)).take (dataN bs),bs.drop (16+keyN bs+dataN bs)):=by
 obtain ⟨a1,a2,a3,a4,a5,a6⟩:=of_decide_eq_true h;have hK:Go.Proofs.Ytpdpgjilalojjaa.Itm.num (bs.take 4)=keyN bs:=rfl;have hN:Go.Proofs.Ytpdpgjilalojjaa.Itm.num ((bs.drop (12+keyN bs)).take 4)=dataN bs:=rfl;have hS:Go.Proofs.Ytpdpgjilalojjaa.Itm.num ((bs.drop (4+keyN bs)).take 8)=seqN bs:=rfl;refine ⟨?_,?_,?_⟩
 ·rw [textO_yes (by rw [hK];exact a2) (by rw [hK];omega),hK]
 ·rw [numO_yes (by rw [List.length_drop];omega) (by rw [hS];exact a4),hS,List.drop_drop,show 4+keyN bs+8=12+keyN bs by omega]
 ·rw [textO_yes (by rw [hN];exact a5) (by rw [hN,List.length_drop];omega),hN,List.drop_drop,List.drop_drop,show 12+keyN bs+4=16+keyN bs by omega,show 12+keyN bs+(4+dataN bs)=16+keyN bs+dataN bs by omega]
theorem ownG {W u v:World} (hu:W.heap.size≤u.heap.size) (h:Kept (oneB W.heap.size) u v):Below W.heap.size u v:=h.below hu (fun k hk => by rw [show k=W.heap.size from hk];exact Nat.le_refl _)
set_option maxHeartbeats 4000000 in
theorem getI_any (w:World) (p:Option Addr) (n c:Nat) (bs:List UInt8) (hb:BAt w p n bs) (hl:bs.length=n) (hc:n≤c) (hm:c≤maxLen) (hn:n≤140737488351232) :
 Calls Try.prog 12 #[.slice p n c] w (GetIPost w bs):=by
 have HL:=Lib.hid hl;obtain ⟨W,hW⟩:∃ W,w.alloc (.cells #[.string ⟨#[]⟩,.int .i64 0,.slice none 0 0] 24)=W:=⟨_,rfl⟩;have hB:Below w.heap.size w W:=by rw [← hW];exact (Below.refl _ _).alloc (Nat.le_refl _) _
 have hX:Blk W w.heap.size 24 zc:=by rw [← hW];exact Blk.new w _ _
 have HB:=Lib.hid hB;have HX:=Lib.hid hX;have HBW:=Lib.hid (hb.below hB);have HMX:=Lib.hid (And.intro hc hm);clear hb hl hB hX hm
 go_enter Try.func12,Try.ntmps12
 go_upto_region 1 with fail
 clear hW
 go_upto_region 2 with fail
 obtain ⟨W2,hW2⟩:∃ W2,W.alloc (.cells #[.slice p n c,.bool false] 46)=W2:=⟨_,rfl⟩;have hB2:Below W.heap.size W W2:=by rw [← hW2];exact (Below.refl _ _).alloc (Nat.le_refl _) _
 have HS2:Hid (SrcO W2 W.heap.size (some bs)):=Lib.hid (by
  refine ⟨p,n,c,by rw [← hW2];exact Blk.new W _ _,fun bs' e => ?_⟩
  cases e
  exact ⟨HBW.out.below hB2,HL.out,HMX.out.1,HMX.out.2⟩)
 have HB2:=Lib.hid hB2;rw [hW2];clear hW2 hB2
 go_wp2_with fail
 refine (textS_any W2 _ _ HS2.out 200 _ rfl (by decide)).mono ?_
 rintro e w3 ⟨p3,n3,c3,rfl,h1,h2,h3,h4,h5,h6⟩;have HM3:=Lib.hid (And.intro h1 h2);have HK3:=Lib.hid h3;have HN3:=Lib.hid h4;have HS3:=Lib.hid (show SrcO w3 W.heap.size (left1 bs) from h5)
 have HB3:=Lib.hid (HB2.out.trans (ownG HB2.out.size h6));clear h1 h2 h3 h4 h5 h6
 go_wp2_with fail
 refine (numS_any w3 _ _ HS3.out 8 4611686018427387904 _ _ rfl rfl (by decide) (by decide)).mono ?_
 rintro e w4 ⟨rfl,h5,h6⟩;have HK4:=Lib.hid (HS3.out.bat HK3.out h6);have HS4:=Lib.hid (show SrcO w4 W.heap.size (left2 bs) from h5)
 have HB4:=Lib.hid (HB3.out.trans (ownG HB3.out.size h6));clear h5 h6
 go_wp2_with fail
 refine (textS_any w4 _ _ HS4.out 1048576 _ rfl (by decide)).mono ?_
 rintro e w5 ⟨p5,n5,c5,rfl,h1,h2,h3,h4,h5,h6⟩;have HK5:=Lib.hid (HS4.out.bat HK4.out h6);have HM5:=Lib.hid (And.intro h1 h2);have HD5:=Lib.hid h3;have HN5:=Lib.hid h4;have HS5:=Lib.hid (show SrcO w5 W.heap.size (left3 bs) from h5)
 have HB5:=Lib.hid (HB4.out.trans (ownG HB4.out.size h6));clear h1 h2 h3 h4 h5 h6 HK3 HK4 HS3 HS4 HS2;obtain ⟨q5,m5,d5,hk5,hr5⟩:=HS5.out;have HX5:=Lib.hid hk5;have HR5:=Lib.hid hr5;clear hk5 hr5
 cases hlf:left3 bs with
 | none =>
   have E:Hid (beginsOk bs=false):=Lib.hid (by
    rw [Bool.eq_false_iff];intro h;obtain ⟨h1,h2,h3⟩:=left_yes h;unfold left3 left2 left1 at hlf;rw [h1,Option.map_some,h2,Option.map_some,h3] at hlf
    cases hlf)
   rw [hlf] at HX5;have x1:=HX5.out.cell 1;simp only [List.getElem?_toArray,List.getElem?_cons_zero,List.getElem?_cons_succ] at x1;change w5.cell? ⟨W.heap.size,1,none⟩=some (.bool true) at x1;have HXR:=HX.out.below HB5.out HX.out.lt;have f0:=HXR.frozen 0;have f1:=HXR.frozen 1;have f2:=HXR.frozen 2;have y0:=HXR.cell 0;have y1:=HXR.cell 1;have y2:=HXR.cell 2;simp only [zc,List.getElem?_toArray,List.getElem?_cons_zero,List.getElem?_cons_succ] at y0 y1 y2;have HXR:=Lib.hid HXR;clear hlf
   go_wp2_with fail
   refine bodyPost_ret (ret_beg rfl _ _ w.heap.size _ _ rfl rfl rfl zc _ _ _ rfl (zero_again HXR.out)) rfl ?_
   exact begins_none E.out (((((HB.out.trans (HB5.out.mono HB.out.size))).setCell (p:=⟨w.heap.size,0,none⟩) (Nat.le_refl _) _).setCell (p:=⟨w.heap.size,1,none⟩) (Nat.le_refl _) _).setCell (p:=⟨w.heap.size,2,none⟩) (Nat.le_refl _) _)
 | some r5 =>
   have hok:=left_some hlf;obtain ⟨g1,g2,g3⟩:=left_yes hok;obtain ⟨a1,a2,a3,a4,a5,a6⟩:=of_decide_eq_true hok;have e1:left1 bs=some (bs.drop (4+keyN bs)):=by unfold left1;rw [g1];rfl
   have e2:left2 bs=some (bs.drop (12+keyN bs)):=by unfold left2;rw [e1,g2];rfl
   have e3:left3 bs=some (bs.drop (16+keyN bs+dataN bs)):=by unfold left3;rw [e2,g3];rfl
   rw [hlf] at HX5 HR5 e3
   cases e3
   rw [g1] at HK5 HN3;rw [e1,g2];rw [e2,g3] at HD5 HN5;obtain ⟨L,hLL⟩:∃ L,(bs.drop 4).take (keyN bs)=L:=⟨_,rfl⟩;obtain ⟨D,hDD⟩:∃ D,(bs.drop (16+keyN bs)).take (dataN bs)=D:=⟨_,rfl⟩;obtain ⟨S,hSS⟩:∃ S,seqN bs=S:=⟨_,rfl⟩;obtain ⟨C,hCC⟩:∃ C,16+keyN bs+dataN bs=C:=⟨_,rfl⟩
   have HE:Hid (beginsI bs=(⟨L,(S:Int),D⟩,C,true)):=Lib.hid (by
    unfold beginsI beginsV
    rw [if_pos hok,hLL,hDD,hSS,hCC])
   rw [show fstN (some (seqN bs,bs.drop (12+keyN bs)))=seqN bs from rfl,hSS]
   rw [hLL] at HK5 HN3;rw [hDD] at HD5 HN5;rw [hCC] at HR5;change Hid (BAt w5 p3 n3 L) at HK5;change Hid (BAt w5 p5 n5 D) at HD5;change Hid (L.length=n3) at HN3;change Hid (D.length=n5) at HN5
   have hm5:C+m5=n:=by
    have:=(HR5.out _ rfl).2.1;rw [List.length_drop] at this;have:=HL.out;omega
   have hmz:IntKind.i64.wrap ((n:Int) - (m5:Int))=(C:Int):=by rw [IntKind.wrap_i64];omega
   have hn5:n5≤1048576:=by
    rw [← HN5.out,← hDD,List.length_take];omega
   have HN5B:=Lib.hid hn5;clear hn5 hm5 hok g1 g2 g3 a1 a2 a3 a4 a5 a6 e1 e2 hLL hDD hSS hCC hlf HR5;have x1:=HX5.out.cell 1;simp only [List.getElem?_toArray,List.getElem?_cons_zero,List.getElem?_cons_succ] at x1;change w5.cell? ⟨W.heap.size,1,none⟩=some (.bool false) at x1
   go_upto_region 7 with fail
   have HCV:Hid (∀ w',Below w5.heap.size w5 w' → Sem.run Try.prog (convert 22 9 (.slice p3 n3 c3)) w'=.ok (.string (str L)) w'):=Lib.hid (fun w' h => conv_at (P:=Try.prog) (HK5.out.below h) HN3.out _ _ _ Try.underlying22 Try.underlying5 Try.underlying9 c3)
   have HCL:Hid (∀ w',Below w5.heap.size w5 w' → w'.cell? ⟨W.heap.size,0,none⟩=some (.slice q5 m5 d5)):=Lib.hid (fun w' h => (HX5.out.below h HX5.out.lt).cell 0)
   have HR:Hid (Blk w5 w.heap.size 24 zc):=Lib.hid (HX.out.below HB5.out HX.out.lt);have HBd:Hid (Below w5.heap.size w5 w5.drew):=Lib.hid (below_drewN (Below.refl w5.heap.size w5) 1);have cv0:=HCV.out w5 (Below.refl _ _);have cv1:=HCV.out _ HBd.out;have cl0:=HCL.out w5 (Below.refl _ _);have cl1:=HCL.out _ HBd.out;have ne1:¬ (w.heap.size=W.heap.size):=by have:=HX.out.lt;omega
   have ne2:¬ (W.heap.size=w.heap.size):=by have:=HX.out.lt;omega
   clear x1
   go_region_law (
    (go_simp
     refine (Go.Proofs.Ytpdpgjilalojjaa.Block.clone_any _ p5 n5 c5 D (HD5.out.below HBd.out) HN5.out (by have:=HN5B.out;omega)).mono ?_
     rintro e w6 ⟨v6,rfl,ho6,hk6⟩;have HB6:Hid (Below w5.heap.size w5 w6):=Lib.hid (HBd.out.trans (hk6.below HBd.out.size (fun _ h => h.elim)))
     obtain ⟨p6,c6,rfl,hle6,hmx6,hbt6,hln6,hat6⟩:=OwnB.slice ho6;have HO6:=Lib.hid (And.intro hle6 (And.intro hmx6 (And.intro hbt6 (And.intro hln6 hat6))));have cv2:=HCV.out _ HB6.out;have cl2:=HCL.out _ HB6.out;obtain ⟨r0,r1,r2,r3,r4,r5⟩:=res3 (HR.out.below HB6.out HR.out.lt)
     clear ho6 hk6 hle6 hmx6 hbt6 hln6 hat6))
   all_goals
    have HF:=Lib.hid ((HB.out.trans (HB5.out.mono HB.out.size)).trans (HB6.out.mono ((HB.out.trans (HB5.out.mono HB.out.size))).size));clear cv0 cv1 cv2 cl0 cl1 cl2
    go_wp2
    refine bodyPost_ret (ret_beg rfl _ _ w.heap.size _ _ rfl rfl rfl #[.string (str L),.int .i64 (S:Int),.slice p6 n5 c6] _ _ _ rfl ((((HR.out.below HB6.out HR.out.lt).set 0 _ (by decide:0 < 3)).set 1 _ (by decide:1 < 3)).set 2 _ (by decide:2 < 3))) rfl ?_
    obtain ⟨q,d,h1,h2,h3⟩:=begins_some (u0:=.string (str L)) (u1:=.int .i64 (S:Int)) (u2:=.slice p6 n5 c6) HE.out HN5.out HO6.out.2.2.1 HO6.out.1 HO6.out.2.1 HF.out (Nat.le_refl _) (fun x hx e => by have h1:=(HO6.out.2.2.2.2 x hx).1;have h2:=HR.out.lt;rw [show w5.drew.heap.size=w5.heap.size from rfl] at h1;omega)
    exact ⟨q,d,Eq.trans rfl h1,h2,h3⟩
end Go.Proofs.Ytpdpgjilalojjaa.Itm
end
section
namespace Go.Proofs.Ytpdpgjilalojjaa.Itm
open Go.ChangeShapes Go.WideShapes Go.ChangeAt Go.RowKit Base Byt Txt Bk Go.Lib
set_option linter.unusedVariables false
theorem itemC4:ItmC4 where
 put:=fun w x hx _ _ _ => putI_any w x hx
 get:=fun w p n c bs hb hl hc hm hn => getI_any w p n c bs hb hl hc hm hn
 less:=fun w x y _ _ => lessI_any x y w
 same:=fun w x y hx hy => sameI_any x y w hx hy
end Go.Proofs.Ytpdpgjilalojjaa.Itm
end
section
namespace Go.Proofs.Ytpdpgjilalojjaa.Itm
open Go.ChangeShapes Go.WideShapes Go.ChangeAt Go.RowKit Base Byt Txt Bk Rec Block Mem Tre Go.Lib
set_option linter.unusedVariables false
set_option maxRecDepth 100000
attribute [local irreducible] wpQuiet
structure SJ (w wr:World) (g n:Nat) (z0:List IP) (L:List ItemV) (zs:List IP):Prop where
 kept:Kept (oneB g) w wr
 row:Ri wr g zs
 len:zs.length=n
 says:zs.map IP.m=L
 mem:∀ y ∈ zs,y ∈ z0
section
variable {w wr w':World} {g n:Nat} {z0 zs:List IP} {L:List ItemV}
theorem SJ.start (h:Ri w g zs) (hl:zs.length=n):SJ w w g n zs (zs.map IP.m) zs:=⟨Kept.refl _ _,h,hl,rfl,fun y hy => hy⟩
theorem SJ.llen (h:SJ w wr g n z0 L zs):L.length=n:=by rw [← h.says,List.length_map,h.len]
theorem SJ.get (h:SJ w wr g n z0 L zs) (k:Nat):(zs.getD k zeroJ).m=L.getD k zeroI:=by rw [← h.says,getJ_map]
theorem SJ.lt (h:SJ w wr g n z0 L zs):g < wr.heap.size:=by
 obtain ⟨cur,hb,_⟩:=h.row;exact hb.lt
theorem SJ.grow (h:SJ w wr g n z0 L zs) (hb:Below wr.heap.size wr w'):SJ w w' g n z0 L zs where
 kept:=h.kept.trans (Kept.of_below hb _)
 row:=ri_below h.row hb
 len:=h.len
 says:=h.says
 mem:=h.mem
theorem SJ.drewN (h:SJ w wr g n z0 L zs) (m:Nat):SJ w (wr.drewN m) g n z0 L zs:=⟨h.kept.drewN m,ri_drewN h.row m,h.len,h.says,h.mem⟩
theorem SJ.then {L2:List ItemV} {z2:List IP} (h:SJ w wr g n z0 L zs) (h2:SJ wr w' g n zs L2 z2):SJ w w' g n z0 L2 z2:=⟨h.kept.trans h2.kept,h2.row,h2.len,h2.says,fun y hy => h.mem y (h2.mem y hy)⟩
theorem SJ.swap (h:SJ w wr g n z0 L zs) {i j:Nat} (hi:i < n) (hj:j < n) :
 SJ w (put3 (put3 wr g (i * 3) (zs.getD j zeroJ)) g (j * 3) (zs.getD i zeroJ)) g n z0 (swapL L i j) ((zs.set i (zs.getD j zeroJ)).set j (zs.getD i zeroJ)) where
 kept:=h.kept.trans ((put3_kept (S:=oneB g) rfl _).trans (put3_kept (S:=oneB g) rfl _))
 row:=by
  have h1:=h.row.set (k:=i) (by rw [h.len];exact hi) (zs.getD j zeroJ)
  exact h1.set (k:=j) (by rw [List.length_set,h.len];exact hj) (zs.getD i zeroJ)
 len:=by rw [List.length_set,List.length_set];exact h.len
 says:=by unfold swapL;rw [List.map_set,List.map_set,h.says,h.get,h.get]
 mem:=fun y hy => by
  rcases List.mem_or_eq_of_mem_set hy with hy | rfl
  ·rcases List.mem_or_eq_of_mem_set hy with hy | rfl
   ·exact h.mem y hy
   ·exact h.mem _ (getJ_mem zs _ (by rw [h.len];omega))
  ·exact h.mem _ (getJ_mem zs _ (by rw [h.len];omega))
end
def SPost (w:World) (g n:Nat) (z0:List IP) (L:List ItemV) (e:Ending) (w':World):Prop:=e=.returned (.tuple #[]) ∧ ∃ zs,SJ w w' g n z0 L zs
set_option maxHeartbeats 4000000 in
theorem swapR_any (w:World) (g n d a b k:Nat) (ai bi ki:Int) (f:Value) (z0:List IP) (hai:ai=(a:Int)) (hbi:bi=(b:Int)) (hki:ki=(k:Int)) (hr:Ri w g z0) (hl:z0.length=n) (hnd:n≤d) (hn:n≤1000) (h1:a+k≤b) (h2:b+k≤n) :
 Calls Try.prog 42 #[.slice (some ⟨g,0,none⟩) n d,.int .i64 ai,.int .i64 bi,.int .i64 ki,f] w (SPost w g n z0 (swapN (z0.map IP.m) a b k)):=by
 subst hai;subst hbi;subst hki;have HS:=Lib.hid (SJ.start hr hl);clear hr hl
 go_enter Try.func42,Try.ntmps42
 go_wp2_with fail
 go_loopw [10] (fun i wr => ∃ (j:Nat) (zs:List IP),j≤k∧i=.int .i64 (j:Int)∧Hid (SJ w wr g n z0 (swapN (z0.map IP.m) a b j) zs)) (fun i _ => k - (RowKit.intOf i).toNat)
 case atStart => exact ⟨0,z0,Nat.zero_le _,rfl,HS⟩
 case round =>
  obtain ⟨j,zs,hj,rfl,hO⟩:=hrel
  by_cases hlt:j < k
  ·have hltz:(j:Int) < (k:Int):=by omega
   obtain ⟨u,hu⟩:∃ u,a+j=u:=⟨_,rfl⟩;obtain ⟨v,hv⟩:∃ v,b+j=v:=⟨_,rfl⟩;have wu:IntKind.i64.wrap ((a:Int)+(j:Int))=(u:Int):=by rw [IntKind.wrap_i64];omega
   have wv:IntKind.i64.wrap ((b:Int)+(j:Int))=(v:Int):=by rw [IntKind.wrap_i64];omega
   have hun:(u:Int) < (n:Int):=by omega
   have hvn:(v:Int) < (n:Int):=by omega
   have hzl:zs.length=n:=hO.out.len
   have HSW:Hid (SJ w (put3 (put3 wr g (u * 3) (zs.getD v zeroJ)) g (v * 3) (zs.getD u zeroJ)).drew g n z0 (swapN (z0.map IP.m) a b (j+1)) ((zs.set u (zs.getD v zeroJ)).set v (zs.getD u zeroJ))):=Lib.hid (by
    have h:=(hO.out.swap (show u < n by omega) (show v < n by omega)).drewN 1
    rw [← hu,← hv] at h ⊢
    exact h)
   obtain ⟨c0,c1,c2⟩:=hO.out.row.cells3 (show u < zs.length by omega)
   obtain ⟨d0,d1,d2⟩:=hO.out.row.cells3 (show v < zs.length by omega)
   obtain ⟨x,hx⟩:∃ x,zs.getD u zeroJ=x:=⟨_,rfl⟩;obtain ⟨y,hy⟩:∃ y,zs.getD v zeroJ=y:=⟨_,rfl⟩;rw [hx] at c0 c1 c2 HSW;rw [hy] at d0 d1 d2 HSW;obtain ⟨cur,hbk,_,_⟩:=hO.out.row;have fa0:=hbk.frozen (u * 3);have fa1:=hbk.frozen (u * 3+1);have fa2:=hbk.frozen (u * 3+2);have fb0:=hbk.frozen (v * 3);have fb1:=hbk.frozen (v * 3+1);have fb2:=hbk.frozen (v * 3+2);have ne1:¬ (u=v):=by omega
   have ne2:¬ (v=u):=by omega
   clear hx hy hbk hu hv hzl
   go_wp2_with fail
   go_upto_region 3 with fail
   go_region
   go_wp2
   go_roundw
   case rel => exact ⟨j+1,_,by omega,by go_num,HSW⟩
   case measure => simp [RowKit.intOf];omega
  ·obtain rfl:j=k:=by omega
   have hks:¬ ((j:Int) < (j:Int)):=by omega
   go_wp2
   go_end0
   exact ⟨rfl,zs,hO.out⟩
end Go.Proofs.Ytpdpgjilalojjaa.Itm
end
section
namespace Go.Proofs.Ytpdpgjilalojjaa.Itm
open Go.ChangeShapes Go.WideShapes Go.ChangeAt Go.RowKit Base Byt Txt Bk Rec Block Mem Tre Go.Lib
set_option linter.unusedVariables false
set_option maxRecDepth 100000
attribute [local irreducible] wpQuiet
abbrev ordV:Value:=.func (.func 35) #[] #[]
theorem sort_one1 (G:List ItemV):sortI (G.take 1)++G.drop 1=G:=by
 cases G with
 | nil => rfl
 | cons x l => rfl
set_option maxHeartbeats 4000000 in
theorem insR_any (w:World) (g n d a b:Nat) (ai bi:Int) (z0:List IP) (hai:ai=(a:Int)) (hbi:bi=(b:Int)) (hr:Ri w g z0) (hl:z0.length=n) (hnd:n≤d) (hn:n≤1000) (h1:a≤b) (h2:b≤n) :
 Calls Try.prog 39 #[.slice (some ⟨g,0,none⟩) n d,.int .i64 ai,.int .i64 bi,ordV] w (SPost w g n z0 (putS (z0.map IP.m) a b (sortI (seg (z0.map IP.m) a b)))):=by
 subst hai;subst hbi;obtain ⟨L,hL⟩:∃ L,z0.map IP.m=L:=⟨_,rfl⟩;have hLl:L.length=n:=by rw [← hL,List.length_map,hl]
 obtain ⟨G,hG⟩:∃ G,seg L a b=G:=⟨_,rfl⟩;have hGl:G.length=b - a:=by rw [← hG];exact seg_length _ _ _ (by omega)
 rw [hL,hG];have HS:=Lib.hid (SJ.start hr hl);rw [hL] at HS;have HLL:=Lib.hid hLl;have HG:=Lib.hid hG;have HGL:=Lib.hid hGl;clear hr hl hL hLl hG hGl
 go_enter Try.func39,Try.ntmps39
 go_wp2_with fail
 go_loopw [8,9] (fun i _ wr => ∃ (k I:Nat) (zs:List IP),1≤k∧(a+k≤b ∨ k=1)∧a+k=I∧i=.int .i64 (I:Int)∧Hid (SJ w wr g n z0 (putS L a b (sortI (G.take k)++G.drop k)) zs)) (fun i _ _ => b - (RowKit.intOf i).toNat)
 case atStart => exact ⟨1,a+1,z0,Nat.le_refl _,.inr rfl,rfl,by go_num,Lib.hid (by rw [sort_one1,← HG.out,putS_self L a b h1];exact HS.out)⟩
 case round =>
  obtain ⟨k,I,zs,hk1,hk2,hI,rfl,hO⟩:=hrel
  by_cases hlt:I < b
  ·have hltz:(I:Int) < (b:Int):=by omega
   have HKL:Hid (k < G.length):=Lib.hid (by rw [HGL.out];omega)
   have HI:=Lib.hid hI;have HIb:Hid (I≤b):=Lib.hid (by omega)
   clear hk2 hI
   go_wp2_with fail
   go_loopw [9] (fun j wr => ∃ (q J:Nat) (zs:List IP),q≤k∧a+q=J∧j=.int .i64 (J:Int)∧Hid (SJ w wr g n z0 (putS L a b (midI G k q)) zs)∧Hid (Past G k q)) (fun j _ => (RowKit.intOf j).toNat)
   case atStart => exact ⟨k,I,zs,Nat.le_refl _,HI.out,rfl,Lib.hid (by rw [midI_start HKL.out];exact hO.out),Lib.hid (Past.start HKL.out)⟩
   case round =>
    obtain ⟨q,J,zs,hq,hJ,rfl,hO,hP⟩:=hrel
    by_cases h0:0 < q
    ·obtain ⟨s,hs⟩:∃ s,q=s+1:=⟨q - 1,by omega⟩
     obtain ⟨M,hM⟩:∃ M,a+s=M:=⟨_,rfl⟩;have hzl:zs.length=n:=hO.out.len;have hJn:J < n:=by have:=HI.out;omega
     have hMn:M < n:=by have:=HI.out;omega
     have HZL:=Lib.hid hzl;have hcu:=hO.out.row.cells3 (show J < zs.length by omega)
     have hcv:=hO.out.row.cells3 (show M < zs.length by omega)
     have HSW:Hid (∀ w',Below wr.heap.size wr w' → SJ w (put3 (put3 w' g (J * 3) (zs.getD M zeroJ)) g (M * 3) (zs.getD J zeroJ)).drew g n z0 (putS L a b (midI G k s)) ((zs.set J (zs.getD M zeroJ)).set M (zs.getD J zeroJ))):=Lib.hid (fun w' hw => by
      have h:=((hO.out.grow hw).swap hJn hMn).drewN 1;subst hs;rw [← hJ,← hM] at h ⊢;rw [swapL_putS L _ (by rw [HLL.out];omega) (by rw [midI_length HKL.out hq,HGL.out];have:=HI.out;omega) (by rw [midI_length HKL.out hq,HGL.out];have:=HI.out;omega),midI_swapL HKL.out hq] at h
      exact h)
     have HCW:Hid (∀ w',Below wr.heap.size wr w' → Ri w' g zs):=Lib.hid (fun w' hw => ri_below hO.out.row hw)
     have HLS:Hid (∀ p:Since wr,Calls Try.prog 35 #[.agg (zs.getD J zeroJ).cs,.agg (zs.getD M zeroJ).cs] p.w' fun e w' => e=.returned (.int .i64 (orderI (zs.getD J zeroJ).m (zs.getD M zeroJ).m))∧Below p.w'.heap.size p.w' w'):=Lib.hid (fun p => orderI_any _ _ p.w')
     have HGM:Hid ((zs.getD J zeroJ).m=G.getD k zeroI∧(zs.getD M zeroJ).m=(sortI (G.take k)).getD s zeroI):=Lib.hid (by
      subst hs;have hm:=midI_length HKL.out hq;rw [HGL.out] at hm;rw [hO.out.get,hO.out.get,← hJ,← hM,putS_get L _ (by rw [HLL.out];omega) (by rw [hm];have:=HI.out;omega),putS_get L _ (by rw [HLL.out];omega) (by rw [hm];have:=HI.out;omega),midI_get HKL.out hq,midI_prev HKL.out hq]
      exact ⟨rfl,rfl⟩)
     obtain ⟨u,hu⟩:∃ u,zs.getD J zeroJ=u:=⟨_,rfl⟩;obtain ⟨v,hv⟩:∃ v,zs.getD M zeroJ=v:=⟨_,rfl⟩;rw [hu] at hcu HSW HGM HLS;rw [hv] at hcv HSW HGM HLS;have HUV:Hid (zs.getD J zeroJ=u∧zs.getD M zeroJ=v):=Lib.hid ⟨hu,hv⟩;obtain ⟨B,hB⟩:∃ B,lessI u.m v.m=B:=⟨_,rfl⟩;obtain ⟨C,hC⟩:∃ C,orderI u.m v.m=C:=⟨_,rfl⟩;have hCB:decide (C < 0)=B:=by rw [← hC,← hB];exact orderI_neg _ _
     rw [hC] at HLS;have HBB:=Lib.hid hB;unfold IP.cs itmC at HLS;obtain ⟨c0,c1,c2⟩:=hcu;obtain ⟨d0,d1,d2⟩:=hcv;have sc0:=since_cell c0;have sc1:=since_cell c1;have sc2:=since_cell c2;have sd0:=since_cell d0;have sd1:=since_cell d1;have sd2:=since_cell d2;have hkz:(a:Int) < (J:Int):=by omega
     have wk:IntKind.i64.wrap ((J:Int) - 1)=(M:Int):=by rw [IntKind.wrap_i64];omega
     have hJz:(J:Int) < (n:Int):=by omega
     have hMz:(M:Int) < (n:Int):=by omega
     have hgt:decide ((a:Int) < (J:Int))=true:=decide_eq_true hkz;have HAB:Hid (q=s+1∧a+q=J∧a+s=M):=Lib.hid ⟨hs,hJ,hM⟩;clear hu hv hB hC hzl c0 c1 c2 d0 d1 d2 hs hJ hM
     go_upto_region 4 with fail
     refine wp_region_since (by kernel_rfl) (by kernel_rfl) ?_
     repeat (quiet_step (first | (go_at_call 35;exact Calls.since_of (HLS.out _))))
     refine wpQuiet_nil ?_
     intro wq hw';have hwq:=since_bel hw';clear hw' sc0 sc1 sc2 sd0 sd1 sd2;have HWQ:=Lib.hid hwq
     cases B with
     | true =>
       have HR:=HCW.out wq hwq;obtain ⟨c0,c1,c2⟩:=HR.cells3 (show J < zs.length by rw [HZL.out];omega)
       obtain ⟨d0,d1,d2⟩:=HR.cells3 (show M < zs.length by rw [HZL.out];omega)
       rw [HUV.out.1] at c0 c1 c2;rw [HUV.out.2] at d0 d1 d2;obtain ⟨cur,hbk,_,_⟩:=HR;have fa0:=hbk.frozen (J * 3);have fa1:=hbk.frozen (J * 3+1);have fa2:=hbk.frozen (J * 3+2);have fb0:=hbk.frozen (M * 3);have fb1:=hbk.frozen (M * 3+1);have fb2:=hbk.frozen (M * 3+2)
       have HP2:Hid (Past G k s):=Lib.hid (by
        have h1:=hP.out;have h2:=HAB.out.1;subst h2
        exact h1.step HKL.out hq (by rw [← HGM.out.1,← HGM.out.2];exact HBB.out))
       have ne1:¬ (M=J):=by have:=HAB.out;omega
       have ne2:¬ (J=M):=by have:=HAB.out;omega
       clear hwq hbk
       go_wp2_with fail
       go_upto_region 6 with fail
       go_region
       go_wp2
       go_roundw
       case rel => exact ⟨s,M,_,by have:=HAB.out;omega,HAB.out.2.2,by go_num,Lib.hid (HSW.out wq HWQ.out),HP2⟩
       case measure => simp [RowKit.intOf];have:=HAB.out;omega
     | false =>
       have HPR:Hid (SJ w wq g n z0 (putS L a b (sortI (G.take (k+1))++G.drop (k+1))) zs):=Lib.hid (by
        rw [← hP.out.done HKL.out hq (.inr (by rw [show q - 1=s by have:=HAB.out.1;omega,← HGM.out.1,← HGM.out.2];exact HBB.out))]
        exact hO.out.grow hwq)
       clear hwq
       go_wp2
       go_roundw
       case rel => exact ⟨k+1,I+1,zs,by omega,.inl (by have:=HI.out;omega),by have:=HI.out;omega,by go_num,HPR⟩
       case measure => simp [RowKit.intOf];omega
    ·obtain rfl:q=0:=by omega
     obtain rfl:J=a:=by omega
     have hgt:decide ((J:Int) < (J:Int))=false:=decide_eq_false (by omega)
     have HPR:Hid (∀ m,SJ w (wr.drewN m) g n z0 (putS L J b (sortI (G.take (k+1))++G.drop (k+1))) zs):=Lib.hid (fun m => by
      rw [← hP.out.done HKL.out hq (.inl rfl)]
      exact hO.out.drewN m)
     go_upto_region 4 with fail
     go_quiet (fail)
     go_wp2
     go_roundw
     case rel => exact ⟨k+1,I+1,zs,by omega,.inl (by have:=HI.out;omega),by have:=HI.out;omega,by go_num,Lib.hid (HPR.out _)⟩
     case measure => simp [RowKit.intOf];omega
  ·have hks:¬ ((I:Int) < (b:Int)):=by omega
   have HE:Hid (sortI (G.take k)++G.drop k=sortI G):=Lib.hid (by
    rcases hk2 with h | h
    ·rw [List.take_of_length_le (by rw [HGL.out];omega),List.drop_of_length_le (by rw [HGL.out];omega),List.append_nil]
    ·subst h
     rw [List.take_of_length_le (by rw [HGL.out];omega),List.drop_of_length_le (by rw [HGL.out];omega),List.append_nil])
   go_wp2
   go_end0
   exact ⟨rfl,zs,by rw [← HE.out];exact hO.out⟩
end Go.Proofs.Ytpdpgjilalojjaa.Itm
end
section
namespace Go.Proofs.Ytpdpgjilalojjaa.Itm
open Go.ChangeShapes Go.WideShapes Go.ChangeAt Go.RowKit Base Byt Txt Bk Rec Block Mem Tre Go.Lib
set_option linter.unusedVariables false
set_option maxRecDepth 100000
attribute [local irreducible] wpQuiet
set_option maxHeartbeats 4000000 in
theorem symL_any (w:World) (g n d a m b:Nat) (ai mi bi:Int) (z0:List IP) (hai:ai=(a:Int)) (hmi:mi=(m:Int)) (hbi:bi=(b:Int)) (hr:Ri w g z0) (hl:z0.length=n) (hnd:n≤d) (hn:n≤1000) (h1:m=a+1) (h2:m < b) (h3:b≤n) (ho:InOrd (seg (z0.map IP.m) m b)) :
 Calls Try.prog 40 #[.slice (some ⟨g,0,none⟩) n d,.int .i64 ai,.int .i64 mi,.int .i64 bi,ordV] w (SPost w g n z0 (putS (z0.map IP.m) a b (sortI (seg (z0.map IP.m) a b)))):=by
 subst hai;subst hmi;subst hbi;obtain ⟨L,hL⟩:∃ L,z0.map IP.m=L:=⟨_,rfl⟩;have hLl:L.length=n:=by rw [← hL,List.length_map,hl]
 have HS:=Lib.hid (SJ.start hr hl);rw [hL] at HS ho ⊢;have HLL:=Lib.hid hLl;have HO:=Lib.hid ho;have hone:(m:Int) - (a:Int)=1:=by omega
 have HM1:=Lib.hid h1;have hma:a < m:=by omega
 clear hr hl hL hLl ho h1
 go_enter Try.func40,Try.ntmps40
 go_wp2_with fail
 go_loopw [10,11] (fun i j wr => ∃ (p q:Nat) (zs:List IP),m≤p∧p≤q∧q≤b∧i=.int .i64 (p:Int)∧j=.int .i64 (q:Int)∧Hid (SJ w wr g n z0 L zs)∧Hid (p=m ∨ lessI (L.getD (p - 1) zeroI) (L.getD a zeroI)=true)∧Hid (q=b ∨ lessI (L.getD q zeroI) (L.getD a zeroI)=false)) (fun i j _ => (RowKit.intOf j).toNat - (RowKit.intOf i).toNat)
 case atStart => exact ⟨m,b,z0,Nat.le_refl _,by omega,Nat.le_refl _,rfl,rfl,HS,Lib.hid (.inl rfl),Lib.hid (.inl rfl)⟩
 case round =>
  obtain ⟨p,q,zs,hmp,hpq,hqb,rfl,rfl,hO,hA,hB⟩:=hrel;clear hone
  by_cases hlt:p < q
  ·have hltz:(p:Int) < (q:Int):=by omega
   obtain ⟨H,hH⟩:∃ H,(p+q) / 2=H:=⟨_,rfl⟩;have hHz:((p:Int)+(q:Int)) / 2=(H:Int):=by omega
   have hHp:p≤H:=by omega
   have hHq:H < q:=by omega
   have hHn:(H:Int) < (n:Int):=by omega
   have han:(a:Int) < (n:Int):=by omega
   have hzl:zs.length=n:=hO.out.len;obtain ⟨c0,c1,c2⟩:=hO.out.row.cells3 (show H < zs.length by omega)
   obtain ⟨d0,d1,d2⟩:=hO.out.row.cells3 (show a < zs.length by omega)
   have HLS:Hid (∀ p:Since wr,Calls Try.prog 35 #[.agg (zs.getD H zeroJ).cs,.agg (zs.getD a zeroJ).cs] p.w' fun e w' => e=.returned (.int .i64 (orderI (zs.getD H zeroJ).m (zs.getD a zeroJ).m))∧Below p.w'.heap.size p.w' w'):=Lib.hid (fun p => orderI_any _ _ p.w')
   have HGM:Hid ((zs.getD H zeroJ).m=L.getD H zeroI∧(zs.getD a zeroJ).m=L.getD a zeroI):=Lib.hid ⟨hO.out.get _,hO.out.get _⟩;obtain ⟨u,hu⟩:∃ u,zs.getD H zeroJ=u:=⟨_,rfl⟩;obtain ⟨v,hv⟩:∃ v,zs.getD a zeroJ=v:=⟨_,rfl⟩;rw [hu] at c0 c1 c2 HGM HLS;rw [hv] at d0 d1 d2 HGM HLS;obtain ⟨B,hB'⟩:∃ B,lessI u.m v.m=B:=⟨_,rfl⟩;obtain ⟨C,hC⟩:∃ C,orderI u.m v.m=C:=⟨_,rfl⟩;have hCB:decide (C < 0)=B:=by rw [← hC,← hB'];exact orderI_neg _ _
   rw [hC] at HLS;have HBB:Hid (lessI (L.getD H zeroI) (L.getD a zeroI)=B):=Lib.hid (by rw [← HGM.out.1,← HGM.out.2];exact hB')
   unfold IP.cs itmC at HLS;have sc0:=since_cell c0;have sc1:=since_cell c1;have sc2:=since_cell c2;have sd0:=since_cell d0;have sd1:=since_cell d1;have sd2:=since_cell d2;clear hu hv hB' hC hzl c0 c1 c2 d0 d1 d2 hH
   go_upto_region 5 with fail
   refine wp_region_since (by kernel_rfl) (by kernel_rfl) ?_
   repeat (quiet_step (first | (go_at_call 35;exact Calls.since_of (HLS.out _))))
   refine wpQuiet_nil ?_
   intro wq hw';have hwq:=since_bel hw';clear hw' sc0 sc1 sc2 sd0 sd1 sd2;have HO1:=Lib.hid (hO.out.grow hwq);clear hwq
   cases B with
   | true =>
     go_wp2
     go_roundw
     case rel => exact ⟨H+1,q,zs,by omega,by omega,hqb,by go_num,rfl,HO1,Lib.hid (.inr HBB.out),hB⟩
     case measure => simp [RowKit.intOf];omega
   | false =>
     go_wp2
     go_roundw
     case rel => exact ⟨p,H,zs,hmp,by omega,by omega,rfl,by go_num,HO1,hA,Lib.hid (.inr HBB.out)⟩
     case measure => simp [RowKit.intOf];omega
  ·obtain rfl:p=q:=by omega
   have hks:¬ ((p:Int) < (p:Int)):=by omega
   have HF:=Lib.hid (ins_left (l:=L) (a:=a) (m:=m) (b:=b) (i:=p) HM1.out (by rw [HLL.out];exact h3) HO.out hmp hqb hA.out hB.out)
   obtain ⟨e,he⟩:∃ e,p - 1=e:=⟨_,rfl⟩;have hez:(p:Int) - 1=(e:Int):=by omega
   rw [he] at HF;clear hA hB
   go_wp2_with fail
   go_loopw [13] (fun k wr => ∃ (t K:Nat) (zs:List IP),a+t=K∧K≤e∧k=.int .i64 (K:Int)∧Hid (SJ w wr g n z0 (bubU L a t) zs)) (fun k _ => e - (RowKit.intOf k).toNat)
   case atStart => exact ⟨0,a,zs,rfl,by have:=HM1.out;omega,rfl,hO⟩
   case round =>
    obtain ⟨t,K,zs,hK,hKe,rfl,hO⟩:=hrel
    by_cases hlt:K < e
    ·have hltz:(K:Int) < (e:Int):=by omega
     obtain ⟨v,hv⟩:∃ v,K+1=v:=⟨_,rfl⟩;have wv:IntKind.i64.wrap ((K:Int)+1)=(v:Int):=by rw [IntKind.wrap_i64];omega
     have hun:(K:Int) < (n:Int):=by omega
     have hvn:(v:Int) < (n:Int):=by omega
     have hzl:zs.length=n:=hO.out.len
     have HSW:Hid (SJ w (put3 (put3 wr g (K * 3) (zs.getD v zeroJ)) g (v * 3) (zs.getD K zeroJ)).drew g n z0 (bubU L a (t+1)) ((zs.set K (zs.getD v zeroJ)).set v (zs.getD K zeroJ))):=Lib.hid (by
      have h:=(hO.out.swap (show K < n by omega) (show v < n by omega)).drewN 1
      rw [← hv,← hK] at h ⊢
      exact h)
     obtain ⟨c0,c1,c2⟩:=hO.out.row.cells3 (show K < zs.length by omega)
     obtain ⟨d0,d1,d2⟩:=hO.out.row.cells3 (show v < zs.length by omega)
     obtain ⟨x,hx⟩:∃ x,zs.getD K zeroJ=x:=⟨_,rfl⟩;obtain ⟨y,hy⟩:∃ y,zs.getD v zeroJ=y:=⟨_,rfl⟩;rw [hx] at c0 c1 c2 HSW;rw [hy] at d0 d1 d2 HSW;obtain ⟨cur,hbk,_,_⟩:=hO.out.row;have fa0:=hbk.frozen (K * 3);have fa1:=hbk.frozen (K * 3+1);have fa2:=hbk.frozen (K * 3+2);have fb0:=hbk.frozen (v * 3);have fb1:=hbk.frozen (v * 3+1);have fb2:=hbk.frozen (v * 3+2);have ne1:¬ (K=v):=by omega
     have ne2:¬ (v=K):=by omega
     have HV:=Lib.hid hv;clear hx hy hbk hv hzl
     go_wp2_with fail
     go_upto_region 11 with fail
     go_region
     go_wp2
     go_roundw
     case rel => exact ⟨t+1,v,_,by have:=HV.out;omega,by have:=HV.out;omega,by have:=HV.out;go_num,HSW⟩
     case measure => have:=HV.out;simp [RowKit.intOf];omega
    ·have hks:¬ ((K:Int) < (e:Int)):=by omega
     have E:Hid (t=e - a):=Lib.hid (by omega)
     go_wp2
     go_end0
     exact ⟨rfl,zs,by rw [← HF.out,← E.out];exact hO.out⟩
end Go.Proofs.Ytpdpgjilalojjaa.Itm
end
section
namespace Go.Proofs.Ytpdpgjilalojjaa.Itm
open Go.ChangeShapes Go.WideShapes Go.ChangeAt Go.RowKit Base Byt Txt Bk Rec Block Mem Tre Go.Lib
set_option linter.unusedVariables false
set_option maxRecDepth 100000
attribute [local irreducible] wpQuiet
set_option maxHeartbeats 4000000 in
theorem symR_any (w:World) (g n d a m b:Nat) (ai mi bi:Int) (z0:List IP) (hai:ai=(a:Int)) (hmi:mi=(m:Int)) (hbi:bi=(b:Int)) (hr:Ri w g z0) (hl:z0.length=n) (hnd:n≤d) (hn:n≤1000) (h1:b=m+1) (h2:a+1 < m) (h3:b≤n) (ho:InOrd (seg (z0.map IP.m) a m)) :
 Calls Try.prog 40 #[.slice (some ⟨g,0,none⟩) n d,.int .i64 ai,.int .i64 mi,.int .i64 bi,ordV] w (SPost w g n z0 (putS (z0.map IP.m) a b (sortI (seg (z0.map IP.m) a b)))):=by
 subst hai;subst hmi;subst hbi;obtain ⟨L,hL⟩:∃ L,z0.map IP.m=L:=⟨_,rfl⟩;have hLl:L.length=n:=by rw [← hL,List.length_map,hl]
 have HS:=Lib.hid (SJ.start hr hl);rw [hL] at HS ho ⊢;have HLL:=Lib.hid hLl;have HO:=Lib.hid ho;have hone:(b:Int) - (m:Int)=1:=by omega
 have hne:((m:Int) - (a:Int) == 1)=false:=by simp;omega
 have HM1:=Lib.hid h1;have hmb:m < b:=by omega
 clear hr hl hL hLl ho h1
 go_enter Try.func40,Try.ntmps40
 go_wp2_with fail
 go_loopw [14,15] (fun i j wr => ∃ (p q:Nat) (zs:List IP),a≤p∧p≤q∧q≤m∧i=.int .i64 (p:Int)∧j=.int .i64 (q:Int)∧Hid (SJ w wr g n z0 L zs)∧Hid (p=a ∨ lessI (L.getD m zeroI) (L.getD (p - 1) zeroI)=false)∧Hid (q=m ∨ lessI (L.getD m zeroI) (L.getD q zeroI)=true)) (fun i j _ => (RowKit.intOf j).toNat - (RowKit.intOf i).toNat)
 case atStart => exact ⟨a,m,z0,Nat.le_refl _,by omega,Nat.le_refl _,rfl,rfl,HS,Lib.hid (.inl rfl),Lib.hid (.inl rfl)⟩
 case round =>
  obtain ⟨p,q,zs,hap,hpq,hqm,rfl,rfl,hO,hA,hB⟩:=hrel;clear hone hne
  by_cases hlt:p < q
  ·have hltz:(p:Int) < (q:Int):=by omega
   obtain ⟨H,hH⟩:∃ H,(p+q) / 2=H:=⟨_,rfl⟩;have hHz:((p:Int)+(q:Int)) / 2=(H:Int):=by omega
   have hHp:p≤H:=by omega
   have hHq:H < q:=by omega
   have hHn:(H:Int) < (n:Int):=by omega
   have hmn:(m:Int) < (n:Int):=by omega
   have hzl:zs.length=n:=hO.out.len;obtain ⟨c0,c1,c2⟩:=hO.out.row.cells3 (show m < zs.length by omega)
   obtain ⟨d0,d1,d2⟩:=hO.out.row.cells3 (show H < zs.length by omega)
   have HLS:Hid (∀ p:Since wr,Calls Try.prog 35 #[.agg (zs.getD m zeroJ).cs,.agg (zs.getD H zeroJ).cs] p.w' fun e w' => e=.returned (.int .i64 (orderI (zs.getD m zeroJ).m (zs.getD H zeroJ).m))∧Below p.w'.heap.size p.w' w'):=Lib.hid (fun p => orderI_any _ _ p.w')
   have HGM:Hid ((zs.getD m zeroJ).m=L.getD m zeroI∧(zs.getD H zeroJ).m=L.getD H zeroI):=Lib.hid ⟨hO.out.get _,hO.out.get _⟩;obtain ⟨u,hu⟩:∃ u,zs.getD m zeroJ=u:=⟨_,rfl⟩;obtain ⟨v,hv⟩:∃ v,zs.getD H zeroJ=v:=⟨_,rfl⟩;rw [hu] at c0 c1 c2 HGM HLS;rw [hv] at d0 d1 d2 HGM HLS;obtain ⟨B,hB'⟩:∃ B,lessI u.m v.m=B:=⟨_,rfl⟩;obtain ⟨C,hC⟩:∃ C,orderI u.m v.m=C:=⟨_,rfl⟩;have hCB:decide (C < 0)=B:=by rw [← hC,← hB'];exact orderI_neg _ _
   rw [hC] at HLS;have HBB:Hid (lessI (L.getD m zeroI) (L.getD H zeroI)=B):=Lib.hid (by rw [← HGM.out.1,← HGM.out.2];exact hB')
   unfold IP.cs itmC at HLS;have sc0:=since_cell c0;have sc1:=since_cell c1;have sc2:=since_cell c2;have sd0:=since_cell d0;have sd1:=since_cell d1;have sd2:=since_cell d2;clear hu hv hB' hC hzl c0 c1 c2 d0 d1 d2 hH
   go_upto_region 17 with fail
   refine wp_region_since (by kernel_rfl) (by kernel_rfl) ?_
   repeat (quiet_step (first | (go_at_call 35;exact Calls.since_of (HLS.out _))))
   refine wpQuiet_nil ?_
   intro wq hw';have hwq:=since_bel hw';clear hw' sc0 sc1 sc2 sd0 sd1 sd2;have HO1:=Lib.hid (hO.out.grow hwq);clear hwq
   cases B with
   | false =>
     go_wp2
     go_roundw
     case rel => exact ⟨H+1,q,zs,by omega,by omega,hqm,by go_num,rfl,HO1,Lib.hid (.inr HBB.out),hB⟩
     case measure => simp [RowKit.intOf];omega
   | true =>
     go_wp2
     go_roundw
     case rel => exact ⟨p,H,zs,hap,by omega,by omega,rfl,by go_num,HO1,hA,Lib.hid (.inr HBB.out)⟩
     case measure => simp [RowKit.intOf];omega
  ·obtain rfl:p=q:=by omega
   have hks:¬ ((p:Int) < (p:Int)):=by omega
   have HF:=Lib.hid (ins_right (l:=L) (a:=a) (m:=m) (b:=b) (i:=p) HM1.out (by rw [HLL.out];exact h3) HO.out hap hqm hA.out hB.out)
   clear hA hB
   go_wp2_with fail
   go_loopw [17] (fun k wr => ∃ (t K:Nat) (zs:List IP),m - t=K∧t≤m∧p≤K∧k=.int .i64 (K:Int)∧Hid (SJ w wr g n z0 (bubD L m t) zs)) (fun k _ => (RowKit.intOf k).toNat)
   case atStart => exact ⟨0,m,zs,rfl,by omega,by omega,rfl,hO⟩
   case round =>
    obtain ⟨t,K,zs,hK,htm,hKe,rfl,hO⟩:=hrel
    by_cases hlt:p < K
    ·have hltz:(p:Int) < (K:Int):=by omega
     obtain ⟨v,hv⟩:∃ v,K - 1=v:=⟨_,rfl⟩;have wv:IntKind.i64.wrap ((K:Int) - 1)=(v:Int):=by rw [IntKind.wrap_i64];omega
     have hun:(K:Int) < (n:Int):=by omega
     have hvn:(v:Int) < (n:Int):=by omega
     have hzl:zs.length=n:=hO.out.len
     have HSW:Hid (SJ w (put3 (put3 wr g (K * 3) (zs.getD v zeroJ)) g (v * 3) (zs.getD K zeroJ)).drew g n z0 (bubD L m (t+1)) ((zs.set K (zs.getD v zeroJ)).set v (zs.getD K zeroJ))):=Lib.hid (by
      have h:=(hO.out.swap (show K < n by omega) (show v < n by omega)).drewN 1
      rw [← hv,← hK] at h ⊢
      exact h)
     obtain ⟨c0,c1,c2⟩:=hO.out.row.cells3 (show K < zs.length by omega)
     obtain ⟨d0,d1,d2⟩:=hO.out.row.cells3 (show v < zs.length by omega)
     obtain ⟨x,hx⟩:∃ x,zs.getD K zeroJ=x:=⟨_,rfl⟩;obtain ⟨y,hy⟩:∃ y,zs.getD v zeroJ=y:=⟨_,rfl⟩;rw [hx] at c0 c1 c2 HSW;rw [hy] at d0 d1 d2 HSW;obtain ⟨cur,hbk,_,_⟩:=hO.out.row;have fa0:=hbk.frozen (K * 3);have fa1:=hbk.frozen (K * 3+1);have fa2:=hbk.frozen (K * 3+2);have fb0:=hbk.frozen (v * 3);have fb1:=hbk.frozen (v * 3+1);have fb2:=hbk.frozen (v * 3+2);have ne1:¬ (K=v):=by omega
     have ne2:¬ (v=K):=by omega
     have HV:=Lib.hid (And.intro hv (And.intro hK htm));clear hx hy hbk hv hzl hK htm
     go_wp2_with fail
     go_upto_region 23 with fail
     go_region
     go_wp2
     go_roundw
     case rel => exact ⟨t+1,v,_,by have:=HV.out;omega,by have:=HV.out;omega,by have:=HV.out;omega,by have:=HV.out;go_num,HSW⟩
     case measure => have:=HV.out;simp [RowKit.intOf];omega
    ·have hks:¬ ((p:Int) < (K:Int)):=by omega
     have E:Hid (t=m - p):=Lib.hid (by omega)
     go_wp2
     go_end0
     exact ⟨rfl,zs,by rw [← HF.out,← E.out];exact hO.out⟩
end Go.Proofs.Ytpdpgjilalojjaa.Itm
end
section
namespace Go.Proofs.Ytpdpgjilalojjaa.Itm
open Go.ChangeShapes Go.WideShapes Go.ChangeAt Go.RowKit Base Byt Txt Bk Rec Block Mem Tre Go.Lib
set_option linter.unusedVariables false
set_option maxRecDepth 100000
set_option maxHeartbeats 4000000 in
theorem rotR_any (w:World) (g n d a m b:Nat) (ai mi bi:Int) (f:Value) (z0:List IP) (hai:ai=(a:Int)) (hmi:mi=(m:Int)) (hbi:bi=(b:Int)) (hr:Ri w g z0) (hl:z0.length=n) (hnd:n≤d) (hn:n≤1000) (h1:a < m) (h2:m < b) (h3:b≤n) :
 Calls Try.prog 41 #[.slice (some ⟨g,0,none⟩) n d,.int .i64 ai,.int .i64 mi,.int .i64 bi,f] w (SPost w g n z0 (putS (z0.map IP.m) a b (seg (z0.map IP.m) m b++seg (z0.map IP.m) a m))):=by
 subst hai;subst hmi;subst hbi;have HS:=Lib.hid (SJ.start hr hl);have HR:=Lib.hid (RotJ.start (z0.map IP.m) (show a≤m by omega) (show m≤b by omega) (by rw [List.length_map,hl];exact h3))
 obtain ⟨T,hT⟩:∃ T,putS (z0.map IP.m) a b (seg (z0.map IP.m) m b++seg (z0.map IP.m) a m)=T:=⟨_,rfl⟩;rw [hT] at HR ⊢;obtain ⟨i0,hi0⟩:∃ i0,m - a=i0:=⟨_,rfl⟩;obtain ⟨j0,hj0⟩:∃ j0,b - m=j0:=⟨_,rfl⟩;rw [hi0,hj0] at HR;have hiz:(m:Int) - (a:Int)=(i0:Int):=by omega
 have hjz:(b:Int) - (m:Int)=(j0:Int):=by omega
 clear hr hl hT
 go_enter Try.func41,Try.ntmps41
 go_wp2_with fail
 go_loopw [10,11] (fun i j wr => ∃ (p q:Nat) (L:List ItemV) (zs:List IP),0 < p∧0 < q∧p≤m∧m+q≤n∧i=.int .i64 (p:Int)∧j=.int .i64 (q:Int)∧Hid (SJ w wr g n z0 L zs)∧Hid (RotJ L T m p q)) (fun i j _ => (RowKit.intOf i).toNat+(RowKit.intOf j).toNat)
 case atStart => exact ⟨i0,j0,_,z0,by omega,by omega,by omega,by omega,rfl,rfl,HS,HR⟩
 case round =>
  obtain ⟨p,q,L,zs,hp,hq,hpm,hqn,rfl,rfl,hO,hJ⟩:=hrel;clear hiz hjz hi0 hj0
  by_cases hpq:p=q
  ·subst hpq
   have hz:((p:Int) != (p:Int))=false:=by simp
   obtain ⟨s,hs⟩:∃ s,m - p=s:=⟨_,rfl⟩;have hsz:(m:Int) - (p:Int)=(s:Int):=by omega
   have HC:=Lib.hid (swapR_any wr g n d s m p _ _ _ f zs rfl rfl rfl hO.out.row hO.out.len hnd hn (by omega) (by omega))
   have E:Hid (swapN (zs.map IP.m) s m p=T):=Lib.hid (by rw [hO.out.says,← hs];exact hJ.out.done)
   clear hs
   go_wp2_with fail
   refine HC.out.mono ?_
   rintro e w1 ⟨rfl,z1,h1⟩;have H1:=Lib.hid (hO.out.then h1)
   clear h1 HC
   go_wp2
   go_end0
   exact ⟨rfl,z1,by rw [← E.out];exact H1.out⟩
  ·have hz:((p:Int) != (q:Int))=true:=by simp;omega
   obtain ⟨s,hs⟩:∃ s,m - p=s:=⟨_,rfl⟩;have hsz:(m:Int) - (p:Int)=(s:Int):=by omega
   by_cases hlt:q < p
   ·have hltz:(q:Int) < (p:Int):=by omega
    have HC:=Lib.hid (swapR_any wr g n d s m q _ _ _ f zs rfl rfl rfl hO.out.row hO.out.len hnd hn (by omega) (by omega))
    have E:Hid (RotJ (swapN (zs.map IP.m) s m q) T m (p - q) q):=Lib.hid (by rw [hO.out.says,← hs];exact hJ.out.big hlt)
    clear hs
    go_wp2_with fail
    refine HC.out.mono ?_
    rintro e w1 ⟨rfl,z1,h1⟩;have H1:=Lib.hid (hO.out.then h1)
    clear h1 HC
    go_wp2
    go_roundw
    case rel => exact ⟨p - q,q,_,z1,by omega,by omega,by omega,by omega,by go_num,rfl,H1,E⟩
    case measure => simp [RowKit.intOf];omega
   ·have hltz:¬ ((q:Int) < (p:Int)):=by omega
    obtain ⟨t,ht⟩:∃ t,m+q - p=t:=⟨_,rfl⟩;have htz:(m:Int)+(q:Int) - (p:Int)=(t:Int):=by omega
    have HC:=Lib.hid (swapR_any wr g n d s t p _ _ _ f zs rfl rfl rfl hO.out.row hO.out.len hnd hn (by omega) (by omega))
    have E:Hid (RotJ (swapN (zs.map IP.m) s t p) T m p (q - p)):=Lib.hid (by rw [hO.out.says,← hs,← ht];exact hJ.out.small (by omega))
    clear hs ht
    go_wp2_with fail
    refine HC.out.mono ?_
    rintro e w1 ⟨rfl,z1,h1⟩;have H1:=Lib.hid (hO.out.then h1)
    clear h1 HC
    go_wp2
    go_roundw
    case rel => exact ⟨p,q - p,_,z1,by omega,by omega,by omega,by omega,rfl,by go_num,H1,E⟩
    case measure => simp [RowKit.intOf];omega
end Go.Proofs.Ytpdpgjilalojjaa.Itm
end
section
namespace Go.Proofs.Ytpdpgjilalojjaa.Itm
open Go.ChangeShapes Go.WideShapes Go.ChangeAt Go.RowKit Base Byt Txt Bk Rec Block Mem Tre Go.Lib
set_option linter.unusedVariables false
set_option maxRecDepth 100000
attribute [local irreducible] wpQuiet
def SymUpTo (k:Nat):Prop:=∀ (w:World) (g n d a m b:Nat) (ai mi bi:Int) (z0:List IP),ai=(a:Int) → mi=(m:Int) → bi=(b:Int) → Ri w g z0 → z0.length=n → n≤d → n≤1000 → a < m → m < b → b≤n → b - a < k → InOrd (seg (z0.map IP.m) a m) → InOrd (seg (z0.map IP.m) m b) →
 Calls Try.prog 40 #[.slice (some ⟨g,0,none⟩) n d,.int .i64 ai,.int .i64 mi,.int .i64 bi,ordV] w (SPost w g n z0 (putS (z0.map IP.m) a b (sortI (seg (z0.map IP.m) a b))))
section
variable {l:List ItemV} {a m b s e mid:Nat}
theorem half1 (h1:a≤s) (h2:s≤m) (h3:m≤e) (h4:e≤b) (hb:b≤l.length) (hmid:s+e=mid+m) (hms:s≤mid) (hme:mid≤e) (ho1:InOrd (seg l a m)) (ho2:InOrd (seg l m b)) {l1:List ItemV} (hl1:l1=putS l s e (seg l m e++seg l s m)) :
 InOrd (seg l1 a s)∧InOrd (seg l1 s mid)∧putS l1 a mid (sortI (seg l1 a mid))=putS l a b (sortI (seg l a s++seg l m e)++(seg l s m++seg l e b))∧l1=putS l a b ((seg l a s++seg l m e)++(seg l s m++seg l e b)):=by
 rw [turned l h1 h2 h3 h4 hb] at hl1;have e1:(seg l a s++seg l m e).length=mid - a:=by rw [List.length_append,seg_length _ _ _ (by omega),seg_length _ _ _ (by omega)];omega
 have e2:(seg l s m++seg l e b).length=b - mid:=by rw [List.length_append,seg_length _ _ _ (by omega),seg_length _ _ _ (by omega)];omega
 have e3:(seg l a s).length=s - a:=seg_length _ _ _ (by omega)
 subst hl1;have g1:=seg_put1 l (show a≤mid by omega) (show mid≤b by omega) hb e1 e2
 refine ⟨?_,?_,?_,rfl⟩
 ·rw [seg_take _ hms,g1,← e3,List.take_append_of_le_length (Nat.le_refl _),List.take_of_length_le (Nat.le_refl _)]
  exact inord_part ho1 (Nat.le_refl _) h1 h2
 ·rw [seg_drop _ h1,g1,← e3,List.drop_append_of_le_length (Nat.le_refl _),List.drop_of_length_le (Nat.le_refl _),List.nil_append]
  exact inord_part ho2 (Nat.le_refl _) h3 h4
 ·rw [g1,put_put1 l _ (show a≤mid by omega) (show mid≤b by omega) hb e1 e2]
theorem half1_skip (h1:a≤s) (h2:s≤m) (h3:m≤e) (h4:e≤b) (hmid:s+e=mid+m) (hms:s≤mid) (ho1:InOrd (seg l a m)) (ho2:InOrd (seg l m b)) (h:¬ (a < s∧s < mid)):sortI (seg l a s++seg l m e)=seg l a s++seg l m e:=by
 apply sortI_self
 by_cases h5:a < s
 ·have:e=m:=by omega
  subst this;rw [seg_self,List.append_nil];exact inord_part ho1 (Nat.le_refl _) h1 h2
 ·obtain rfl:s=a:=by omega
  rw [seg_self,List.nil_append];exact inord_part ho2 (Nat.le_refl _) h3 h4
theorem half2 (h1:a≤s) (h2:s≤m) (h3:m≤e) (h4:e≤b) (hb:b≤l.length) (hmid:s+e=mid+m) (hms:s≤mid) (hme:mid≤e) (ho1:InOrd (seg l a m)) (ho2:InOrd (seg l m b)) {l2:List ItemV} (hl2:l2=putS l a b (sortI (seg l a s++seg l m e)++(seg l s m++seg l e b))) :
 InOrd (seg l2 mid e)∧InOrd (seg l2 e b)∧putS l2 mid b (sortI (seg l2 mid b))=putS l a b (sortI (seg l a s++seg l m e)++sortI (seg l s m++seg l e b)):=by
 have e1:(sortI (seg l a s++seg l m e)).length=mid - a:=by rw [sortI_length,List.length_append,seg_length _ _ _ (by omega),seg_length _ _ _ (by omega)];omega
 have e2:(seg l s m++seg l e b).length=b - mid:=by rw [List.length_append,seg_length _ _ _ (by omega),seg_length _ _ _ (by omega)];omega
 have e3:(seg l s m).length=e - mid:=by rw [seg_length _ _ _ (by omega)];omega
 subst hl2;have g1:=seg_put2 l (show a≤mid by omega) (show mid≤b by omega) hb e1 e2
 refine ⟨?_,?_,?_⟩
 ·rw [seg_take _ h4,g1,← e3,List.take_append_of_le_length (Nat.le_refl _),List.take_of_length_le (Nat.le_refl _)]
  exact inord_part ho1 h1 h2 (Nat.le_refl _)
 ·rw [seg_drop _ hme,g1,← e3,List.drop_append_of_le_length (Nat.le_refl _),List.drop_of_length_le (Nat.le_refl _),List.nil_append]
  exact inord_part ho2 h3 h4 (Nat.le_refl _)
 ·rw [g1,put_put2 l _ (show a≤mid by omega) (show mid≤b by omega) hb e1 e2]
theorem half2_skip (h1:a≤s) (h2:s≤m) (h3:m≤e) (h4:e≤b) (hmid:s+e=mid+m) (hme:mid≤e) (ho1:InOrd (seg l a m)) (ho2:InOrd (seg l m b)) (h:¬ (mid < e∧e < b)):sortI (seg l s m++seg l e b)=seg l s m++seg l e b:=by
 apply sortI_self
 by_cases h5:mid < e
 ·obtain rfl:e=b:=by omega
  rw [seg_self,List.append_nil];exact inord_part ho1 h1 h2 (Nat.le_refl _)
 ·have:s=m:=by omega
  subst this;rw [seg_self,List.nil_append];exact inord_part ho2 h3 h4 (Nat.le_refl _)
end
set_option maxHeartbeats 8000000 in
theorem symG_any (k:Nat) (IH:SymUpTo k) (w:World) (g n d a m b:Nat) (ai mi bi:Int) (z0:List IP) (hai:ai=(a:Int)) (hmi:mi=(m:Int)) (hbi:bi=(b:Int)) (hr:Ri w g z0) (hl:z0.length=n) (hnd:n≤d) (hn:n≤1000) (h1:a+1 < m) (h2:m+1 < b) (h3:b≤n) (hk:b - a=k) (ho1:InOrd (seg (z0.map IP.m) a m)) (ho2:InOrd (seg (z0.map IP.m) m b)) :
 Calls Try.prog 40 #[.slice (some ⟨g,0,none⟩) n d,.int .i64 ai,.int .i64 mi,.int .i64 bi,ordV] w (SPost w g n z0 (putS (z0.map IP.m) a b (sortI (seg (z0.map IP.m) a b)))):=by
 subst hai;subst hmi;subst hbi;have HIH:=Lib.hid IH;obtain ⟨L,hL⟩:∃ L,z0.map IP.m=L:=⟨_,rfl⟩;have hLl:L.length=n:=by rw [← hL,List.length_map,hl]
 have HS:=Lib.hid (SJ.start hr hl);rw [hL] at HS ho1 ho2 ⊢;have HLL:=Lib.hid hLl;have HO1:=Lib.hid ho1;have HO2:=Lib.hid ho2;have hne:((m:Int) - (a:Int) == 1)=false:=by simp;omega
 have hne2:((b:Int) - (m:Int) == 1)=false:=by simp;omega
 obtain ⟨mid,hmid⟩:∃ mid,(a+b) / 2=mid:=⟨_,rfl⟩;obtain ⟨nn,hnn⟩:∃ nn,mid+m=nn:=⟨_,rfl⟩;have hmidz:((a:Int)+(b:Int)) / 2=(mid:Int):=by omega
 have hnnz:(mid:Int)+(m:Int)=(nn:Int):=by omega
 obtain ⟨s0,hs0⟩:∃ s0,(if mid < m then nn - b else a)=s0:=⟨_,rfl⟩
 obtain ⟨r0,hr0⟩:∃ r0,(if mid < m then mid else m)=r0:=⟨_,rfl⟩
 have HK:=Lib.hid hk;have HN:=Lib.hid (And.intro hmid hnn)
 have hb0:a≤s0∧s0≤r0∧r0≤m∧r0≤mid∧nn≤s0+b∧r0+m≤nn:=by
  by_cases h:mid < m
  ·rw [if_pos h] at hs0 hr0;omega
  ·rw [if_neg h] at hs0 hr0;omega
 have HE0:Hid ((s0=a ∨ nn - s0=b)∧(r0=m ∨ nn - r0=m)):=Lib.hid (by
  by_cases h:mid < m
  ·rw [if_pos h] at hs0 hr0;omega
  ·rw [if_neg h] at hs0 hr0;omega)
 clear hr hl hL hLl ho1 ho2 IH hk
 go_enter Try.func40,Try.ntmps40
 go_upto_if 140 with fail
 go_cut [20,21] (fun s20 s21 wx => s20=.int .i64 (s0:Int)∧s21=.int .i64 (r0:Int)∧w=wx)
 case first =>
  as_aux_lemma =>
   by_cases h:mid < m
   ·have hz:(mid:Int) < (m:Int):=by omega
    rw [if_pos h] at hs0 hr0;have hsz:(nn:Int) - (b:Int)=(s0:Int):=by omega
    subst hr0
    go_wp2
    go_meet
    exact ⟨rfl,rfl,rfl⟩
   ·have hz:¬ ((mid:Int) < (m:Int)):=by omega
    rw [if_neg h] at hs0 hr0;subst hs0;subst hr0
    go_wp2
    go_meet
    exact ⟨rfl,rfl,rfl⟩
 case rest =>
  obtain ⟨rfl,rfl,rfl⟩:=hcut;clear hs0 hr0 hne hne2 hmidz hnnz;obtain ⟨P,hP⟩:∃ P,nn - 1=P:=⟨_,rfl⟩;have hPz:(nn:Int) - 1=(P:Int):=by omega
  have hPb:P≤100000:=by omega
  have HB0:=Lib.hid hb0;have HP:=Lib.hid hP;clear hb0 hmid hnn hP
  go_wp2_with fail
  go_loopw [20,21] (fun x y wr => ∃ (s r:Nat) (zs:List IP),s0≤s∧s≤r∧r≤r0∧x=.int .i64 (s:Int)∧y=.int .i64 (r:Int)∧Hid (SJ w wr g n z0 L zs)∧Hid (s=s0 ∨ lessI (L.getD (P - (s - 1)) zeroI) (L.getD (s - 1) zeroI)=false)∧Hid (r=r0 ∨ lessI (L.getD (P - r) zeroI) (L.getD r zeroI)=true)) (fun x y _ => (RowKit.intOf y).toNat - (RowKit.intOf x).toNat)
  case atStart => exact ⟨s0,r0,z0,Nat.le_refl _,HB0.out.2.1,Nat.le_refl _,rfl,rfl,HS,Lib.hid (.inl rfl),Lib.hid (.inl rfl)⟩
  case round =>
   obtain ⟨s,r,zs,hss,hsr,hrr,rfl,rfl,hO,hA,hB⟩:=hrel;clear hPz
   by_cases hlt:s < r
   ·as_aux_lemma =>
     have hltz:(s:Int) < (r:Int):=by omega
     obtain ⟨H,hH⟩:∃ H,(s+r) / 2=H:=⟨_,rfl⟩;obtain ⟨D,hD⟩:∃ D,P - H=D:=⟨_,rfl⟩;have hHz:((s:Int)+(r:Int)) / 2=(H:Int):=by omega
     have hHp:s≤H:=by omega
     have hHq:H < r:=by omega
     have hHn:(H:Int) < (n:Int):=by have:=HB0.out;omega
     have hPH:H≤P∧D < n:=by have:=HB0.out;have:=HP.out;have:=HN.out;omega
     have wD:IntKind.i64.wrap ((P:Int) - (H:Int))=(D:Int):=by rw [IntKind.wrap_i64];have:=HB0.out;have:=HP.out;have:=HN.out;omega
     have hDn:(D:Int) < (n:Int):=by omega
     have hzl:zs.length=n:=hO.out.len;obtain ⟨c0,c1,c2⟩:=hO.out.row.cells3 (show D < zs.length by omega)
     obtain ⟨d0,d1,d2⟩:=hO.out.row.cells3 (show H < zs.length by omega)
     have HLS:Hid (∀ p:Since wr,Calls Try.prog 35 #[.agg (zs.getD D zeroJ).cs,.agg (zs.getD H zeroJ).cs] p.w' fun e w' => e=.returned (.int .i64 (orderI (zs.getD D zeroJ).m (zs.getD H zeroJ).m))∧Below p.w'.heap.size p.w' w'):=Lib.hid (fun p => orderI_any _ _ p.w')
     have HGM:Hid ((zs.getD D zeroJ).m=L.getD D zeroI∧(zs.getD H zeroJ).m=L.getD H zeroI):=Lib.hid ⟨hO.out.get _,hO.out.get _⟩;obtain ⟨u,hu⟩:∃ u,zs.getD D zeroJ=u:=⟨_,rfl⟩;obtain ⟨v,hv⟩:∃ v,zs.getD H zeroJ=v:=⟨_,rfl⟩;rw [hu] at c0 c1 c2 HGM HLS;rw [hv] at d0 d1 d2 HGM HLS;obtain ⟨B,hB'⟩:∃ B,lessI u.m v.m=B:=⟨_,rfl⟩;obtain ⟨C,hC⟩:∃ C,orderI u.m v.m=C:=⟨_,rfl⟩;have hCB:decide (C < 0)=B:=by rw [← hC,← hB'];exact orderI_neg _ _
     rw [hC] at HLS;have HBB:Hid (lessI (L.getD (P - H) zeroI) (L.getD H zeroI)=B):=Lib.hid (by rw [hD,← HGM.out.1,← HGM.out.2];exact hB')
     unfold IP.cs itmC at HLS;have sc0:=since_cell c0;have sc1:=since_cell c1;have sc2:=since_cell c2;have sd0:=since_cell d0;have sd1:=since_cell d1;have sd2:=since_cell d2;clear hu hv hB' hC hzl c0 c1 c2 d0 d1 d2 hH hD
     go_upto_region 35 with fail
     refine wp_region_since (by kernel_rfl) (by kernel_rfl) ?_
     repeat (quiet_step (first | (go_at_call 35;exact Calls.since_of (HLS.out _))))
     refine wpQuiet_nil ?_
     intro wq hw';have hwq:=since_bel hw';clear hw' sc0 sc1 sc2 sd0 sd1 sd2;have HO1:=Lib.hid (hO.out.grow hwq);clear hwq
     cases B with
     | false =>
       go_wp2
       go_roundw
       case rel => exact ⟨H+1,r,zs,by omega,by omega,hrr,by go_num,rfl,HO1,Lib.hid (.inr HBB.out),hB⟩
       case measure => simp [RowKit.intOf];omega
     | true =>
       go_wp2
       go_roundw
       case rel => exact ⟨s,H,zs,hss,by omega,by omega,rfl,by go_num,HO1,hA,Lib.hid (.inr HBB.out)⟩
       case measure => simp [RowKit.intOf];omega
   ·obtain rfl:s=r:=by omega
    have hks:¬ ((s:Int) < (s:Int)):=by omega
    obtain ⟨e,he⟩:∃ e,nn - s=e:=⟨_,rfl⟩;have hez:(nn:Int) - (s:Int)=(e:Int):=by have:=HB0.out;have:=HN.out;omega
    have F:Hid (a≤s∧s≤m∧m≤e∧e≤b∧s+e=mid+m∧s≤mid∧mid≤e∧mid < b∧a < mid):=Lib.hid (by have:=HB0.out;have:=HN.out;omega)
    have HX:Hid (s=m ∨ e=m ∨ lessI (L.getD (e - 1) zeroI) (L.getD s zeroI)=true):=Lib.hid (by
     rcases hB.out with h | h
     ·rcases HE0.out.2 with h5 | h5
      ·exact .inl (by omega)
      ·exact .inr (.inl (by omega))
     ·exact .inr (.inr (by rw [show e - 1=P - s by have:=HP.out;omega];exact h)))
    have HY:Hid (s=a ∨ e=b ∨ lessI (L.getD e zeroI) (L.getD (s - 1) zeroI)=false):=Lib.hid (by
     rcases hA.out with h | h
     ·rcases HE0.out.1 with h5 | h5
      ·exact .inl (by omega)
      ·exact .inr (.inl (by omega))
     ·by_cases h0:s=a
      ·exact .inl h0
      ·exact .inr (.inr (by rw [show e=P - (s - 1) by have:=HP.out;have:=F.out;omega];exact h)))
    have HLB:Hid (b≤L.length):=Lib.hid (by rw [HLL.out];exact h3)
    obtain ⟨L1,hL1⟩:∃ L1,putS L s e (seg L m e++seg L s m)=L1:=⟨_,rfl⟩;obtain ⟨g1,g2,g3,g4⟩:=half1 F.out.1 F.out.2.1 F.out.2.2.1 F.out.2.2.2.1 HLB.out F.out.2.2.2.2.1 F.out.2.2.2.2.2.1 F.out.2.2.2.2.2.2.1 HO1.out HO2.out hL1.symm;obtain ⟨L2,hL2⟩:∃ L2,putS L a b (sortI (seg L a s++seg L m e)++(seg L s m++seg L e b))=L2:=⟨_,rfl⟩;obtain ⟨k1,k2,k3⟩:=half2 F.out.1 F.out.2.1 F.out.2.2.1 F.out.2.2.2.1 HLB.out F.out.2.2.2.2.1 F.out.2.2.2.2.2.1 F.out.2.2.2.2.2.2.1 HO1.out HO2.out hL2.symm;rw [sym_cut F.out.1 F.out.2.1 F.out.2.2.1 F.out.2.2.2.1 HLB.out HO1.out HO2.out HX.out HY.out] at k3
    rw [hL2] at g3;have G1:=Lib.hid (And.intro g1 (And.intro g2 (And.intro g3 g4)));have G2:=Lib.hid (And.intro k1 (And.intro k2 k3));have HL1:=Lib.hid hL1;have HL2:=Lib.hid hL2;clear hA hB he hL1 hL2 g1 g2 g3 g4 k1 k2 k3;have he1:e≤100000:=by have:=F.out;omega
    obtain ⟨T1,hT1⟩:∃ T,decide (s < m∧m < e)=T:=⟨_,rfl⟩;have HT1:=Lib.hid hT1;clear hT1
    go_upto_region 39 with fail
    go_cut [185] (fun t wx => t=.bool T1∧wr=wx)
    case first =>
     as_aux_lemma =>
      by_cases q1:s < m
      ·have hz1:(s:Int) < (m:Int):=by omega
       by_cases q2:m < e
       ·have hz2:(m:Int) < (e:Int):=by omega
        have E:Hid (T1=true):=Lib.hid (by rw [← HT1.out];exact decide_eq_true ⟨q1,q2⟩)
        go_wp2
        go_meet
        exact ⟨by rw [E.out],rfl⟩
       ·have hz2:¬ ((m:Int) < (e:Int)):=by omega
        have E:Hid (T1=false):=Lib.hid (by rw [← HT1.out];exact decide_eq_false (fun h => q2 h.2))
        go_wp2
        go_meet
        exact ⟨by rw [E.out],rfl⟩
      ·have hz1:¬ ((s:Int) < (m:Int)):=by omega
       have E:Hid (T1=false):=Lib.hid (by rw [← HT1.out];exact decide_eq_false (fun h => q1 h.1))
       go_wp2
       go_meet
       exact ⟨by rw [E.out],rfl⟩
    case rest =>
     obtain ⟨rfl,rfl⟩:=hcut
     go_upto_if 185 with fail
     go_cut [] (fun wx => Hid (∃ zs,SJ w wx g n z0 L1 zs))
     case first =>
      as_aux_lemma =>
       cases T1 with
       | true =>
         have hc:=of_decide_eq_true HT1.out;have HC:=Lib.hid (rotR_any wr g n d s m e _ _ _ ordV zs rfl rfl rfl hO.out.row hO.out.len hnd hn hc.1 hc.2 (by have:=F.out;omega))
         clear hc
         go_wp2_with fail
         refine HC.out.mono ?_
         rintro e1 w1 ⟨rfl,z1,hz⟩;rw [hO.out.says,HL1.out] at hz;have H1:Hid (∃ zs,SJ w w1 g n z0 L1 zs):=Lib.hid ⟨z1,hO.out.then hz⟩
         clear hz HC
         go_wp2
         go_meet
         exact H1
       | false =>
         have E:Hid (∃ zs,SJ w wr g n z0 L1 zs):=Lib.hid ⟨zs,by
          have hc:=of_decide_eq_false HT1.out;rw [← HL1.out,turned_none L F.out.2.1 F.out.2.2.1 (by have:=F.out;omega)]
          exact hO.out⟩
         go_wp2
         go_meet
         exact E
     case rest =>
      obtain ⟨W1,rfl⟩:∃ x,x=wc:=⟨_,rfl⟩;obtain ⟨z1,hz1⟩:=hcut.out;have H1:=Lib.hid hz1;clear hcut hz1 hO;obtain ⟨T2,hT2⟩:∃ T,decide (a < s∧s < mid)=T:=⟨_,rfl⟩;have HT2:=Lib.hid hT2;clear hT2
      go_upto_region 41 with fail
      go_cut [199] (fun t wx => t=.bool T2∧W1=wx)
      case first =>
       as_aux_lemma =>
        by_cases q1:a < s
        ·have hz1:(a:Int) < (s:Int):=by omega
         by_cases q2:s < mid
         ·have hz2:(s:Int) < (mid:Int):=by omega
          have E:Hid (T2=true):=Lib.hid (by rw [← HT2.out];exact decide_eq_true ⟨q1,q2⟩)
          go_wp2
          go_meet
          exact ⟨by rw [E.out],rfl⟩
         ·have hz2:¬ ((s:Int) < (mid:Int)):=by omega
          have E:Hid (T2=false):=Lib.hid (by rw [← HT2.out];exact decide_eq_false (fun h => q2 h.2))
          go_wp2
          go_meet
          exact ⟨by rw [E.out],rfl⟩
        ·have hz1:¬ ((a:Int) < (s:Int)):=by omega
         have E:Hid (T2=false):=Lib.hid (by rw [← HT2.out];exact decide_eq_false (fun h => q1 h.1))
         go_wp2
         go_meet
         exact ⟨by rw [E.out],rfl⟩
      case rest =>
       obtain ⟨rfl,rfl⟩:=hcut
       go_upto_if 199 with fail
       go_cut [] (fun wx => Hid (∃ zs,SJ w wx g n z0 L2 zs))
       case first =>
        as_aux_lemma =>
         cases T2 with
         | true =>
           have hc:=of_decide_eq_true HT2.out;have HC:=Lib.hid (HIH.out W1 g n d a s mid _ _ _ z1 rfl rfl rfl H1.out.row H1.out.len hnd hn hc.1 hc.2 (by have:=F.out;omega) (by have:=F.out;have:=HK.out;omega) (by rw [H1.out.says];exact G1.out.1) (by rw [H1.out.says];exact G1.out.2.1))
           clear hc
           go_wp2_with fail
           refine HC.out.mono ?_
           rintro e1 w2 ⟨rfl,z2,hz⟩;rw [H1.out.says,G1.out.2.2.1] at hz;have H2:Hid (∃ zs,SJ w w2 g n z0 L2 zs):=Lib.hid ⟨z2,H1.out.then hz⟩
           clear hz HC
           go_wp2
           go_meet
           exact H2
         | false =>
           have E:Hid (∃ zs,SJ w W1 g n z0 L2 zs):=Lib.hid ⟨z1,by
            rw [← HL2.out,half1_skip F.out.1 F.out.2.1 F.out.2.2.1 F.out.2.2.2.1 F.out.2.2.2.2.1 F.out.2.2.2.2.2.1 HO1.out HO2.out (of_decide_eq_false HT2.out),← G1.out.2.2.2]
            exact H1.out⟩
           go_wp2
           go_meet
           exact E
       case rest =>
        obtain ⟨W2,rfl⟩:∃ x,x=wc:=⟨_,rfl⟩;obtain ⟨z2,hz2⟩:=hcut.out;have H2:=Lib.hid hz2;clear hcut hz2 H1
        as_aux_lemma =>
         by_cases hc:mid < e∧e < b
         ·have hz1:(mid:Int) < (e:Int):=by omega
          have hz2:(e:Int) < (b:Int):=by omega
          have HC:=Lib.hid (HIH.out W2 g n d mid e b _ _ _ z2 rfl rfl rfl H2.out.row H2.out.len hnd hn hc.1 hc.2 h3 (by have:=F.out;have:=HK.out;omega) (by rw [H2.out.says];exact G2.out.1) (by rw [H2.out.says];exact G2.out.2.1))
          go_wp2_with fail
          refine HC.out.mono ?_
          rintro e1 w3 ⟨rfl,z3,hz⟩;rw [H2.out.says,G2.out.2.2] at hz;have H3:=Lib.hid (H2.out.then hz)
          clear hz HC
          go_wp2
          go_end0
          exact ⟨rfl,z3,H3.out⟩
         ·have E:Hid (SJ w W2 g n z0 (putS L a b (sortI (seg L a b))) z2):=Lib.hid (by
           have h5:=H2.out;rw [← HL2.out,← half2_skip F.out.1 F.out.2.1 F.out.2.2.1 F.out.2.2.2.1 F.out.2.2.2.2.1 F.out.2.2.2.2.2.2.1 HO1.out HO2.out hc,sym_cut F.out.1 F.out.2.1 F.out.2.2.1 F.out.2.2.2.1 HLB.out HO1.out HO2.out HX.out HY.out] at h5
           exact h5)
          by_cases hc1:mid < e
          ·have hz1:(mid:Int) < (e:Int):=by omega
           have hz2:¬ ((e:Int) < (b:Int)):=by omega
           clear hc
           go_wp2
           go_end0
           exact ⟨rfl,z2,E.out⟩
          ·have hz1:¬ ((mid:Int) < (e:Int)):=by omega
           clear hc
           go_wp2
           go_end0
           exact ⟨rfl,z2,E.out⟩
theorem symUpTo_all:∀ k,SymUpTo k:=by
 intro k
 induction k with
 | zero => intro w g n d a m b ai mi bi z0 _ _ _ _ _ _ _ _ _ _ h;omega
 | succ k ih =>
   intro w g n d a m b ai mi bi z0 hai hmi hbi hr hl hnd hn h1 h2 h3 hk ho1 ho2
   by_cases hlt:b - a < k
   ·exact ih w g n d a m b ai mi bi z0 hai hmi hbi hr hl hnd hn h1 h2 h3 hlt ho1 ho2
   ·by_cases hm:m=a+1
    ·exact symL_any w g n d a m b ai mi bi z0 hai hmi hbi hr hl hnd hn hm h2 h3 ho2
    ·by_cases hb:b=m+1
     ·exact symR_any w g n d a m b ai mi bi z0 hai hmi hbi hr hl hnd hn hb (by omega) h3 ho1
     ·exact symG_any k ih w g n d a m b ai mi bi z0 hai hmi hbi hr hl hnd hn (by omega) (by omega) h3 (by omega) ho1 ho2
end Go.Proofs.Ytpdpgjilalojjaa.Itm
end
section
namespace Go.Proofs.Ytpdpgjilalojjaa.Itm
open Go.ChangeShapes Go.WideShapes Go.ChangeAt Go.RowKit Base Byt Txt Bk Rec Block Mem Tre Go.Lib
set_option linter.unusedVariables false
set_option maxRecDepth 100000
set_option maxHeartbeats 4000000 in
theorem stbR_any (w:World) (g n d:Nat) (ni:Int) (z0:List IP) (hni:ni=(n:Int)) (hr:Ri w g z0) (hl:z0.length=n) (hnd:n≤d) (hn:n≤1000) :
 Calls Try.prog 38 #[.slice (some ⟨g,0,none⟩) n d,.int .i64 ni,ordV] w (SPost w g n z0 (sortI (z0.map IP.m))):=by
 subst hni;obtain ⟨T,hT⟩:∃ T,z0.map IP.m=T:=⟨_,rfl⟩;have HT:Hid (T.length=n):=Lib.hid (by rw [← hT,List.length_map,hl])
 have HS:=Lib.hid (SJ.start hr hl);rw [hT] at HS ⊢;clear hr hl hT
 go_enter Try.func38,Try.ntmps38
 go_wp2_with fail
 go_loopw [7,8] (fun x y wr => ∃ (a b:Nat) (L:List ItemV) (zs:List IP),a≤n∧b≤2000∧x=.int .i64 (a:Int)∧y=.int .i64 (b:Int)∧Hid (b=a+20)∧Hid (SJ w wr g n z0 L zs)∧Hid (Pf L T 20 n a)∧Hid (L.drop a=T.drop a)) (fun x _ _ => n - (RowKit.intOf x).toNat)
 case atStart => exact ⟨0,20,T,z0,Nat.zero_le _,by omega,rfl,rfl,Lib.hid rfl,HS,Lib.hid (Pf.start _ _ _ _),Lib.hid rfl⟩
 case round =>
  obtain ⟨a,b,L,zs,han,hb2,rfl,rfl,hab,hO,hP,hD⟩:=hrel
  by_cases hle:b≤n
  ·have hlez:(b:Int)≤(n:Int):=by omega
   have hab1:a < b:=by have:=hab.out;omega
   have HC:=Lib.hid (insR_any wr g n d a b _ _ zs rfl rfl hO.out.row hO.out.len hnd hn (by omega) hle)
   go_wp2_with fail
   refine HC.out.mono ?_
   rintro e w1 ⟨rfl,z1,h1⟩;rw [hO.out.says] at h1;have hx:(sortI (seg L a b)).length=b - a:=by rw [sortI_length,seg_length _ _ _ (by rw [hO.out.llen];exact hle)]
   have HP1:=Lib.hid (hP.out.step (x:=sortI (seg L a b)) hab.out (by decide) hle hO.out.llen hx (by rw [seg_same hD.out]))
   have HD1:Hid ((putS L a b (sortI (seg L a b))).drop b=T.drop b):=Lib.hid (by
    rw [putS_drop L _ (by rw [hO.out.llen];exact han) (by rw [hO.out.llen];exact hle) (by omega) hx]
    have:=congrArg (List.drop (b - a)) hD.out;rw [List.drop_drop,List.drop_drop,show a+(b - a)=b by omega] at this
    exact this)
   have HO1:=Lib.hid (hO.out.then h1)
   clear h1 hx HC
   go_wp2
   go_roundw
   case rel => exact ⟨b,b+20,_,z1,hle,by omega,rfl,by go_num,Lib.hid rfl,HO1,HP1,HD1⟩
   case measure => simp [RowKit.intOf];omega
  ·have hlez:¬ ((b:Int)≤(n:Int)):=by omega
   have HC:=Lib.hid (insR_any wr g n d a n _ _ zs rfl rfl hO.out.row hO.out.len hnd hn han (Nat.le_refl _))
   go_wp2_with fail
   refine HC.out.mono ?_
   rintro e w1 ⟨rfl,z1,h1⟩;rw [hO.out.says] at h1;have HO1:=Lib.hid (hO.out.then h1)
   have HB1:Hid (Bl (putS L a n (sortI (seg L a n))) T 20 n 0):=Lib.hid (hP.out.last han (by have:=hab.out;omega) hO.out.llen (by rw [sortI_length,seg_length _ _ _ (by rw [hO.out.llen];exact Nat.le_refl _)]) (by rw [seg_same hD.out]))
   clear h1 HC hO hP hD hab
   go_wp2_with fail
   go_loopw [6] (fun x wr => ∃ (c:Nat) (L:List ItemV) (zs:List IP),20≤c∧c≤2000∧x=.int .i64 (c:Int)∧Hid (SJ w wr g n z0 L zs)∧Hid (Bl L T c n 0)) (fun x _ => n - (RowKit.intOf x).toNat)
   case atStart => exact ⟨20,_,z1,by omega,by omega,rfl,HO1,HB1⟩
   case round =>
    obtain ⟨c,L,zs,hc1,hc2,rfl,hO,hB⟩:=hrel;clear HO1 HB1
    by_cases hlt:c < n
    ·have hltz:(c:Int) < (n:Int):=by omega
     obtain ⟨C,hC⟩:∃ C,2 * c=C:=⟨_,rfl⟩;have HCC:=Lib.hid hC;have hC2:C≤4000:=by omega
     have hCz:(2:Int) * (c:Int)=(C:Int):=by omega
     have hCz2:(c:Int) * 2=(C:Int):=by omega
     obtain ⟨wo,rfl⟩:∃ x,x=wr:=⟨_,rfl⟩;clear hC
     go_wp2_with fail
     go_loopw [7,8] (fun x y wr => ∃ (a b:Nat) (L:List ItemV) (zs:List IP),a≤n∧b≤10000∧x=.int .i64 (a:Int)∧y=.int .i64 (b:Int)∧Hid (b=a+C)∧Hid (SJ w wr g n z0 L zs)∧Hid (Pf L T C n a)∧Hid (Bl L T c n a)) (fun x _ _ => n - (RowKit.intOf x).toNat)
     case atStart => exact ⟨0,C,L,zs,Nat.zero_le _,by omega,rfl,rfl,Lib.hid (by omega),hO,Lib.hid (Pf.start _ _ _ _),hB⟩
     case round =>
      obtain ⟨a,b,L,zs,han,hb2,rfl,rfl,hab,hO,hP,hB⟩:=hrel;obtain ⟨m,hm⟩:∃ m,a+c=m:=⟨_,rfl⟩;have hmz:(a:Int)+(c:Int)=(m:Int):=by omega
      have hm2:m≤4000:=by omega
      have HMM:=Lib.hid hm
      by_cases hle:b≤n
      ·have hlez:(b:Int)≤(n:Int):=by omega
       have hab1:a < b:=by have:=hab.out;have:=HCC.out;omega
       obtain ⟨p1,p2,p3⟩:=hB.out.two (by omega) (by have:=hab.out;have:=HCC.out;omega)
       rw [show a+2 * c=b by have:=hab.out;have:=HCC.out;omega] at p2 p3
       rw [hm] at p1 p2;have HC:=Lib.hid (symUpTo_all (b - a+1) wr g n d a m b _ _ _ zs rfl rfl rfl hO.out.row hO.out.len hnd hn (by omega) (by have:=hab.out;have:=HCC.out;omega) hle (by omega) (by rw [hO.out.says];exact pc_ord p1) (by rw [hO.out.says];exact pc_ord p2))
       have hx:(sortI (seg L a b)).length=b - a:=by rw [sortI_length,seg_length _ _ _ (by rw [hO.out.llen];exact hle)]
       have HP1:=Lib.hid (hP.out.step (x:=sortI (seg L a b)) hab.out (by omega) hle hO.out.llen hx (pc_two (by omega) (by have:=hab.out;have:=HCC.out;omega) p1 p2))
       have HB1:=Lib.hid (p3.congr (l':=putS L a b (sortI (seg L a b))) (fun x y hx2 => seg_put_behind L _ (by omega) hx2 (by rw [hO.out.llen];exact hle) hx))
       clear hx p1 p2 p3 hm
       go_wp2_with fail
       refine HC.out.mono ?_
       rintro e w2 ⟨rfl,z2,h2⟩;rw [hO.out.says] at h2;have HO1:=Lib.hid (hO.out.then h2)
       clear h2 HC
       go_wp2
       go_roundw
       case rel => exact ⟨b,b+C,_,z2,hle,by omega,rfl,by go_num,Lib.hid rfl,HO1,HP1,HB1⟩
       case measure => simp [RowKit.intOf];omega
      ·have hlez:¬ ((b:Int)≤(n:Int)):=by omega
       by_cases hmn:m < n
       ·have hmnz:(m:Int) < (n:Int):=by omega
        obtain ⟨p1,p2⟩:=hB.out.tail (by omega) (by omega) (by have:=hab.out;have:=HCC.out;omega)
        rw [hm] at p1 p2;have HC:=Lib.hid (symUpTo_all (n - a+1) wr g n d a m n _ _ _ zs rfl rfl rfl hO.out.row hO.out.len hnd hn (by omega) hmn (Nat.le_refl _) (by omega) (by rw [hO.out.says];exact pc_ord p1) (by rw [hO.out.says];exact pc_ord p2))
        have HB1:Hid (Bl (putS L a n (sortI (seg L a n))) T C n 0):=Lib.hid (hP.out.last han (by have:=hab.out;omega) hO.out.llen (by rw [sortI_length,seg_length _ _ _ (by rw [hO.out.llen];exact Nat.le_refl _)]) (pc_two (by omega) (by omega) p1 p2))
        clear p1 p2 hm
        go_wp2_with fail
        refine HC.out.mono ?_
        rintro e w2 ⟨rfl,z2,h2⟩;rw [hO.out.says] at h2;have HO1:=Lib.hid (hO.out.then h2)
        clear h2 HC
        go_wp2
        go_roundw
        case rel => exact ⟨C,_,z2,by have:=HCC.out;omega,by have:=HCC.out;omega,by go_num,HO1,HB1⟩
        case measure => have:=HCC.out;simp [RowKit.intOf];omega
       ·have hmnz:¬ ((m:Int) < (n:Int)):=by omega
        have HB1:Hid (Bl L T C n 0):=Lib.hid (hP.out.done (by have h5:=hB.out.one (by omega);rw [HCC.out] at h5;exact h5))
        clear hm
        go_wp2
        go_roundw
        case rel => exact ⟨C,L,zs,by have:=HCC.out;omega,by have:=HCC.out;omega,by go_num,hO,HB1⟩
        case measure => have:=HCC.out;simp [RowKit.intOf];omega
    ·have hltz:¬ ((c:Int) < (n:Int)):=by omega
     go_wp2
     go_end0
     exact ⟨rfl,zs,by rw [← hB.out.all (by omega) hO.out.llen HT.out];exact hO.out⟩
theorem stableR_any (w:World) (g n d:Nat) (z0:List IP) (hr:Ri w g z0) (hl:z0.length=n) (hnd:n≤d) (hn:n≤1000) :
 Calls Try.prog 34 #[.slice (some ⟨g,0,none⟩) n d,ordV] w (SPost w g n z0 (sortI (z0.map IP.m))):=by
 have HC:=Lib.hid (stbR_any w g n d _ z0 rfl hr hl hnd hn);clear hr hl
 go_enter Try.func34,Try.ntmps34
 go_wp2_with fail
 refine HC.out.mono ?_
 rintro e w1 ⟨rfl,z1,h1⟩;have H1:=Lib.hid h1;clear h1
 go_wp2
 go_end0
 exact ⟨rfl,z1,H1.out⟩
end Go.Proofs.Ytpdpgjilalojjaa.Itm
end
section
namespace Go.Proofs.Ytpdpgjilalojjaa.Itm
open Go.ChangeShapes Go.WideShapes Go.ChangeAt Go.RowKit Base Byt Txt Bk Rec Block Mem Tre Go.Lib
set_option linter.unusedVariables false
set_option maxRecDepth 100000
attribute [local irreducible] wpQuiet
structure SrtJ (w wr:World) (q:Option Addr) (n:Nat) (L:List ItemV) (zs:List IP):Prop where
 bel:Below w.heap.size w wr
 row:0 < n → ∃ g,q=some ⟨g,0,none⟩∧w.heap.size≤g∧g < wr.heap.size∧Ri wr g zs
 len:zs.length=n
 says:zs.map IP.m=L
 dat:∀ y ∈ zs,DatAt w y
section
variable {w wr w':World} {L:List ItemV} {q:Option Addr} {n:Nat} {zs:List IP}
theorem mem_setJ {α:Type} {l:List α} {i:Nat} {a x:α} (h:x ∈ l.set i a):x ∈ l ∨ x=a:=List.mem_or_eq_of_mem_set h
theorem SrtJ.llen (h:SrtJ w wr q n L zs):L.length=n:=by rw [← h.says,List.length_map,h.len]
theorem SrtJ.get (h:SrtJ w wr q n L zs) (k:Nat):(zs.getD k zeroJ).m=L.getD k zeroI:=by rw [← h.says,getJ_map]
theorem SrtJ.grow (h:SrtJ w wr q n L zs) (hb:Below wr.heap.size wr w'):SrtJ w w' q n L zs where
 bel:=h.bel.trans (hb.mono h.bel.size)
 row:=fun h0 => by
  obtain ⟨g,hq,hw,hg,hr⟩:=h.row h0;exact ⟨g,hq,hw,Nat.lt_of_lt_of_le hg hb.size,ri_below hr hb⟩
 len:=h.len
 says:=h.says
 dat:=h.dat
theorem SrtJ.swap (h:SrtJ w wr q n L zs) {g k:Nat} (hq:q=some ⟨g,0,none⟩) (hw:w.heap.size≤g) (hg:g < wr.heap.size) (hr:Ri wr g zs) (hk:k+1 < n) :
 SrtJ w (put3 (put3 wr g ((k+1) * 3) (zs.getD k zeroJ)) g (k * 3) (zs.getD (k+1) zeroJ)) q n ((L.set (k+1) (L.getD k zeroI)).set k (L.getD (k+1) zeroI)) ((zs.set (k+1) (zs.getD k zeroJ)).set k (zs.getD (k+1) zeroJ)) where
 bel:=h.bel.trans (((put3_kept (S:=oneB g) rfl _).trans (put3_kept (S:=oneB g) rfl _)).below h.bel.size (fun b hb => by rw [show b=g from hb];exact hw))
 row:=fun _ => ⟨g,hq,hw,by
  have:=((put3_kept (W:=wr) (S:=oneB g) (g:=g) (o:=(k+1) * 3) rfl (zs.getD k zeroJ)).trans (put3_kept (S:=oneB g) (o:=k * 3) rfl (zs.getD (k+1) zeroJ))).size;omega,by
  have h1:=hr.set (k:=k+1) (by rw [h.len];exact hk) (zs.getD k zeroJ)
  exact h1.set (k:=k) (by rw [List.length_set,h.len];omega) (zs.getD (k+1) zeroJ)⟩
 len:=by rw [List.length_set,List.length_set];exact h.len
 says:=by rw [List.map_set,List.map_set,h.says,h.get,h.get]
 dat:=fun y hy => by
  rcases mem_setJ hy with hy | rfl
  ·rcases mem_setJ hy with hy | rfl
   ·exact h.dat y hy
   ·exact h.dat _ (getJ_mem zs _ (by rw [h.len];omega))
  ·exact h.dat _ (getJ_mem zs _ (by rw [h.len];omega))
theorem SrtJ.drewN (h:SrtJ w wr q n L zs) (m:Nat):SrtJ w (wr.drewN m) q n L zs where
 bel:=below_drewN h.bel m
 row:=fun h0 => by
  obtain ⟨g,h1,h2,h3,h4⟩:=h.row h0;exact ⟨g,h1,h2,h3,ri_drewN h4 m⟩
 len:=h.len
 says:=h.says
 dat:=h.dat
end
theorem sort_first (L:List ItemV):sortI (L.take 1)++L.drop 1=L:=by
 cases L with
 | nil => rfl
 | cons x l => rfl
def RSortPost (w:World) (n:Nat) (L:List ItemV) (e:Ending) (w':World):Prop:=∃ q d zs,e=.returned (.slice q n d)∧zs.map IP.m=sortI L∧ItemsAt w' q n zs∧Below w.heap.size w w'
set_option maxHeartbeats 4000000 in
theorem rsortedI_any (p:Option Addr) (n c:Nat) (xs:List IP) (w:World) (h:ItemsAt w p n xs) (hn:n≤100000) :
 Calls Try.prog 22 #[.slice p n c] w (RSortPost w n (xs.map IP.m)):=by
 have HM:=Lib.hid h;obtain ⟨L,hL⟩:∃ L,xs.map IP.m=L:=⟨_,rfl⟩;have HLX:=Lib.hid hL;have hll:L.length=n:=by rw [← hL,List.length_map];exact h.1
 rw [hL];have HLL:=Lib.hid hll;clear h hL hll
 go_enter Try.func22,Try.ntmps22
 go_wp2_with (at_builtin;refine append_items rfl _ _ rfl w.heap.size _ 0 [] rfl rfl (World.ownsRow_made w #[] 0 (Nat.le_refl _) (by decide) rfl) p n c xs rfl (HM.out.below ((Below.refl _ _).alloc (Nat.le_refl _) _)) ?b1 ?b2 ?_)
 case b1 => omega
 case b2 => simp
 intro v1 w1 hown hgrow;have hk1:Kept noneB w w1:=(((Kept.refl noneB w).alloc _)).grown hgrow (by intro k hk;simp [Value.ownBlock] at hk;omega)
 have hb1:Below w.heap.size w w1:=hk1.below (Nat.le_refl _) (fun _ h => h.elim)
 have hl:=HM.out.1;obtain ⟨q,c1,rfl,hc1,hc2,_⟩:=items_own hown (fun y hy => (HM.out.2.1 y hy).below hb1)
 have HO:Hid (SrtJ w w1 q n (sortI (L.take 1)++L.drop 1) xs):=Lib.hid
  { bel:=hb1
    row:=fun h0 => by
     obtain ⟨g,c2,he,hB,_,_,hrc⟩:=ri_own hown (by rw [hl];exact h0)
     cases he
     have hlt:g < w1.heap.size:=by
      obtain ⟨cur,h1,_,_⟩:=hrc;exact h1.lt
     exact ⟨g,rfl,hB,hlt,hrc⟩
    len:=hl
    says:=by rw [sort_first];exact HLX.out
    dat:=fun y hy => HM.out.2.1 y hy }
 rw [hl] at hc1 ⊢;have HC:=Lib.hid (And.intro hc1 hc2);clear hown hgrow hk1 hb1 hl hc1 hc2
 go_wp2_with fail
 go_loopw [4,5] (fun i _ wr => ∃ (k:Nat) (zs:List IP),1≤k∧(k≤n ∨ k=1)∧i=.int .i64 (k:Int)∧Hid (SrtJ w wr q n (sortI (L.take k)++L.drop k) zs)) (fun i _ _ => n - (RowKit.intOf i).toNat)
 case atStart => exact ⟨1,xs,Nat.le_refl _,.inr rfl,rfl,HO⟩
 case round =>
  obtain ⟨k,zs,hk1,hk2,rfl,hO⟩:=hrel
  by_cases hlt:k < n
  ·have hltz:(k:Int) < (n:Int):=by omega
   have HKL:Hid (k < L.length):=Lib.hid (by rw [HLL.out];exact hlt)
   clear hk2
   go_wp2_with fail
   go_loopw [5] (fun j wr => ∃ (a:Nat) (zs:List IP),a≤k∧j=.int .i64 (a:Int)∧Hid (SrtJ w wr q n (midI L k a) zs)∧Hid (Past L k a)) (fun j _ => (RowKit.intOf j).toNat)
   case atStart => exact ⟨k,zs,Nat.le_refl _,rfl,Lib.hid (by rw [midI_start HKL.out];exact hO.out),Lib.hid (Past.start HKL.out)⟩
   case round =>
    obtain ⟨a,zs,ha,rfl,hO,hP⟩:=hrel
    by_cases h0:0 < a
    ·obtain ⟨b,hab⟩:∃ b,a=b+1:=⟨a - 1,by omega⟩
     obtain ⟨g,hq,hwg,hgr,hrc⟩:=hO.out.row (by omega)
     subst hq;have hzl:zs.length=n:=hO.out.len;have HZL:=Lib.hid hzl;have hcu:=hrc.cells3 (show a < zs.length by omega)
     have hcv:=hrc.cells3 (show b < zs.length by omega)
     have HSW:Hid (∀ w',Below wr.heap.size wr w' → SrtJ w (put3 (put3 w' g (a * 3) (zs.getD b zeroJ)) g (b * 3) (zs.getD a zeroJ)).drew (some ⟨g,0,none⟩) n (midI L k b) ((zs.set a (zs.getD b zeroJ)).set b (zs.getD a zeroJ))):=Lib.hid (fun w' hw => by
      subst hab;have h1:=(hO.out.grow hw).swap rfl hwg (Nat.lt_of_lt_of_le hgr hw.size) (ri_below hrc hw) (show b+1 < n by omega)
      rw [midI_swap HKL.out ha] at h1
      exact h1.drewN 1)
     have HCW:Hid (∀ w',Below wr.heap.size wr w' → Ri w' g zs):=Lib.hid (fun w' hw => ri_below hrc hw)
     have HLS:Hid (∀ p:Since wr,Calls Try.prog 17 #[.agg (zs.getD a zeroJ).cs,.agg (zs.getD b zeroJ).cs] p.w' fun e w' => e=.returned (.bool (lessI (zs.getD a zeroJ).m (zs.getD b zeroJ).m))∧Below p.w'.heap.size p.w' w'):=Lib.hid (fun p => rless_any _ _ p.w')
     have HGM:Hid ((zs.getD a zeroJ).m=L.getD k zeroI∧(zs.getD b zeroJ).m=(sortI (L.take k)).getD b zeroI):=Lib.hid (by
      subst hab
      exact ⟨by rw [hO.out.get,midI_get HKL.out ha],by rw [hO.out.get,midI_prev HKL.out ha]⟩)
     obtain ⟨u,hu⟩:∃ u,zs.getD a zeroJ=u:=⟨_,rfl⟩;obtain ⟨v,hv⟩:∃ v,zs.getD b zeroJ=v:=⟨_,rfl⟩;rw [hu] at hcu HSW HGM HLS;rw [hv] at hcv HSW HGM HLS;have HUV:Hid (zs.getD a zeroJ=u∧zs.getD b zeroJ=v):=Lib.hid ⟨hu,hv⟩;obtain ⟨B,hB⟩:∃ B,lessI u.m v.m=B:=⟨_,rfl⟩;rw [hB] at HLS;have HBB:=Lib.hid hB;unfold IP.cs itmC at HLS;obtain ⟨c0,c1,c2⟩:=hcu;obtain ⟨d0,d1,d2⟩:=hcv;have sc0:=since_cell c0;have sc1:=since_cell c1;have sc2:=since_cell c2;have sd0:=since_cell d0;have sd1:=since_cell d1;have sd2:=since_cell d2;have hkz:(0:Int) < (a:Int):=by omega
     have wk:IntKind.i64.wrap ((a:Int) - 1)=(b:Int):=by rw [IntKind.wrap_i64];omega
     have han:(a:Int) < (n:Int):=by omega
     have han2:(b:Int) < (n:Int):=by omega
     have hgt:decide ((0:Int) < (a:Int))=true:=decide_eq_true hkz;have HAB:=Lib.hid hab;clear hu hv hB hzl hwg hgr hrc c0 c1 c2 d0 d1 d2 hab
     go_upto_region 6 with fail
     refine wp_region_since (by kernel_rfl) (by kernel_rfl) ?_
     repeat (quiet_step (first | (go_at_call 17;exact Calls.since_of (HLS.out _))))
     refine wpQuiet_nil ?_
     intro wq hw';have hwq:=since_bel hw';clear hw' sc0 sc1 sc2 sd0 sd1 sd2;have HWQ:=Lib.hid hwq
     cases B with
     | true =>
       have HR:=HCW.out wq hwq;obtain ⟨c0,c1,c2⟩:=HR.cells3 (show a < zs.length by rw [HZL.out];omega)
       obtain ⟨d0,d1,d2⟩:=HR.cells3 (show b < zs.length by rw [HZL.out];have:=HAB.out;omega)
       rw [HUV.out.1] at c0 c1 c2;rw [HUV.out.2] at d0 d1 d2;obtain ⟨cur,hbk,_,_⟩:=HR;have fa0:=hbk.frozen (a * 3);have fa1:=hbk.frozen (a * 3+1);have fa2:=hbk.frozen (a * 3+2);have fb0:=hbk.frozen (b * 3);have fb1:=hbk.frozen (b * 3+1);have fb2:=hbk.frozen (b * 3+2)
       have HP2:Hid (Past L k b):=Lib.hid (by
        have h1:=hP.out;have h2:=HAB.out;subst h2
        exact h1.step HKL.out ha (by rw [← HGM.out.1,← HGM.out.2];exact HBB.out))
       have ne1:¬ (b=a):=by have:=HAB.out;omega
       have ne2:¬ (a=b):=by have:=HAB.out;omega
       clear hwq hbk
       go_wp2_with fail
       go_upto_region 8 with fail
       go_region
       go_wp2
       go_roundw
       case rel => exact ⟨b,_,by have:=HAB.out;omega,by have:=HAB.out;go_num,Lib.hid (HSW.out wq HWQ.out),HP2⟩
       case measure => simp [RowKit.intOf];have:=HAB.out;omega
     | false =>
       have HPR:Hid (SrtJ w wq (some ⟨g,0,none⟩) n (sortI (L.take (k+1))++L.drop (k+1)) zs):=Lib.hid (by
        rw [← hP.out.done HKL.out ha (.inr (by rw [show a - 1=b by have:=HAB.out;omega,← HGM.out.1,← HGM.out.2];exact HBB.out))]
        exact hO.out.grow hwq)
       clear hwq
       go_wp2
       go_roundw
       case rel => exact ⟨k+1,zs,by omega,.inl (by omega),by go_num,HPR⟩
       case measure => simp [RowKit.intOf];omega
    ·obtain rfl:a=0:=by omega
     have hgt:decide ((0:Int) < ((0:Nat):Int))=false:=decide_eq_false (by omega)
     have HPR:Hid (∀ m,SrtJ w (wr.drewN m) q n (sortI (L.take (k+1))++L.drop (k+1)) zs):=Lib.hid (fun m => by
      rw [← hP.out.done HKL.out ha (.inl rfl)]
      exact hO.out.drewN m)
     go_upto_region 6 with fail
     go_quiet (fail)
     go_wp2
     go_roundw
     case rel => exact ⟨k+1,zs,by omega,.inl (by omega),by go_num,Lib.hid (HPR.out _)⟩
     case measure => simp [RowKit.intOf];omega
  ·have hks:¬ ((k:Int) < (n:Int)):=by omega
   have HE:Hid (zs.map IP.m=sortI L):=Lib.hid (by
    rw [hO.out.says];rcases hk2 with h | h
    ·rw [List.take_of_length_le (by rw [HLL.out];omega),List.drop_of_length_le (by rw [HLL.out];omega),List.append_nil]
    ·subst h
     have hn1:n≤1:=by omega
     rw [List.take_of_length_le (by rw [HLL.out];exact hn1),List.drop_of_length_le (by rw [HLL.out];exact hn1),List.append_nil])
   have HI:Hid (ItemsAt wr q n zs):=Lib.hid ⟨hO.out.len,fun y hy => (hO.out.dat y hy).below hO.out.bel,fun h0 => by
    obtain ⟨g,hq,_,hg,cur,hB,_,hc⟩:=hO.out.row h0
    exact ⟨g,0,hq,hg,fun i hi j hj => by rw [Nat.zero_add,hB.cell,hc i (by rw [hO.out.len];exact hi) j hj]⟩⟩
   go_wp2
   go_ret
   exact ⟨q,c1,zs,rfl,HE.out,HI.out,hO.out.bel⟩
end Go.Proofs.Ytpdpgjilalojjaa.Itm
end
