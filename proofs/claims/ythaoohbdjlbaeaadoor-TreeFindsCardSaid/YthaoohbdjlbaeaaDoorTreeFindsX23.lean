/- Texts of this seat, merged: what the proof reaches. -/
import Derived.Test.YthaoohbdjlbaeaaDoorTreeFindsX20
import Derived.Test.YthaoohbdjlbaeaaDoorTreeFindsX6
import Derived.WalkSpells
namespace Go.Proofs.YthaoohbdjlbaeaaDoor
namespace Base
end Base
namespace Bk
end Bk
namespace Block
end Block
namespace Byt
end Byt
namespace Mem
end Mem
namespace Txt
end Txt
end Go.Proofs.YthaoohbdjlbaeaaDoor
section
namespace Go.Proofs.YthaoohbdjlbaeaaDoor.Tre
open Go.ChangeShapes Go.WideShapes Go.ChangeAt Go.RowKit Base Byt Txt Bk Block Mem Go.Lib
set_option linter.unusedVariables false
set_option maxRecDepth 100000
def ClonePost (w:World) (n:Nat) (bs:List UInt8) (e:Ending) (w':World):Prop:=
 ∃ p c,e=.returned (.slice p n c)∧n≤c∧c≤maxLen∧BAt w' p n bs∧(∀ x,p=some x → w.heap.size≤x.block)∧Below w.heap.size w w'
set_option maxHeartbeats 1000000 in
theorem clone_any (p:Option Addr) (n c:Nat) (bs:List UInt8) (w:World) (h:BAt w p n bs) (hl:bs.length=n) (hn:n≤140737488351232) :
 Calls Tryd.prog 36 #[.slice p n c] w (ClonePost w n bs):=by
 obtain ⟨i0,hi,hz0,hz1,hz2⟩:=info_parts infoU8;have HI:=Lib.hid hi;have HZ0:=Lib.hid hz0;have HZ1:=Lib.hid hz1;have HZ2:=Lib.hid hz2;have HB:=Lib.hid h;have HL:=Lib.hid hl;have hq:∀ w,(binOp .eql 36 (.slice p n c) (.slice none 0 0)).run Tryd.prog w=.ok (.bool p.isNone) w:=fun w => Lib.run_eql_slice_nil w 36 5 p n c 0 0 Tryd.underlying36
 clear hi hz0 hz1 hz2 h hl
 go_enter Tryd.func36,Tryd.ntmps36
 cases p with
 | none =>
   have h0:n=0:=by
    rcases Nat.eq_zero_or_pos n with h0 | h0
    ·exact h0
    ·obtain ⟨_,_,he,_⟩:=HB.out h0
     cases he
   subst h0
   go_wp2
   go_ret
   have hb:bs=[]:=List.eq_nil_of_length_eq_zero HL.out;subst hb;exact ⟨none,0,rfl,Nat.le_refl _,by decide,BAt.none_ _ _,(fun x h => by cases h),Below.refl _ _⟩
 | some a =>
   go_wp2_with (at_builtin;refine append_bytes rfl _ _ 36 rfl w.heap.size 5 i0 Tryd.underlying36 HI.out HZ0.out HZ1.out HZ2.out _ 0 [] rfl (World.ownsRow_made w #[] 0 (Nat.le_refl _) (by decide) rfl) (some a) n c bs rfl (HB.out.alloc _) HL.out ?d2 ?d3 ?_)
   case d2 => omega
   case d3 => simp
   intro v2 w2 hown hgrow;have ho2:OwnB w2 w.heap.size v2 n bs:=by simpa [OwnB] using hown
   have hk2:Kept noneB w w2:=(((Kept.refl noneB w).alloc _)).grown hgrow (by intro k hk;simp [Value.ownBlock] at hk;omega)
   have h12:Below w.heap.size w w2:=hk2.below (Nat.le_refl _) (fun _ h => h.elim)
   obtain ⟨p2,c2,rfl,hle2,hmx2,hb2,_,hat2⟩:=ho2.slice;have P:=Lib.hid (And.intro hle2 (And.intro hmx2 (And.intro hb2 (And.intro hat2 h12))));clear hown hgrow ho2 hk2 h12 hle2 hmx2 hb2 hat2
   go_wp2
   go_ret
   exact ⟨p2,c2,rfl,P.out.1,P.out.2.1,P.out.2.2.1,fun x hx => (P.out.2.2.2.1 x hx).1,P.out.2.2.2.2⟩
def FindPost (w:World) (t:List NodeV) (b:List UInt8) (e:Ending) (w':World):Prop:=
 ∃ y:NP,e=.returned (.tuple #[.agg y.cs,.bool (goodT t && (findN t b).isSome)])∧y.m=(if goodT t=true then resN (findN t b) else zeroN)∧BodAt w' y∧(∀ x,y.p=some x → w.heap.size≤x.block)∧Below w.heap.size w w'
theorem rising_of_good {t:List NodeV} (h:goodT t=true):Rising t:=by
 simp only [goodT,Bool.and_eq_true,List.all_eq_true,List.mem_range] at h
 have key:∀ k,k≤t.length → Rising (t.take k):=fun k => by
  induction k with
  | zero => exact fun _ => List.Pairwise.nil
  | succ k ih =>
    intro hk;have:=h.2 k (by omega)
    rw [goodAt_is,Bool.and_eq_true,stepT,Bool.and_eq_true,Bool.or_eq_true] at this;refine rising_take (by omega) (ih (by omega)) ?_
    rcases this.1.2 with h1 | h1
    ·exact .inl (of_decide_eq_true h1)
    ·exact .inr h1
 have:=key t.length (Nat.le_refl _)
 rwa [List.take_length] at this
set_option maxHeartbeats 4000000 in
theorem tfind_any (p:Option Addr) (n c:Nat) (xs:List NP) (b:List UInt8) (w:World) (h:NodesAt w p n xs) (hc:n≤c) (hm:c≤maxLen) (hn:n≤1000000000) (hF:∀ x ∈ xs,FitN x) (hR:∀ x ∈ xs,x.m.body.length≤140737488351232) (hT:Path.Tabs w) :
 Calls Tryd.prog 17 #[.slice p n c,.string (str b)] w (FindPost w (xs.map NP.m) b):=by
 have HM:=Lib.hid h;have HL:=Lib.hid h.1;have HRM:=Lib.hid hR;have HB0:Hid (Below w.heap.size w (w.alloc (.cells zeroQ.cs 38))):=Lib.hid ((Below.refl _ _).alloc (Nat.le_refl _) _);have HG0:Hid (Blk (w.alloc (.cells zeroQ.cs 38)) w.heap.size 38 zeroQ.cs):=Lib.hid (Blk.new w _ _);obtain ⟨W,hW⟩:∃ W,w.alloc (.cells zeroQ.cs 38)=W:=⟨_,rfl⟩;rw [hW] at HB0 HG0;rw [zeroQ_cs] at hW;have HR0:Hid (Res9 w W w.heap.size zeroQ):=Lib.hid ⟨HB0.out,HG0.out,Nat.le_refl _⟩;have HP:=Lib.hid (place_any p n c xs b W (h.below HB0.out) hn);have HGD:Hid (∀ w',Below w.heap.size w w' → Calls Tryd.prog 14 #[.slice p n c] w' fun e w2 => e=.returned (.bool (goodT (xs.map NP.m)))∧Below w'.heap.size w' w2):=Lib.hid (fun w' hb => tgood_any p n c xs w' (h.below hb) hc hm hF (hT.below hb))
 obtain ⟨gd,hgd⟩:∃ gd,goodT (xs.map NP.m)=gd:=⟨_,rfl⟩;rw [hgd] at HGD;have HGT:=Lib.hid hgd;clear HB0 HG0 h hF hR hT hgd
 go_enter Tryd.func17,Tryd.ntmps17
 go_upto_region 1 with fail
 clear hW
 go_wp2_with fail
 refine HP.out.mono ?_
 rintro e w1 ⟨a,there,rfl,ha,hyes,hno,hb⟩;have HR1:=Lib.hid (HR0.out.below hb);clear hb HR0
 cases there with
 | false =>
   have E:Hid (gd=true → findN (xs.map NP.m) b=none):=Lib.hid (fun hg => findN_none (hno (rising_of_good (by rw [HGT.out];exact hg)) rfl))
   obtain ⟨r0,r1,r2,r3,r4,r5,r6,r7,r8⟩:=cells9_of HR1.out.blk;have f0:=HR1.out.blk.frozen 0;have f1:=HR1.out.blk.frozen 1;have f2:=HR1.out.blk.frozen 2;have f3:=HR1.out.blk.frozen 3;have f4:=HR1.out.blk.frozen 4;have f5:=HR1.out.blk.frozen 5;have f6:=HR1.out.blk.frozen 6;have f7:=HR1.out.blk.frozen 7;have f8:=HR1.out.blk.frozen 8;simp only [Nat.zero_add] at r0 r1 r2 r3 r4 r5 r6 r7 r8;clear hyes hno ha
   go_wp2
   refine bodyPost_ret (ret_nodB rfl _ _ w.heap.size _ rfl rfl zeroQ (blk9 HR1.out.blk _ _ _ _ _ _ _ _ _)) rfl ?_
   refine ⟨zeroQ,?_,?_,zero_bod _,(fun x h => by cases h),below9 HR1.out.bel (Nat.le_refl _) _ _ _ _ _ _ _ _ _⟩
   ·rw [HGT.out]
    cases hg:gd with
    | false => rfl
    | true => rw [E.out hg];rfl
   ·rw [HGT.out]
    cases hg:gd with
    | false => rfl
    | true => rw [E.out hg];rfl
 | true =>
   obtain ⟨hal,hpa⟩:=hyes rfl;have han:a < n:=by rw [List.length_map,HL.out] at hal;exact hal
   have HAL:=Lib.hid (And.intro hal hpa);clear hyes hno ha hal hpa
   cases gd with
   | false =>
     go_wp2_with fail
     refine (HGD.out _ HR1.out.bel).mono ?_
     rintro e w2 ⟨rfl,hb⟩;have HR2:=Lib.hid (HR1.out.below hb);clear hb HR1;obtain ⟨r0,r1,r2,r3,r4,r5,r6,r7,r8⟩:=cells9_of HR2.out.blk;have f0:=HR2.out.blk.frozen 0;have f1:=HR2.out.blk.frozen 1;have f2:=HR2.out.blk.frozen 2;have f3:=HR2.out.blk.frozen 3;have f4:=HR2.out.blk.frozen 4;have f5:=HR2.out.blk.frozen 5;have f6:=HR2.out.blk.frozen 6;have f7:=HR2.out.blk.frozen 7;have f8:=HR2.out.blk.frozen 8;simp only [Nat.zero_add] at r0 r1 r2 r3 r4 r5 r6 r7 r8
     go_wp2
     refine bodyPost_ret (ret_nodB rfl _ _ w.heap.size _ rfl rfl zeroQ (blk9 HR2.out.blk _ _ _ _ _ _ _ _ _)) rfl ?_
     exact ⟨zeroQ,by rw [HGT.out];rfl,by rw [HGT.out];rfl,zero_bod _,(fun x h => by cases h),below9 HR2.out.bel (Nat.le_refl _) _ _ _ _ _ _ _ _ _⟩
   | true =>
     go_wp2_with fail
     refine (HGD.out _ HR1.out.bel).mono ?_
     rintro e w2 ⟨rfl,hb⟩;have HR2:=Lib.hid (HR1.out.below hb);clear hb HR1;have hf:=seek_found (rising_of_good HGT.out) HAL.out.1 HAL.out.2;rw [getN_map] at hf;obtain ⟨b1,o1,rfl,hb1,hB1,hc1⟩:=(HM.out.below HR2.out.bel).cells9 han;have hmem:=getN_mem xs a (by rw [HL.out];exact han)
     obtain ⟨u,hu⟩:∃ u,xs.getD a zeroQ=u:=⟨_,rfl⟩;rw [hu] at hf hB1 hc1 hmem;have E:Hid (findN (xs.map NP.m) b=some u.m):=Lib.hid hf;have HRU:=Lib.hid (HRM.out u hmem);obtain ⟨W3,hW3⟩:∃ W3,w2.alloc (.cells u.cs 38)=W3:=⟨_,rfl⟩;have hB3:Below w2.heap.size w2 W3:=by rw [← hW3];exact (Below.refl _ _).alloc (Nat.le_refl _) _
     have hU:Blk W3 w2.heap.size 38 u.cs:=by rw [← hW3];exact Blk.new w2 _ _
     have HR3:=Lib.hid (HR2.out.below hB3);have HU3:=Lib.hid hU;have HCL:=Lib.hid (clone_any u.p u.m.body.length u.c u.m.body W3 (hB1.below hB3).bat rfl HRU.out);have HSZ:Hid (w.heap.size≤w2.heap.size):=Lib.hid HR2.out.bel.size;have HSZ3:Hid (w2.heap.size≤W3.heap.size):=Lib.hid hB3.size;obtain ⟨c0,c1,c2,c3,c4,c5,c6,c7,c8⟩:=hc1;obtain ⟨y0,y1,y2,y3,y4,y5,y6,y7,y8⟩:=cells9_of hU;simp only [Nat.zero_add] at y0 y1 y2 y3 y4 y5 y6 y7 y8;unfold NP.cs nodC at hW3;have hanz:(a:Int) < (n:Int):=by omega
     clear hf hu hb1 hB1 hmem hB3 hU
     go_upto_region 5 with fail
     clear hW3 c0 c1 c2 c3 c4 c5 c6 c7 c8
     go_wp2_with fail
     refine HCL.out.mono ?_
     rintro e w4 ⟨q,d,rfl,hle,hmx,hbt,hnew,hb4⟩;have hU4:=HU3.out.below hb4 HU3.out.lt;have z8:=hU4.cell 8;have g8:=hU4.frozen 8
     have hne:w2.heap.size≠w.heap.size:=by
      have:=HR2.out.blk.lt;omega
     have HNE:=Lib.hid hne;simp only [NP.cs,nodC,List.getElem?_toArray,List.getElem?_cons_zero,List.getElem?_cons_succ] at z8;have HR4:=Lib.hid (HR3.out.below hb4);have P:=Lib.hid (And.intro hle (And.intro hmx (And.intro hbt (And.intro hnew hU4))));clear hle hmx hbt hnew hb4 hU4 hne y0 y1 y2 y3 y4 y5 y6 y7 y8
     go_upto_region 6 with fail
     obtain ⟨W5,hW5⟩:∃ W5,w4.setCell ⟨w2.heap.size,8,none⟩ (.slice q u.m.body.length d)=W5:=⟨_,rfl⟩;rw [hW5];have hU5:Blk W5 w2.heap.size 38 (⟨u.m,q,d⟩:NP).cs:=by rw [← hW5];exact P.out.2.2.2.2.set 8 _ (by decide:8 < 9)
     have hR5:Res9 w W5 w.heap.size zeroQ:=⟨by rw [← hW5];exact HR4.out.bel.setCell (p:=⟨w2.heap.size,8,none⟩) HSZ.out _,by rw [← hW5];exact HR4.out.blk.other HNE.out _,Nat.le_refl _⟩
     have hbt5:BAt W5 q u.m.body.length u.m.body:=by
      rw [← hW5];refine P.out.2.2.1.kept ((Kept.refl (oneB w2.heap.size) w4).setCell (a:=⟨w2.heap.size,8,none⟩) (.inr rfl) _) (fun _ x hx e => ?_)
      have h1:=P.out.2.2.2.1 x hx;have h2:=HU3.out.lt;have h3:x.block=w2.heap.size:=e;omega
     obtain ⟨y0,y1,y2,y3,y4,y5,y6,y7,y8⟩:=cells9_of hU5;obtain ⟨r0,r1,r2,r3,r4,r5,r6,r7,r8⟩:=cells9_of hR5.blk;have f0:=hR5.blk.frozen 0;have f1:=hR5.blk.frozen 1;have f2:=hR5.blk.frozen 2;have f3:=hR5.blk.frozen 3;have f4:=hR5.blk.frozen 4;have f5:=hR5.blk.frozen 5;have f6:=hR5.blk.frozen 6;have f7:=hR5.blk.frozen 7;have f8:=hR5.blk.frozen 8;simp only [Nat.zero_add] at y0 y1 y2 y3 y4 y5 y6 y7 y8 r0 r1 r2 r3 r4 r5 r6 r7 r8;have HR5:=Lib.hid hR5;have HBT:=Lib.hid hbt5;clear hW5 hU5 hR5 hbt5 z8 g8
     go_wp2
     refine bodyPost_ret (ret_nodB rfl _ _ w.heap.size _ rfl rfl (⟨u.m,q,d⟩:NP) (blk9 HR5.out.blk _ _ _ _ _ _ _ _ _)) rfl ?_
     refine ⟨⟨u.m,q,d⟩,by rw [HGT.out,E.out];rfl,by rw [HGT.out,E.out];rfl,⟨?_,P.out.1,P.out.2.1⟩,fun x hx => ?_,below9 HR5.out.bel (Nat.le_refl _) _ _ _ _ _ _ _ _ _⟩
     ·have hk:Kept (oneB w.heap.size) W5 _:=((((((((((Kept.refl (oneB w.heap.size) W5).setCell (a:=⟨w.heap.size,0,none⟩) (.inr rfl) (.string (str u.m.path))).setCell (a:=⟨w.heap.size,1,none⟩) (.inr rfl) (.string (str u.m.target))).setCell (a:=⟨w.heap.size,2,none⟩) (.inr rfl) (.string (str u.m.leader))).setCell (a:=⟨w.heap.size,3,none⟩) (.inr rfl) (.int .u8 (u.m.kind.toNat:Int))).setCell (a:=⟨w.heap.size,4,none⟩) (.inr rfl) (.int .i64 u.m.mode)).setCell (a:=⟨w.heap.size,5,none⟩) (.inr rfl) (.int .i64 u.m.uid)).setCell (a:=⟨w.heap.size,6,none⟩) (.inr rfl) (.int .i64 u.m.gid)).setCell (a:=⟨w.heap.size,7,none⟩) (.inr rfl) (.int .i64 u.m.time)).setCell (a:=⟨w.heap.size,8,none⟩) (.inr rfl) (.slice q u.m.body.length d))
      refine HBT.out.kept hk (fun _ x hx e => ?_)
      have h1:=P.out.2.2.2.1 x hx;have h2:=HSZ.out;have h3:=HSZ3.out;have h4:=HR2.out.blk.lt;have h5:x.block=w.heap.size:=e;omega
     ·have h1:=P.out.2.2.2.1 x hx
      have h2:=HSZ.out;have h3:=HSZ3.out;omega
end Go.Proofs.YthaoohbdjlbaeaaDoor.Tre
end
