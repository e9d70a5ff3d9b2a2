/- Texts of this seat, merged: what the proof reaches. -/
import Derived.Test.YtfhelebejclalaaDoorLinksFirstX23
import Derived.Handy
namespace Go.Proofs.YtfhelebejclalaaDoor
namespace Base
end Base
namespace Bk
end Bk
namespace Block
end Block
namespace Byt
end Byt
namespace Lnk
end Lnk
namespace Mem
end Mem
namespace Rec
end Rec
namespace Tre
end Tre
namespace Txt
end Txt
end Go.Proofs.YtfhelebejclalaaDoor
section
namespace Go.Proofs.YtfhelebejclalaaDoor.Walk
open Go.ChangeShapes Go.WideShapes Go.ChangeAt Go.RowKit Base Byt Txt Bk Rec Block Mem Tre Lnk Go.Lib
set_option linter.unusedVariables false
set_option maxRecDepth 100000
set_option maxHeartbeats 4000000 in
theorem linksFirstC (H:LinksC) (a0:Option Addr) (len0 cap0:Nat) (xs0:List NP) (a1:Option Addr) (len1 cap1:Nat) (z1:List Int) (w:World) (ma0:NodesAt w a0 len0 xs0) (lc0:len0≤cap0) (cm0:cap0≤maxLen) (by0:cap0 * 112≤140737488351232) (rm0:∀ x ∈ xs0,WfN x.m∧RoomN x)
 (w1:IsRow .u8 w a1 len1 cap1 z1) (b1:cap1 * 1≤140737488351232) (hT:Path.Tabs w) :
 Calls Tryd.prog 8 #[.slice a0 len0 cap0,.slice a1 len1 cap1] w fun e w' => e=.returned (.bool true)∧Below w.heap.size w w':=by
 obtain ⟨hbt,hbl,hb3,hb4⟩:=bat_of_row w1;obtain ⟨ts,hts⟩:∃ ts,bytesOf (z1.take len1)=ts:=⟨_,rfl⟩;rw [hts] at hbt;have HBT:=Lib.hid hbt;have h1b:len1≤140737488351232:=by omega
 clear hbt hbl hts w1 hb3 hb4 b1;have HS:=Lib.hid (light11_any a0 len0 cap0 xs0 w ma0 lc0 cm0 fun x hx => (rm0 x hx).2)
 have HAN:Hid (∀ w1,Below w.heap.size w w1 → Calls Tryd.prog 10 #[] w1 fun e w' => e=.returned (.bool true)∧Below w1.heap.size w1 w'):=Lib.hid fun w1 h => ans11_any H w1 (hT.below h)
 have HC:=Lib.hid H;have HA0:=Lib.hid ma0;have HT:=Lib.hid hT;have HL:=Lib.hid ma0.1;have HLC:=Lib.hid (And.intro lc0 cm0)
 have HRM:Hid (∀ x ∈ xs0,x.m.path.length≤140737488351232∧x.m.target.length≤140737488351232∧x.m.leader.length≤140737488351232∧x.m.body.length≤140737488351232):=Lib.hid (fun x hx => by
  have h1:=(rm0 x hx).2;have h2:=(ma0.2.1 x hx).le
  exact ⟨h1.1,h1.2.1,h1.2.2.1,by have:=h1.2.2.2;omega⟩)
 obtain ⟨s,hs⟩:∃ s,light11D (xs0.map NP.m)=s:=⟨_,rfl⟩;rw [hs] at HS;have HE:=Lib.hid hs;clear ma0 lc0 cm0 by0 rm0 hT hs H
 go_enter Tryd.func8,Tryd.ntmps8
 go_wp2_with fail
 refine HS.out.mono ?_
 rintro e w2 ⟨rfl,hb2⟩;have HB2:=Lib.hid hb2;clear HS hb2
 cases s with
 | false =>
   go_wp2_with fail
   refine (HAN.out _ HB2.out).mono ?_
   rintro e w3 ⟨rfl,hb3⟩;have FIN:=Lib.hid (HB2.out.trans (hb3.mono HB2.out.size));clear hb3
   go_wp2
   go_ret
   exact ⟨rfl,FIN.out⟩
 | true =>
   obtain ⟨hf1,_,hgood⟩:=light11D_facts HE.out;rw [List.length_map,HL.out] at hf1;have HG:=Lib.hid hgood;have HMX:=Lib.hid (mixed_any a0 len0 cap0 xs0 a1 len1 cap1 ts w2 (HA0.out.below HB2.out) hf1 (HBT.out.below HB2.out) h1b);unfold MixPost at HMX;clear hgood
   go_wp2_with fail
   refine HMX.out.mono ?_
   rintro e w3 ⟨q3,d3,os,rfl,hos,hd3,hd32,hstr,hb3⟩;have HB3:=Lib.hid (HB2.out.trans (hb3.mono HB2.out.size));have ho:OrderOf (xs0.map NP.m) os:=by unfold OrderOf;rw [← paths_is];exact hos
   have HO:=Lib.hid ho
   have HOR:Hid (∀ s ∈ os,s.length≤140737488351232):=Lib.hid (fun s hs => by
    obtain ⟨x,hx,rfl⟩:=List.mem_map.1 (hos.mem_iff.1 hs)
    exact (HRM.out x hx).1)
   have hol:os.length=len0:=hstr.1;have hm:=HC.out.members w3 a0 len0 cap0 xs0 q3 len0 d3 os ⟨HA0.out.below HB3.out,HLC.out.1,HLC.out.2,hf1,HRM.out,HG.out⟩ ⟨hstr,hd3,hd32,by omega,HOR.out⟩ (HT.out.below HB3.out)
   rw [lm_order HG.out HO.out] at hm;unfold LMemPost at hm;have HLL:Hid ((linksD (xs0.map NP.m) os).length=len0):=Lib.hid (by rw [linksD_len HO.out,hol])
   simp only [HLL.out] at hm;have HM:=Lib.hid hm;clear hos hd3 hd32 hstr hb3 ho HMX hm hol
   go_wp2_with fail
   refine HM.out.mono ?_
   rintro e w6 ⟨q6,d6,ms,rfl,hms,hmn,hd6,hd62,hb6⟩;have HB6:=Lib.hid (HB3.out.trans (hb6.mono HB3.out.size));have HOL:Hid (os.length=len0):=Lib.hid (by rw [HO.out.length_eq,List.length_map,List.length_map];exact HL.out)
   have HMS:=Lib.hid hmn;have HML:=Lib.hid hmn.1
   have HMK:Hid (∀ k,k < len0 → (ms.getD k zeroP).m=memAt (xs0.map NP.m) os k∧(ms.getD k zeroP).m.path=os.getD k []):=Lib.hid (fun k hk => by
    have h1:(ms.getD k zeroP).m=memAt (xs0.map NP.m) os k:=by
     rw [← linksD_get HO.out (by rw [HOL.out];exact hk),← hms,getM_map]
    refine ⟨h1,?_⟩;rw [h1,memAt_path]
    exact (order_get HO.out (by rw [HOL.out];exact hk)).2)
   clear hms hmn hd6 hd62 hb6 HM
   go_wp2_with fail
   go_loopw [7] (fun i wr => ∃ (k:Nat),k≤len0∧i=.int .i64 (k:Int)∧Hid (Below w6.heap.size w6 wr)) (fun i _ => len0 - (RowKit.intOf i).toNat)
   case atStart => exact ⟨0,Nat.zero_le _,rfl,Lib.hid (Below.refl _ _)⟩
   case round =>
    obtain ⟨k,hk,rfl,hB⟩:=hrel;obtain ⟨wo,rfl⟩:∃ x,x=wr:=⟨_,rfl⟩;have HBW:=Lib.hid (HB6.out.trans (hB.out.mono HB6.out.size))
    by_cases hlt:k < len0
    ·have hltz:(k:Int) < (len0:Int):=by omega
     obtain ⟨b,o,rfl,hb,hBd,hc⟩:=(HMS.out.below hB.out).cells8 hlt;have hmk:=HMK.out k hlt;obtain ⟨y,hy⟩:∃ y,ms.getD k zeroP=y:=⟨_,rfl⟩;rw [hy] at hmk hc hBd;have HY:=Lib.hid (And.intro hmk hy);have hr:=rfind_any a0 len0 cap0 xs0 y.m.path wo (HA0.out.below HBW.out) (Nat.le_trans HLC.out.1 HLC.out.2);unfold RFindPost at hr;have HFI:=Lib.hid hr;obtain ⟨c0,c1,c2,c3,c4,c5,c6,c7⟩:=hc;clear hr hb hBd hmk hy c1 c2 c3 c4 c5 c6 c7
     go_wp2_with fail
     refine HFI.out.mono ?_
     rintro e w7 ⟨u,rfl,hu,hui,hb7⟩;have HU:Hid (u.m=nodeAt (xs0.map NP.m) (os.getD k [])):=Lib.hid (by rw [← HY.out.1.2];exact hu)
     have HBu:=Lib.hid hb7;clear hu hui hb7 HFI c0;unfold NP.cs nodC
     go_upto_region 10 with fail
     obtain ⟨w8,hw8⟩:∃ w8,w7.alloc (.cells #[.string (str u.m.path),.string (str u.m.target),.string (str u.m.leader),.int .u8 (u.m.kind.toNat:Int),.int .i64 u.m.mode,.int .i64 u.m.uid,.int .i64 u.m.gid,.int .i64 u.m.time,.slice u.p u.m.body.length u.c] 45)=w8:=⟨_,rfl⟩;have h78:Below w7.heap.size w7 w8:=by rw [← hw8];exact (Below.refl _ _).alloc (Nat.le_refl _) _
     have HX8:Hid (Blk w8 w7.heap.size 45 #[.string (str u.m.path),.string (str u.m.target),.string (str u.m.leader),.int .u8 (u.m.kind.toNat:Int),.int .i64 u.m.mode,.int .i64 u.m.uid,.int .i64 u.m.gid,.int .i64 u.m.time,.slice u.p u.m.body.length u.c]):=Lib.hid (by rw [← hw8];exact Blk.new w7 _ _)
     have HB8:=Lib.hid (hB.out.trans ((HBu.out.trans (h78.mono HBu.out.size)).mono hB.out.size));rw [hw8];clear hw8 h78
     go_wp2_with fail
     go_loopw [10,11] (fun f j wr => ∃ (f0 a:Nat),f0≤k∧a≤k∧f=.int .i64 (f0:Int)∧j=.int .i64 ((a:Int) - 1)∧Hid (a≤f0)∧Hid (f0=k ∨ SameC (xs0.map NP.m) os k f0)∧Hid (∀ j,a≤j → j < f0 → ¬ SameC (xs0.map NP.m) os k j)∧Hid (Below w8.heap.size w8 wr)) (fun _ j _ => (RowKit.intOf j+1).toNat)
     case atStart => exact ⟨k,k,Nat.le_refl _,Nat.le_refl _,rfl,by go_num,Lib.hid (Nat.le_refl _),Lib.hid (.inl rfl),Lib.hid (fun j h1 h2 => absurd h2 (by omega)),Lib.hid (Below.refl _ _)⟩
     case round =>
      obtain ⟨f0,a,hf0,ha,rfl,rfl,hfa,hS,hN,hB2⟩:=hrel;obtain ⟨wi,rfl⟩:∃ x,x=wr:=⟨_,rfl⟩;have HB9:=Lib.hid (HB8.out.trans (hB2.out.mono HB8.out.size));have HBW9:=Lib.hid (HB6.out.trans (HB9.out.mono HB6.out.size));have HX9:=Lib.hid (HX8.out.below hB2.out HX8.out.lt);have hci:=fun i (hi:i < len0) => (HMS.out.below HB9.out).cells8 hi
      by_cases hz:0 < a
      ·obtain ⟨j,rfl⟩:∃ j,a=j+1:=⟨a - 1,by omega⟩
       have ej:((j+1:Nat):Int) - 1=(j:Int):=by omega
       rw [ej];have hjl:j < len0:=by omega
       have hjz:(0:Int)≤(j:Int):=by omega
       have hjz2:(j:Int) < (len0:Int):=by omega
       obtain ⟨b2,o2,hq2,hb2,hBd2,hc2⟩:=hci j hjl;obtain ⟨e1,e2⟩:b2=b∧o2=o:=by simpa [eq_comm] using hq2
       subst e1;subst e2;have hmj:=HMK.out j hjl;obtain ⟨z,hzz⟩:∃ z,ms.getD j zeroP=z:=⟨_,rfl⟩;rw [hzz] at hmj hc2;have HZ:=Lib.hid hmj;have hr:=rfind_any a0 len0 cap0 xs0 z.m.path wi (HA0.out.below HBW9.out) (Nat.le_trans HLC.out.1 HLC.out.2);unfold RFindPost at hr;have HFJ:=Lib.hid hr;obtain ⟨d0,d1,d2,d3,d4,d5,d6,d7⟩:=hc2;clear hr hb2 hBd2 hmj hzz hq2 hci ej d1 d2 d3 d4 d5 d6 d7
       go_wp2_with fail
       refine HFJ.out.mono ?_
       rintro e w10 ⟨v,rfl,hv,hvi,hb10⟩;have HV:Hid (v.m=nodeAt (xs0.map NP.m) (os.getD j [])):=Lib.hid (by rw [← HZ.out.2];exact hv)
       have HBv:=Lib.hid hb10;clear hv hvi hb10 HFJ d0;unfold NP.cs nodC
       go_upto_region 15 with fail
       obtain ⟨w11,hw11⟩:∃ w11,w10.alloc (.cells #[.string (str v.m.path),.string (str v.m.target),.string (str v.m.leader),.int .u8 (v.m.kind.toNat:Int),.int .i64 v.m.mode,.int .i64 v.m.uid,.int .i64 v.m.gid,.int .i64 v.m.time,.slice v.p v.m.body.length v.c] 45)=w11:=⟨_,rfl⟩;have hBA:Below w10.heap.size w10 w11:=by rw [← hw11];exact (Below.refl _ _).alloc (Nat.le_refl _) _
       have hV11:Blk w11 w10.heap.size 45 #[.string (str v.m.path),.string (str v.m.target),.string (str v.m.leader),.int .u8 (v.m.kind.toNat:Int),.int .i64 v.m.mode,.int .i64 v.m.uid,.int .i64 v.m.gid,.int .i64 v.m.time,.slice v.p v.m.body.length v.c]:=by rw [← hw11];exact Blk.new w10 _ _
       have hBi:=HBv.out.trans (hBA.mono HBv.out.size);have HBV:=Lib.hid (hB2.out.trans (hBi.mono hB2.out.size));have hX11:=HX9.out.below hBi HX9.out.lt;rw [hw11];have x2:=hX11.cell 2;have x3:=hX11.cell 3;have y2:=hV11.cell 2;have y3:=hV11.cell 3;simp only [List.getElem?_toArray,List.getElem?_cons_zero,List.getElem?_cons_succ] at x2 x3 y2 y3;have ek:=kind_ne1 u.m.kind 48 48 rfl;have el:=kind_ne1 v.m.kind 48 48 rfl;obtain ⟨kn,hkn⟩:∃ kn:Int,(u.m.kind.toNat:Int)=kn:=⟨_,rfl⟩;obtain ⟨kv,hkv⟩:∃ kv:Int,(v.m.kind.toNat:Int)=kv:=⟨_,rfl⟩;rw [hkn] at x3 ek
       rw [hkv] at y3 el;have em:=neqS v.m.leader u.m.leader;clear hw11 hBA hV11 hBi hX11 hkn hkv
       by_cases h1:u.m.kind=48
       ·rw [decide_eq_true h1] at ek
        by_cases h2:v.m.kind=48
        ·rw [decide_eq_true h2] at el
         by_cases h3:v.m.leader=u.m.leader
         ·rw [decide_eq_true h3] at em
          have HSC:Hid (SameC (xs0.map NP.m) os k j):=Lib.hid ⟨by rw [← HV.out];exact h2,by rw [← HU.out];exact h1,by rw [← HV.out,← HU.out];exact h3⟩
          clear h2 h3;clear h1
          go_wp2_with fail
          go_roundw
          case rel => exact ⟨j,j,by omega,by omega,rfl,by go_num,Lib.hid (Nat.le_refl _),Lib.hid (.inr HSC.out),Lib.hid (fun i hi hf => absurd hf (by omega)),HBV⟩
          case measure => simp [RowKit.intOf]
         ·rw [decide_eq_false h3] at em
          have HNS:Hid (¬ SameC (xs0.map NP.m) os k j):=Lib.hid (fun h => h3 (by rw [HV.out,HU.out];exact h.2.2))
          clear h1 h2 h3
          go_wp2_with fail
          go_roundw
          case rel => exact ⟨f0,j,hf0,by omega,rfl,by go_num,Lib.hid (by have:=hfa.out;omega),hS,Lib.hid (fun i hi hf => by
           by_cases e:i=j
           ·rw [e];exact HNS.out
           ·exact hN.out i (by omega) hf),HBV⟩
          case measure => simp [RowKit.intOf]
        ·rw [decide_eq_false h2] at el
         clear em;have HNS:Hid (¬ SameC (xs0.map NP.m) os k j):=Lib.hid (fun h => h2 (by rw [HV.out];exact h.1))
         clear h1 h2
         go_wp2_with fail
         go_roundw
         case rel => exact ⟨f0,j,hf0,by omega,rfl,by go_num,Lib.hid (by have:=hfa.out;omega),hS,Lib.hid (fun i hi hf => by
          by_cases e:i=j
          ·rw [e];exact HNS.out
          ·exact hN.out i (by omega) hf),HBV⟩
         case measure => simp [RowKit.intOf]
       ·rw [decide_eq_false h1] at ek
        clear el em;have HNS:Hid (¬ SameC (xs0.map NP.m) os k j):=Lib.hid (fun h => h1 (by rw [HU.out];exact h.2.1))
        clear h1
        go_wp2_with fail
        go_roundw
        case rel => exact ⟨f0,j,hf0,by omega,rfl,by go_num,Lib.hid (by have:=hfa.out;omega),hS,Lib.hid (fun i hi hf => by
         by_cases e:i=j
         ·rw [e];exact HNS.out
         ·exact hN.out i (by omega) hf),HBV⟩
        case measure => simp [RowKit.intOf]
      ·have ha0:a=0:=by omega
       subst ha0
       have HR:Hid (repOf (xs0.map NP.m) os k=f0):=Lib.hid (by
        by_cases h48:(nodeAt (xs0.map NP.m) (os.getD k [])).kind=48
        ·refine rep_back h48 hf0 ?_ (fun i hi => hN.out i (Nat.zero_le _) hi)
         rcases hS.out with e | e
         ·rw [e];exact ⟨h48,h48,rfl⟩
         ·exact e
        ·rw [rep_other h48]
         rcases hS.out with e | e
         ·exact e.symm
         ·exact absurd e.2.1 h48)
       have ej:((0:Nat):Int) - 1 = -1:=rfl;rw [ej];have hfz2:(f0:Int) < (len0:Int):=by omega
       have hko:k < os.length:=by rw [HOL.out];exact hlt
       obtain ⟨r1,r2⟩:=links_first HO.out hko;rw [HR.out] at r1 r2;have hyk:y.m=memAt (xs0.map NP.m) os k:=HY.out.1.1;have hyk2:ms.getD k zeroP=y:=HY.out.2;obtain ⟨b2,o2,hq2,hb2,hBd2,hck⟩:=hci k hlt;obtain ⟨e1,e2⟩:b2=b∧o2=o:=by simpa [eq_comm] using hq2
       subst e1;subst e2;rw [hyk2] at hck;obtain ⟨p0,p1,p2,p3,p4,p5,p6,p7⟩:=hck
       by_cases hfk:f0 < k
       ·obtain ⟨g1,g2,g3⟩:=r2 hfk
        have hfz:(f0:Int) < (k:Int):=by omega
        have hfn:¬ ((f0:Int)=(k:Int)):=by omega
        obtain ⟨b3,o3,hq3,hb3,hBd3,hcf⟩:=hci f0 (by omega)
        obtain ⟨e1,e2⟩:b3=b2∧o3=o2:=by simpa [eq_comm] using hq3
        subst e1;subst e2;obtain ⟨t0,t1,t2,t3,t4,t5,t6,t7⟩:=hcf;rw [(HMK.out f0 (by omega)).1,← g2,← hyk] at t0
        rw [hyk,g1] at p2;rw [hyk,g3] at p7;have hks:((49:UInt8).toNat:Int)=49:=rfl;rw [hks] at p2;clear r1 r2 g1 g2 g3 hyk hyk2 hq2 hq3 hci hb2 hBd2 hb3 hBd3 p0 p3 p4 p5 p6 t1 t2 t3 t4 t5 t6 t7 hks hko
        go_wp2_with fail
        go_quiet (fail)
        go_wp2
        go_roundw
        case rel => exact ⟨k+1,by omega,by go_num,Lib.hid (below_drewN HB9.out _)⟩
        case measure => simp [RowKit.intOf];omega
       ·have hfe:f0=k:=by omega
        subst hfe;have g1:=r1 rfl;have x3:=HX9.out.cell 3;simp only [List.getElem?_toArray,List.getElem?_cons_zero,List.getElem?_cons_succ] at x3;rw [HU.out,← g1,← hyk] at x3;clear r1 r2 g1 hyk hyk2 hq2 hci hb2 hBd2 p0 p1 p3 p4 p5 p6 p7 hko
        go_wp2_with fail
        go_quiet (fail)
        go_wp2
        go_roundw
        case rel => exact ⟨f0+1,by omega,by go_num,Lib.hid (below_drewN HB9.out _)⟩
        case measure => simp [RowKit.intOf];omega
    ·go_wp2_with fail
     refine (HAN.out _ HBW.out).mono ?_
     rintro e w9 ⟨rfl,hb9⟩;have FIN:=Lib.hid (HBW.out.trans (hb9.mono HBW.out.size));clear hb9
     go_wp2
     go_ret
     exact ⟨rfl,FIN.out⟩
end Go.Proofs.YtfhelebejclalaaDoor.Walk
end
