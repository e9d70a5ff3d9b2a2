/- Texts of this seat, merged: what the proof reaches. -/
import Derived.Test.YtfhelebejclalaaDoorLinksOrderX23
import Derived.Handy
namespace Go.Proofs.YtfhelebejclalaaDoor
namespace Base
end Base
namespace Bk
end Bk
namespace Block
end Block
namespace Byt
end Byt
namespace Lnk
end Lnk
namespace Mem
end Mem
namespace Rec
end Rec
namespace Tre
end Tre
namespace Txt
end Txt
end Go.Proofs.YtfhelebejclalaaDoor
section
namespace Go.Proofs.YtfhelebejclalaaDoor.Walk
open Go.ChangeShapes Go.WideShapes Go.ChangeAt Go.RowKit Base Byt Txt Bk Rec Block Mem Tre Lnk Go.Lib
set_option linter.unusedVariables false
set_option maxRecDepth 100000
def ordIn (os:List (List UInt8)) (i k:Nat):Bool:=(List.range k).all fun j => decide (os.getD j []≠os.getD i [])
def ordTo (t:List NodeV) (os:List (List UInt8)) (i:Nat):Bool:=decide (os.length=t.length) && (List.range i).all fun j => (findN t (os.getD j [])).isSome && ordIn os j j
theorem ordIn_succ (os:List (List UInt8)) (i k:Nat):ordIn os i (k+1)=(ordIn os i k && decide (os.getD k []≠os.getD i [])):=by
 unfold ordIn;rw [List.range_succ,List.all_append];simp
theorem ordTo_succ (t:List NodeV) (os:List (List UInt8)) (i:Nat):ordTo t os (i+1)=((ordTo t os i && (findN t (os.getD i [])).isSome) && ordIn os i i):=by
 unfold ordTo;rw [List.range_succ,List.all_append];simp [Bool.and_assoc]
theorem getO_at {os:List (List UInt8)} {i:Nat} (hi:i < os.length):os.getD i []=os[i]:=by rw [List.getD,List.getElem?_eq_getElem hi];rfl
theorem ordTo_all (t:List NodeV) (os:List (List UInt8)):ordTo t os os.length=orderB t os:=by
 rw [Bool.eq_iff_iff];unfold ordTo orderB ordIn;simp only [Bool.and_eq_true,decide_eq_true_eq,List.all_eq_true,List.mem_range,List.nodup_iff_pairwise_ne,List.pairwise_iff_getElem];constructor
 ·rintro ⟨h1,h2⟩
  refine ⟨h1,fun p hp => ?_,fun i j hi hj hij => ?_⟩
  ·obtain ⟨i,hi,rfl⟩:=List.mem_iff_getElem.1 hp
   rw [← getO_at hi];exact (h2 i hi).1
  ·rw [← getO_at hi,← getO_at hj]
   exact (h2 j hj).2 i hij
 ·rintro ⟨h1,h2,h3⟩
  refine ⟨h1,fun i hi => ⟨?_,fun j hj => ?_⟩⟩
  ·rw [getO_at hi]
   exact h2 _ (List.getElem_mem hi)
  ·rw [getO_at hi,getO_at (Nat.lt_trans hj hi)]
   exact h3 j i (Nat.lt_trans hj hi) hi hj
set_option maxHeartbeats 4000000 in
theorem linksOrderC (H:LinksC) (a0:Option Addr) (len0 cap0:Nat) (xs0:List NP) (a1:Option Addr) (len1 cap1:Nat) (os:List (List UInt8)) (w:World) (ma0:NodesAt w a0 len0 xs0) (lc0:len0≤cap0) (cm0:cap0≤maxLen) (by0:cap0 * 112≤140737488351232) (rm0:∀ x ∈ xs0,WfN x.m∧RoomN x)
 (ma1:StrsAt w a1 len1 os) (lc1:len1≤cap1) (cm1:cap1≤maxLen) (rm1:∀ s ∈ os,s.length≤140737488351232) (hT:Path.Tabs w) :
 Calls Tryd.prog 5 #[.slice a0 len0 cap0,.slice a1 len1 cap1] w fun e w' => e=.returned (.bool true)∧Below w.heap.size w w':=by
 have hn1:len1≤9223372036854775807:=by unfold maxLen at cm1;omega
 have hn0:len0≤9223372036854775807:=by unfold maxLen at cm0;omega
 have HO:=Lib.hid ma1;have HOL:=Lib.hid ma1.1;have HOR:=Lib.hid rm1;clear ma1 lc1 cm1 rm1;have HS:=Lib.hid (light11_any a0 len0 cap0 xs0 w ma0 lc0 cm0 fun x hx => (rm0 x hx).2)
 have HAN:Hid (∀ w1,Below w.heap.size w w1 → Calls Tryd.prog 10 #[] w1 fun e w' => e=.returned (.bool true)∧Below w1.heap.size w1 w'):=Lib.hid fun w1 h => ans11_any H w1 (hT.below h)
 have HC:=Lib.hid H;have HA0:=Lib.hid ma0;have HT:=Lib.hid hT;have HL:=Lib.hid ma0.1;have HLC:=Lib.hid (And.intro lc0 cm0)
 have HRM:Hid (∀ x ∈ xs0,x.m.path.length≤140737488351232∧x.m.target.length≤140737488351232∧x.m.leader.length≤140737488351232∧x.m.body.length≤140737488351232):=Lib.hid (fun x hx => by
  have h1:=(rm0 x hx).2;have h2:=(ma0.2.1 x hx).le
  exact ⟨h1.1,h1.2.1,h1.2.2.1,by have:=h1.2.2.2;omega⟩)
 obtain ⟨s,hs⟩:∃ s,light11D (xs0.map NP.m)=s:=⟨_,rfl⟩;rw [hs] at HS;have HE:=Lib.hid hs;clear ma0 lc0 cm0 by0 rm0 hT hs H
 go_enter Tryd.func5,Tryd.ntmps5
 go_wp2_with fail
 refine HS.out.mono ?_
 rintro e w2 ⟨rfl,hb2⟩;have HB2:=Lib.hid hb2;clear HS hb2
 cases s with
 | false =>
   go_wp2_with fail
   refine (HAN.out _ HB2.out).mono ?_
   rintro e w3 ⟨rfl,hb3⟩;have FIN:=Lib.hid (HB2.out.trans (hb3.mono HB2.out.size));clear hb3
   go_wp2
   go_ret
   exact ⟨rfl,FIN.out⟩
 | true =>
   obtain ⟨hf1,_,hgood⟩:=light11D_facts HE.out;rw [List.length_map,HL.out] at hf1;have HG:=Lib.hid hgood;clear hgood
   by_cases h100:100 < len1
   ·have h100z:(100:Int) < (len1:Int):=by omega
    go_wp2_with fail
    refine (HAN.out _ HB2.out).mono ?_
    rintro e w3 ⟨rfl,hb3⟩;have FIN:=Lib.hid (HB2.out.trans (hb3.mono HB2.out.size));clear hb3
    go_wp2
    go_ret
    exact ⟨rfl,FIN.out⟩
   ·have h100z:¬ ((100:Int) < (len1:Int)):=by omega
    go_wp2_with fail
    go_loopw [5,6] (fun g j wr => ∃ (i:Nat) (G:Bool),i≤len1∧g=.bool G∧j=.int .i64 (i:Int)∧Hid (ordTo (xs0.map NP.m) os i=G)∧Hid (Below w.heap.size w wr)) (fun _ j _ => len1 - (RowKit.intOf j).toNat)
    case atStart => exact ⟨0,_,Nat.zero_le _,rfl,rfl,Lib.hid (by
     unfold ordTo;rw [List.length_map,HL.out,HOL.out,List.range_zero,List.all_nil,Bool.and_true]
     by_cases h:len1=len0
     ·rw [decide_eq_true h,h];simp
     ·rw [decide_eq_false h];symm;rw [beq_eq_false_iff_ne];omega),HB2⟩
    case round =>
     obtain ⟨i,G,hi,rfl,rfl,hG,hB⟩:=hrel;obtain ⟨wo,rfl⟩:∃ x,x=wr:=⟨_,rfl⟩
     by_cases hlt:i < len1
     ·have hltz:(i:Int) < (len1:Int):=by omega
      obtain ⟨b,o,rfl,hb,hc⟩:=(HO.out.below hB.out).2 (by omega)
      have ci:=hc i hlt;obtain ⟨pt,hpt⟩:∃ pt,os.getD i []=pt:=⟨_,rfl⟩;rw [hpt] at ci;have HPT:=Lib.hid hpt;have hr:=rfind_any a0 len0 cap0 xs0 pt wo (HA0.out.below hB.out) (Nat.le_trans HLC.out.1 HLC.out.2);unfold RFindPost at hr;obtain ⟨ok,hok⟩:∃ ok,(findN (xs0.map NP.m) pt).isSome=ok:=⟨_,rfl⟩;rw [hok] at hr;have HOK:=Lib.hid hok;have HFI:=Lib.hid hr;clear hr hok hpt hb hc
      go_wp2_with fail
      refine HFI.out.mono ?_
      rintro e w4 ⟨u,rfl,hu,hui,hb4⟩;have HB4:=Lib.hid (hB.out.trans (hb4.mono hB.out.size));clear hu hui hb4 HFI ci;unfold NP.cs nodC
      go_upto_region 8 with fail
      cases G<;>cases ok
      all_goals
       go_wp2_with fail
       go_loopw [5,9] (fun g j wr => ∃ (k:Nat) (Q:Bool),k≤i∧g=.bool Q∧j=.int .i64 (k:Int)∧Hid (((ordTo (xs0.map NP.m) os i && (findN (xs0.map NP.m) pt).isSome) && ordIn os i k)=Q)∧Hid (Below w.heap.size w wr)) (fun _ j _ => i - (RowKit.intOf j).toNat)
       case atStart => exact ⟨0,_,Nat.zero_le _,rfl,rfl,Lib.hid (by rw [hG.out,HOK.out];rfl),Lib.hid (HB4.out.alloc HB4.out.size _)⟩
       case round =>
        obtain ⟨k,Q,hk,rfl,rfl,hQ,hB5⟩:=hrel;obtain ⟨wi,rfl⟩:∃ x,x=wr:=⟨_,rfl⟩
        by_cases hkl:k < i
        ·have hklz:(k:Int) < (i:Int):=by omega
         have hklz2:(k:Int) < (len1:Int):=by omega
         obtain ⟨b2,o2,hq2,hb2,hc2⟩:=(HO.out.below hB5.out).2 (by omega)
         obtain ⟨e1,e2⟩:b2=b∧o2=o:=by simpa [eq_comm] using hq2
         subst e1;subst e2;have ci:=hc2 i hlt;have ck:=hc2 k (by omega)
         rw [HPT.out] at ci;obtain ⟨pk,hpk⟩:∃ pk,os.getD k []=pk:=⟨_,rfl⟩;rw [hpk] at ck;have HPK:=Lib.hid hpk;have em:=neqS pk pt;clear hq2 hb2 hc2 hpk
         by_cases hne:pk=pt
         ·rw [decide_eq_true hne] at em
          have HQ2:Hid (((ordTo (xs0.map NP.m) os i && (findN (xs0.map NP.m) pt).isSome) && ordIn os i (k+1))=false):=Lib.hid (by
           rw [ordIn_succ,HPK.out,HPT.out,decide_eq_false (fun h => h hne),Bool.and_false,Bool.and_false])
          clear hne
          cases Q
          all_goals
           go_wp2_with fail
           go_quiet (fail)
           go_wp2
           go_roundw
           case rel => exact ⟨k+1,_,by omega,rfl,by go_num,HQ2,Lib.hid (below_drewN hB5.out _)⟩
           case measure => simp [RowKit.intOf];omega
         ·rw [decide_eq_false hne] at em
          have HQ2:Hid (((ordTo (xs0.map NP.m) os i && (findN (xs0.map NP.m) pt).isSome) && ordIn os i (k+1))=Q):=Lib.hid (by
           rw [ordIn_succ,HPK.out,HPT.out,decide_eq_true hne,Bool.and_true,hQ.out])
          clear hne
          cases Q
          all_goals
           go_wp2_with fail
           go_quiet (fail)
           go_wp2
           go_roundw
           case rel => exact ⟨k+1,_,by omega,rfl,by go_num,HQ2,Lib.hid (below_drewN hB5.out _)⟩
           case measure => simp [RowKit.intOf];omega
        ·have hke:k=i:=by omega
         have HT2:Hid (ordTo (xs0.map NP.m) os (i+1)=Q):=Lib.hid (by rw [ordTo_succ,HPT.out,← hQ.out,hke])
         have hklz:¬ ((k:Int) < (i:Int)):=by omega
         go_wp2_with fail
         go_roundw
         case rel => exact ⟨i+1,Q,by omega,rfl,by go_num,HT2,hB5⟩
         case measure => simp [RowKit.intOf];omega
     ·have hie:i=len1:=by omega
      have HOB:Hid (orderB (xs0.map NP.m) os=G):=Lib.hid (by rw [← ordTo_all,HOL.out,← hie,hG.out])
      have hltz:¬ ((i:Int) < (len1:Int)):=by omega
      go_wp2_with (at_builtin;refine append_strs rfl _ _ rfl wo.heap.size _ 0 [] rfl rfl (World.ownsRow_made wo #[] 0 (Nat.le_refl _) (by decide) rfl) a1 len1 cap1 os rfl ((HO.out.below hB.out).below ((Below.refl _ _).alloc (Nat.le_refl _) _)) (by omega) (by simp) ?_)
      intro v5 w5 hown hgrow;have hk5:Kept noneB wo w5:=(((Kept.refl noneB wo).alloc _)).grown hgrow (by intro k hk;simp [Value.ownBlock] at hk;omega)
      have hb5:Below wo.heap.size wo w5:=hk5.below (Nat.le_refl _) (fun _ h => h.elim)
      obtain ⟨q5,d5,rfl,hd5,hd52,hs5⟩:=strs_own hown;have hol:os.length=len1:=HOL.out;rw [hol] at hd5 hs5 ⊢;have HB5:=Lib.hid (hB.out.trans (hb5.mono hB.out.size));have hm:=HC.out.members w5 a0 len0 cap0 xs0 q5 len1 d5 os ⟨HA0.out.below HB5.out,HLC.out.1,HLC.out.2,hf1,HRM.out,HG.out⟩ ⟨hs5,hd5,hd52,by omega,HOR.out⟩ (HT.out.below HB5.out)
      unfold LMemPost at hm;have hlm:lmD (xs0.map NP.m) os=if G=true then (linksD (xs0.map NP.m) os,0) else ([],1):=by unfold lmD;rw [HOB.out]
      rw [hlm] at hm;clear hown hgrow hk5 hb5 hd5 hd52 hs5 hol hlm
      cases G
      ·simp only [Bool.false_eq_true,if_false] at hm
       have HM:=Lib.hid hm;clear hm
       go_wp2_with fail
       refine HM.out.mono ?_
       rintro e w6 ⟨q6,d6,ms,rfl,hms,hmn,hd6,hd62,hb6⟩;have HB6:=Lib.hid (HB5.out.trans (hb6.mono HB5.out.size));clear hms hmn hd6 hd62 hb6 HM
       go_wp2_with fail
       refine (HAN.out _ HB6.out).mono ?_
       rintro e w7 ⟨rfl,hb7⟩;have FIN:=Lib.hid (HB6.out.trans (hb7.mono HB6.out.size));clear hb7
       go_wp2
       go_ret
       exact ⟨rfl,FIN.out⟩
      ·simp only [if_true] at hm
       have HM:=Lib.hid hm;clear hm;obtain ⟨ln,hln⟩:∃ ln,(linksD (xs0.map NP.m) os).length=ln:=⟨_,rfl⟩;rw [hln] at HM;clear hln
       go_wp2_with fail
       refine HM.out.mono ?_
       rintro e w6 ⟨q6,d6,ms,rfl,hms,hmn,hd6,hd62,hb6⟩;have HB6:=Lib.hid (HB5.out.trans (hb6.mono HB5.out.size));clear hms hmn hd6 hd62 hb6 HM
       go_wp2_with fail
       refine (HAN.out _ HB6.out).mono ?_
       rintro e w7 ⟨rfl,hb7⟩;have FIN:=Lib.hid (HB6.out.trans (hb7.mono HB6.out.size));clear hb7
       go_wp2
       go_ret
       exact ⟨rfl,FIN.out⟩
end Go.Proofs.YtfhelebejclalaaDoor.Walk
end
