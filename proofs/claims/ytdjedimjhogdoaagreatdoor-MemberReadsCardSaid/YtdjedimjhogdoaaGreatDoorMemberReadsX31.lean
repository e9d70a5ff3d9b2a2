/- Texts of this seat, merged: what the proof reaches. -/
import Derived.Test.YtdjedimjhogdoaaGreatDoorMemberReadsX19
import Derived.Shelf.Unicode.ValidAny
import Derived.Test.YtdjedimjhogdoaaGreatDoorMemberReadsX25
import Derived.Lib.ItoaNum
import Derived.Lib.LaidTab
import Derived.Deep.Draws
import Derived.Shelf.RegionOpenPlain
import Derived.Test.YtdjedimjhogdoaaGreatDoorMemberReadsX23
import Derived.Lib.AppendStr
import Derived.Test.YtdjedimjhogdoaaGreatDoorMemberReadsX30
import Derived.Test.YtdjedimjhogdoaaGreatDoorMemberReadsX21
import Derived.BigRegion
import Derived.BigQuiet
import Derived.Deep.QuietTactic
import Derived.Deep.RegionHeldLaw
import Derived.Shelf.Bytes.SlIndexAt
import Derived.RangeFuncNested
import Derived.RangeFuncBound
import Derived.RangeFuncCalls
import Derived.RangeFuncLeaves
import Derived.Shelf.Abstract
import Derived.Shelf.RegionOpen
import Derived.WalkKit
import Derived.OwnWalkIn
import Derived.TacticsInMore
import Derived.LoopNIn
import Derived.LoopIn
import Derived.Test.YtdjedimjhogdoaaGreatDoorMemberReadsX11
import Derived.Test.YtdjedimjhogdoaaGreatDoorMemberReadsX28
import Derived.Laws.ResultCell
import Derived.Test.YtdjedimjhogdoaaGreatDoorMemberReadsX29
import Derived.Test.YtdjedimjhogdoaaGreatDoorMemberReadsX13
section
namespace Go.Proofs.YtdjedimjhogdoaaGreatDoor.Path
open Go.ChangeShapes Go.WideShapes Go.ChangeAt Go.RowKit Go.Shelf Base Byt Txt Go.Lib Num
set_option linter.unusedVariables false
set_option maxRecDepth 100000
theorem right_any (l:List UInt8) (w:World) (hm:l.length≤1000000000000) (hT:Tabs w) :
 Calls Tryz.prog 87 #[.string (str l)] w fun e w' => e=.returned (.bool (textD l))∧Below w.heap.size w w':=by
 have hV:=Any.utf8_ValidString Tryz.laysValid (str l) w (by rw [str_size];omega) hT
 have hC:=fun w => Any.strings_Contains_one Tryz.laysConts (str l) 0 w
 rw [str_data] at hV;simp only [str_data,index_has] at hC;rw [text_valid];have mixed:Tryz.prog.follows .mixedOrders=true:=by kernel_rfl
 clear hT hm
 cases hv:Lib.validD l with
 | false =>
   rw [hv] at hV;clear hC
   go_enter Tryz.func87,Tryz.ntmps87
   go_wp2_with (go_at_call 109;refine hV.mono ?_;rintro e w1 ⟨rfl,hb⟩)
   go_ret
   exact ⟨rfl,hb⟩
 | true =>
   rw [hv] at hV
   cases hc:l.contains 0 with
   | false =>
     rw [hc] at hC
     go_enter Tryz.func87,Tryz.ntmps87
     go_wp2_with (first | (go_at_call 109;refine hV.mono ?_;rintro e w1 ⟨rfl,hb⟩) | (go_at_call 110;refine (hC _).mono ?_;rintro e w2 ⟨rfl,rfl⟩))
     go_ret
     exact ⟨rfl,hb⟩
   | true =>
     rw [hc] at hC
     go_enter Tryz.func87,Tryz.ntmps87
     go_wp2_with (first | (go_at_call 109;refine hV.mono ?_;rintro e w1 ⟨rfl,hb⟩) | (go_at_call 110;refine (hC _).mono ?_;rintro e w2 ⟨rfl,rfl⟩))
     go_ret
     exact ⟨rfl,hb⟩
theorem target_any (l:List UInt8) (w:World) (hm:l.length≤1000000000000) (hT:Tabs w) :
 Calls Tryz.prog 92 #[.string (str l)] w fun e w' => e=.returned (.int .i64 (targetD 9 6 l))∧Below w.heap.size w w':=by
 have hR:=right_any l w hm hT;have hs:(str l).size=l.length:=str_size l;unfold targetD;clear hT
 cases ht:textD l with
 | false =>
   rw [ht] at hR;rw [if_pos rfl];clear hm hs
   go_enter Tryz.func92,Tryz.ntmps92
   go_wp2_with (go_at_call 87;refine hR.mono ?_;rintro e w1 ⟨rfl,hb⟩)
   go_ret
   exact ⟨rfl,hb⟩
 | true =>
   rw [ht] at hR;rw [if_neg (by simp)]
   obtain ⟨n,hn⟩:∃ n,(str l).size=n:=⟨_,rfl⟩
   by_cases h:l=[] ∨ 200 < l.length
   ·have hi:inB (n:Int) 1 200=false:=by
     refine inB_false ?_
     rw [← hn,hs];rcases h with rfl | h
     ·simp
     ·omega
    rw [if_pos h];clear hm hs h
    go_enter Tryz.func92,Tryz.ntmps92
    go_wp2_with (first | (go_at_call 87;refine hR.mono ?_;rintro e w1 ⟨rfl,hb⟩) | (go_at_call 91;refine (in_any _ _ _ _).mono ?_;rw [hi];rintro e w2 ⟨rfl,rfl⟩))
    go_ret
    exact ⟨rfl,hb⟩
   ·have hi:inB (n:Int) 1 200=true:=by
     have:0 < l.length:=List.length_pos_iff.2 fun e => h (.inl e)
     exact inB_true (by omega) (by omega)
    rw [if_neg h];clear hm hs h
    go_enter Tryz.func92,Tryz.ntmps92
    go_wp2_with (first | (go_at_call 87;refine hR.mono ?_;rintro e w1 ⟨rfl,hb⟩) | (go_at_call 91;refine (in_any _ _ _ _).mono ?_;rw [hi];rintro e w2 ⟨rfl,rfl⟩))
    go_ret
    exact ⟨rfl,hb⟩
end Go.Proofs.YtdjedimjhogdoaaGreatDoor.Path
end
section
namespace Go.Proofs.YtdjedimjhogdoaaGreatDoor.Rec
open Go.ChangeShapes Go.WideShapes Go.ChangeAt Go.RowKit Go.Shelf Base Byt Txt Path Go.Lib
set_option linter.unusedVariables false
set_option maxRecDepth 100000
theorem recRight_any (l:List UInt8) (w:World) (hm:l.length≤1000000000000) (hT:Tabs w) :
 Calls Tryz.prog 103 #[.string (str l)] w fun e w' => e=.returned (.bool (textD l))∧Below w.heap.size w w':=by
 have hT1:=target_any l w hm hT;obtain ⟨r,hr⟩:∃ r,targetD 9 6 l=r:=⟨_,rfl⟩
 have hne:(r != 9)=textD l:=by
  rw [← hr];unfold targetD
  cases textD l with
  | false => rfl
  | true =>
    rw [if_neg (by simp)]
    split<;>rfl
 rw [hr] at hT1;clear hT hm hr
 cases ht:textD l with
 | false =>
   rw [ht] at hne
   go_enter Tryz.func103,Tryz.ntmps103
   go_wp2_with (go_at_call 92;refine hT1.mono ?_;rintro e w1 ⟨rfl,hb⟩)
   go_ret
   exact ⟨rfl,hb⟩
 | true =>
   rw [ht] at hne
   go_enter Tryz.func103,Tryz.ntmps103
   go_wp2_with (go_at_call 92;refine hT1.mono ?_;rintro e w1 ⟨rfl,hb⟩)
   go_ret
   exact ⟨rfl,hb⟩
def cutQ (l:List UInt8):List UInt8 × List UInt8 × Bool:=
 if 0≤Lib.indexByte l 61 then (l.take (Lib.indexByte l 61).toNat,l.drop ((Lib.indexByte l 61).toNat+1),true) else (l,[],false)
theorem slCutQ_any (l:List UInt8) (w:World) (hm:l.length≤1000000000000) :
 Calls Tryz.prog 128 #[.string (str l),.string ⟨#[61]⟩] w fun e w' => e=.returned (.tuple #[.string (str (cutQ l).1),.string (str (cutQ l).2.1),.bool (cutQ l).2.2]) ∧ ∃ n,w'=w.drewN n:=by
 have hidx:=Any.stringslite_Index_one Tryz.laysIndex (str l) 61 w;rw [str_data] at hidx;have hs:(str l).size=l.length:=str_size l;unfold cutQ
 by_cases h:0≤Lib.indexByte l 61
 ·obtain ⟨k,hk⟩:∃ k:Nat,Lib.indexByte l 61=k:=⟨(Lib.indexByte l 61).toNat,by omega⟩
  have hlt:=(List.getElem?_eq_some_iff.1 (Lib.indexByte_some hk).1).1;rw [if_pos h,hk,Int.toNat_natCast];rw [hk] at hidx;clear h hk;simp only;have e1:(str l).extract 0 k=str (l.take k):=str_take l k;have e2:(str l).extract (k+1) (str l).size=str (l.drop (k+1)):=str_drop l (k+1) _ hs;rw [← e1,← e2];have c1:(0:Int)≤(k:Int):=by omega
  have c2:(k:Int)≤((str l).size:Int):=by omega
  have c3:(0:Int)≤(k:Int)+1:=by omega
  have c4:(k:Int)+1≤((str l).size:Int):=by omega
  have c5:((str l).size:Int)≤1000000000000:=by omega
  clear e1 e2;have mixed:Tryz.prog.follows .mixedOrders=true:=by kernel_rfl
  go_enter Tryz.func128,Tryz.ntmps128
  go_wp2_with (go_at_call 141;refine hidx.mono ?_;rintro e w' ⟨rfl,rfl⟩)
  go_region_o
  go_wp2
  go_ret3
  exact ⟨rfl,1,rfl⟩
 ·rw [if_neg h]
  have hn:Lib.indexByte l 61 = -1:=by have:=Lib.indexByte_ge l 61;omega
  rw [hn] at hidx;clear h hn
  go_enter Tryz.func128,Tryz.ntmps128
  go_wp2_with (go_at_call 141;refine hidx.mono ?_;rintro e w' ⟨rfl,rfl⟩)
  go_ret3
  exact ⟨rfl,0,rfl⟩
theorem cutQ_any (l:List UInt8) (w:World) (hm:l.length≤1000000000000) :
 Calls Tryz.prog 102 #[.string (str l),.string ⟨#[61]⟩] w fun e w' => e=.returned (.tuple #[.string (str (cutQ l).1),.string (str (cutQ l).2.1),.bool (cutQ l).2.2]) ∧ ∃ n,w'=w.drewN n:=by
 have hc:=slCutQ_any l w hm
 go_enter Tryz.func102,Tryz.ntmps102
 go_wp2_with (go_at_call 128;refine hc.mono ?_;rintro e w' ⟨rfl,n,rfl⟩)
 go_ret3
 exact ⟨rfl,n,rfl⟩
end Go.Proofs.YtdjedimjhogdoaaGreatDoor.Rec
end
section
namespace Go.Proofs.YtdjedimjhogdoaaGreatDoor.Rec
open Go.ChangeShapes Go.WideShapes Go.ChangeAt Go.RowKit Base Byt Txt Path Go.Lib
set_option linter.unusedVariables false
set_option maxRecDepth 100000
theorem cutD_le {l t:List UInt8} {m:Nat} (h:cutD l=some (t,m)):m≤l.length∧0 < m∧t.length≤l.length:=by
 unfold cutD at h
 split at h
 ·cases h
 ·split at h
  ·cases h
  ·split at h
   ·cases h
   ·cases h
    refine ⟨by omega,by omega,?_⟩
    rw [List.length_take,List.length_drop];omega
theorem recCutP_any (p:Option Addr) (n c:Nat) (bs:List UInt8) (w:World) (h0:0 < n) (hn:bs.length=n) (hc:n≤c) (hm:n≤1000000000000) (h:BAt w p n bs) (hN:Need w) :
 Calls Tryz.prog 101 #[.slice p n c] w fun e w' => e=.returned (cutAns (cutD bs))∧Below w.heap.size w w':=by
 obtain ⟨b,o,rfl,hcell⟩:=h h0;exact recCut_any b o n c bs w hn hc hm h hN
set_option maxHeartbeats 8000000 in
theorem recParse_any (p0:Option Addr) (n0 c0:Nat) (bs:List UInt8) (w:World) (hn:bs.length=n0) (hc:n0≤c0) (hm:n0≤1000000000000) (h:BAt w p0 n0 bs) (hN:Need w) :
 Calls Tryz.prog 81 #[.slice p0 n0 c0] w (RecsPost 5 9 bs w):=by
 have H:=Lib.hid h;have HT:=Lib.hid hN;have HN:=Lib.hid hn;have HN0:=Lib.hid hm;have HC0:=Lib.hid hc;obtain ⟨i0,hi,hz0,hz1,hz2⟩:=info_parts infoRec;have HI:=Lib.hid hi;have HZ0:=Lib.hid hz0;have HZ1:=Lib.hid hz1;have HZ2:=Lib.hid hz2;clear h hn hi hz0 hz1 hz2 hN hm hc
 go_enter Tryz.func81,Tryz.ntmps81
 go_wp2_with fail
 go_loopw [0,4] (fun b o wr => ∃ (l:List UInt8) (p:Option Addr) (n c:Nat) (acc:List (List UInt8 × List UInt8)),b=.slice p n c∧n≤c∧Hid (l.length=n)∧Hid (BAt w p n l)∧Hid (wr.ownsRow w.heap.size 53 2 o acc.length (flatR acc))∧Hid (recsFrom 5 9 l acc=recsD 5 9 bs)∧Hid (acc.length+n≤n0)∧Hid (Below w.heap.size w wr)) (fun b _ _ => match b with | .slice _ n _ => n | _ => 0)
 case atStart => exact ⟨bs,p0,n0,c0,[],rfl,HC0.out,HN,H,Lib.hid (World.ownsRow_nil _ _ _ _),Lib.hid rfl,Lib.hid (by simp),Lib.hid (Below.refl _ _)⟩
 case round =>
  obtain ⟨l,p,n,c,acc,rfl,hcc,hln,hbt,hown,hr,hlen,hB⟩:=hrel
  by_cases hl0:n=0
  ·subst hl0
   have hl:l=[]:=List.length_eq_zero_iff.1 hln.out;have hG:Hid (recsD 5 9 bs=(acc,0)):=Lib.hid (by rw [← hr.out,hl,recsFrom_nil])
   obtain ⟨q,cq,rfl,h1,h2,h3⟩:=recs_own hown.out;have H3:=Lib.hid (And.intro h1 (And.intro h2 h3));clear hl h1 h2 h3
   go_wp2
   go_ret2
   refine ⟨q,cq,by rw [hG.out];rfl,?_,H3.out.2.1,?_,hB.out⟩
   ·rw [hG.out];exact H3.out.1
   ·rw [hG.out];exact H3.out.2.2
  ·have hpos:(0:Int) < (n:Int):=by omega
   have HPOS:Hid (0 < n):=Lib.hid (by omega)
   have HNE:Hid (l≠[]):=Lib.hid (fun e => by have:=hln.out;rw [e] at this;exact hl0 (by simpa using this.symm))
   have hsm:(n:Int)≤1000000000000:=by have:=hlen.out;have:=HN0.out;omega
   have HG:Hid (∀ er,recStep 5 9 l=.error er → recsD 5 9 bs=([],er)):=Lib.hid (fun er he => by rw [← hr.out,recsFrom_step 5 9 l HNE.out,he])
   have HCUT:=Lib.hid (fun w1 h1 h2 => recCutP_any p n c l w1 HPOS.out hln.out hcc (by omega) h1 h2)
   have HRS:=Lib.hid (recStep_cutD 5 9 l);clear hl0
   cases hcut:cutD l with
   | none =>
     rw [hcut] at HCUT HRS;have E:Hid (recsD 5 9 bs=([],5)):=Lib.hid (HG.out 5 HRS.out);clear hcut
     go_wp2_with fail
     refine (HCUT.out _ (hbt.out.below hB.out) (HT.out.below hB.out)).mono ?_
     unfold cutAns;rintro e w1 ⟨rfl,hb1⟩;have HB1:=Lib.hid (hB.out.trans (hb1.mono hB.out.size));clear hb1
     go_wp2
     go_ret2
     exact recs_err 5 9 bs w _ 5 E.out HB1.out
   | some x =>
     obtain ⟨t,m⟩:=x;obtain ⟨hml,hm0,htl⟩:=cutD_le hcut;rw [hcut] at HCUT HRS;have HML:Hid (m≤n∧0 < m):=Lib.hid (by have:=hln.out;omega)
     have hmn:(m:Int)≤(n:Int):=by have:=HML.out;omega
     have hmpos:(0:Int) < (m:Int):=by omega
     have htl2:t.length≤1000000000000:=by have:=hln.out;omega
     have HTL:=Lib.hid htl2;have HQ:=Lib.hid (fun w1 => cutQ_any t w1 HTL.out)
     have HRT:=Lib.hid (fun w1 h1 => recRight_any t w1 HTL.out h1)
     clear hcut hml hm0 htl htl2
     by_cases hq:Lib.indexByte t 61 < 1
     ·have E:Hid (recsD 5 9 bs=([],5)):=Lib.hid (HG.out 5 (by
       rw [HRS.out];simp only
       rw [if_pos hq]))
      by_cases hq0:0≤Lib.indexByte t 61
      ·have hz:Lib.indexByte t 61=0:=by omega
       have HQ2:Hid (∀ w,Calls Tryz.prog 102 #[.string (str t),.string ⟨#[61]⟩] w fun e w' => e=.returned (.tuple #[.string ⟨#[]⟩,.string (str (t.drop 1)),.bool true]) ∧ ∃ n,w'=w.drewN n):=Lib.hid (fun w1 => by
        have:=HQ.out w1;unfold cutQ at this;rw [if_pos hq0,hz] at this
        exact this)
       clear hq hq0 hz
       go_wp2_with fail
       refine (HCUT.out _ (hbt.out.below hB.out) (HT.out.below hB.out)).mono ?_
       unfold cutAns;rintro e w1 ⟨rfl,hb1⟩;have HB1:=Lib.hid (hB.out.trans (hb1.mono hB.out.size));clear hb1
       go_wp2_with fail
       refine (HQ2.out _).mono ?_
       rintro e w2 ⟨rfl,nd,rfl⟩;have HB2:=Lib.hid (below_drewN HB1.out nd)
       go_wp2
       go_ret2
       exact recs_err 5 9 bs w _ 5 E.out HB2.out
      ·have HQ2:Hid (∀ w,Calls Tryz.prog 102 #[.string (str t),.string ⟨#[61]⟩] w fun e w' => e=.returned (.tuple #[.string (str t),.string (str []),.bool false]) ∧ ∃ n,w'=w.drewN n):=Lib.hid (fun w1 => by
        have:=HQ.out w1;unfold cutQ at this;rw [if_neg hq0] at this
        exact this)
       clear hq hq0
       go_wp2_with fail
       refine (HCUT.out _ (hbt.out.below hB.out) (HT.out.below hB.out)).mono ?_
       unfold cutAns;rintro e w1 ⟨rfl,hb1⟩;have HB1:=Lib.hid (hB.out.trans (hb1.mono hB.out.size));clear hb1
       go_wp2_with fail
       refine (HQ2.out _).mono ?_
       rintro e w2 ⟨rfl,nd,rfl⟩;have HB2:=Lib.hid (below_drewN HB1.out nd)
       go_wp2
       go_ret2
       exact recs_err 5 9 bs w _ 5 E.out HB2.out
     ·obtain ⟨k,hk⟩:∃ k:Nat,Lib.indexByte t 61=k:=⟨(Lib.indexByte t 61).toNat,by omega⟩
      obtain ⟨kk,hkk⟩:∃ kk,t.take k=kk:=⟨_,rfl⟩;obtain ⟨vv,hvv⟩:∃ vv,t.drop (k+1)=vv:=⟨_,rfl⟩;have hkl:=(List.getElem?_eq_some_iff.1 (Lib.indexByte_some hk).1).1
      have hkne:(str kk).toList.isEmpty=false:=by
       rw [str_empty,decide_eq_false_iff_not,← hkk];intro e;have:=congrArg List.length e;rw [List.length_take,List.length_nil] at this;omega
      have HQ2:Hid (∀ w,Calls Tryz.prog 102 #[.string (str t),.string ⟨#[61]⟩] w fun e w' => e=.returned (.tuple #[.string (str kk),.string (str vv),.bool true]) ∧ ∃ n,w'=w.drewN n):=Lib.hid (fun w1 => by
       have:=HQ.out w1;unfold cutQ at this;rw [if_pos (by omega),hk,Int.toNat_natCast] at this
       simp only [hkk,hvv] at this
       exact this)
      cases ht:textD t with
      | false =>
        rw [ht] at HRT
        have E:Hid (recsD 5 9 bs=([],9)):=Lib.hid (HG.out 9 (by
         rw [HRS.out];simp only
         rw [if_neg hq,if_pos ht]))
        clear hq hk hkk hvv ht hkl
        go_wp2_with fail
        refine (HCUT.out _ (hbt.out.below hB.out) (HT.out.below hB.out)).mono ?_
        unfold cutAns;rintro e w1 ⟨rfl,hb1⟩;have HB1:=Lib.hid (hB.out.trans (hb1.mono hB.out.size));clear hb1
        go_wp2_with fail
        refine (HQ2.out _).mono ?_
        rintro e w2 ⟨rfl,nd,rfl⟩;have HB2:=Lib.hid (below_drewN HB1.out nd)
        go_wp2_with fail
        refine (HRT.out _ (HT.out.below HB2.out).tabs).mono ?_
        rintro e w3 ⟨rfl,hb3⟩;have HB3:=Lib.hid (HB2.out.trans (hb3.mono HB2.out.size));clear hb3
        go_wp2
        go_ret2
        exact recs_err 5 9 bs w _ 9 E.out HB3.out
      | true =>
        rw [ht] at HRT
        have HST:Hid (recsFrom 5 9 (l.drop m) (acc++[(kk,vv)])=recsD 5 9 bs):=Lib.hid (by
         rw [← hr.out,recsFrom_step 5 9 l HNE.out,HRS.out];simp only;rw [if_neg hq,if_neg (by rw [ht];simp),hk,Int.toNat_natCast]
         simp only [hkk,hvv])
        have HBT2:Hid (BAt w (if c=m then p else p.map (·.add m)) (n - m) (l.drop m)):=Lib.hid (hbt.out.drop HML.out.1 hcc hln.out)
        have HLD:Hid ((l.drop m).length=n - m):=Lib.hid (by rw [List.length_drop,hln.out])
        clear hq hk hkk hvv ht hkl
        go_wp2_with fail
        refine (HCUT.out _ (hbt.out.below hB.out) (HT.out.below hB.out)).mono ?_
        unfold cutAns;rintro e w1 ⟨rfl,hb1⟩;have HB1:=Lib.hid (hB.out.trans (hb1.mono hB.out.size));have HO1:=Lib.hid (row_below hown.out hb1);clear hb1
        go_wp2_with fail
        refine (HQ2.out _).mono ?_
        rintro e w2 ⟨rfl,nd,rfl⟩;have HB2:=Lib.hid (below_drewN HB1.out nd);have HO2:=Lib.hid (row_below HO1.out (below_drewN (Below.refl w1.heap.size w1) nd))
        go_wp2_with fail
        refine (HRT.out _ (HT.out.below HB2.out).tabs).mono ?_
        rintro e w3 ⟨rfl,hb3⟩;have HB3:=Lib.hid (HB2.out.trans (hb3.mono HB2.out.size));have HO3:=Lib.hid (row_below HO2.out hb3);clear hb3;have HOWN:Hid (World.ownsRow (w3.alloc (.cells #[.string (str kk),.string (str vv)] 53)) w.heap.size 53 2 u4 acc.length (flatR acc)):=Lib.hid (HO3.out.alloc _);have HBD:Hid (Below w.heap.size w (w3.alloc (.cells #[.string (str kk),.string (str vv)] 53))):=Lib.hid (HB3.out.alloc HB3.out.size _)
        have HCL:Hid (∀ j u,([Value.string (str kk),.string (str vv)]:List Value)[j]? = some u → (w3.alloc (.cells #[.string (str kk),.string (str vv)] 53)).cell? ((⟨w3.heap.size,0,none⟩:Addr).add j)=some u):=Lib.hid (fun j u hj => by
         obtain ⟨g0,g1⟩:=cells2 w3 53 (.string (str kk)) (.string (str vv))
         match j,hj with
         | 0,hj => cases hj;exact g0
         | 1,hj => cases hj;exact g1
         | j+2,hj => simp at hj)
        have HAL:Hid (acc.length+1≤1000000000001):=Lib.hid (by have:=hlen.out;have:=HN0.out;omega)
        have HSZ1:Hid (w.heap.size≤(w3.alloc (.cells #[.string (str kk),.string (str vv)] 53)).heap.size):=Lib.hid HBD.out.size
        go_wp2_with (at_builtin;refine wpList_append_own _ rfl _ _ 73 rfl w.heap.size 53 i0 (.agg #[.string ⟨#[]⟩,.string ⟨#[]⟩]) 2 32 Tryz.underlying73 HI.out HZ0.out HZ1.out HZ2.out rfl (by decide) _ acc.length (flatR acc) rfl HOWN.out ⟨w3.heap.size,0,none⟩ 1 1 [.string (str kk),.string (str vv)] rfl rfl HCL.out (by
         intro u hu;rcases List.mem_cons.1 hu with rfl | hu
         ·rfl
         ·rcases List.mem_cons.1 hu with rfl | hu
          ·rfl
          ·(cases hu)) (by have:=HAL.out;unfold maxLen;omega) (by have:=HAL.out;omega) HSZ1.out ?_)
        intro v' w4 hown' hgrow _
        have HOW1:Hid (w4.ownsRow w.heap.size 53 2 v' (acc++[(kk,vv)]).length (flatR (acc++[(kk,vv)]))):=Lib.hid (by
         rw [flatR_snoc,List.length_append];exact hown')
        have HBW:Hid (Below w.heap.size w w4):=Lib.hid (HBD.out.grown hgrow HBD.out.size (fun b hb => by
         rcases HOWN.out.2 with ⟨rfl,_⟩ | ⟨g,cap,cur,rfl,hb2,_⟩
         ·cases hb
         ·cases hb;exact hb2))
        clear hown' hgrow
        go_wp2_with fail
        go_roundw
        case rel => exact ⟨l.drop m,_,n - m,c - m,acc++[(kk,vv)],rfl,by omega,HLD,HBT2,HOW1,HST,Lib.hid (by have h2:=hlen.out;have:=HML.out;rw [List.length_append];simp only [List.length_cons,List.length_nil];omega),HBW⟩
        case measure => have:=HML.out;simp;omega
end Go.Proofs.YtdjedimjhogdoaaGreatDoor.Rec
end
section
namespace Go.Proofs.YtdjedimjhogdoaaGreatDoor.Mem
open Go.ChangeShapes Go.WideShapes Go.ChangeAt Go.RowKit Base Byt Txt Bk Mk Block Hp Head Attr Rec Go.Lib Go.Shelf
set_option linter.unusedVariables false
set_option maxRecDepth 100000
theorem cutP_any (p:Option Addr) (n b2:Nat) (bs:List UInt8) (w:World) (hn:bs.length=n) (hm:n≤140737488351232) (h:BAt w p n bs) (h2:w.cell? ⟨b2,0,none⟩=some (.int .u8 0)) :
 Calls Tryz.prog 80 #[.slice p n n,.slice (some ⟨b2,0,none⟩) 1 1] w fun e w' => ∃ v2 v3,e=.returned (.tuple #[.slice p (untilB bs).length n,v2,v3])∧Kept noneB w w':=by
 rcases Nat.eq_zero_or_pos n with h0 | h0
 ·subst h0
  obtain rfl:bs=[]:=List.eq_nil_of_length_eq_zero hn;rcases p with _ | x
  ·refine (Any.bytes_Cut_of Tryz.laysCut none (some ⟨b2,0,none⟩) 0 0 1 1 (-1) w (Nat.le_refl _) (by omega) (by omega) (by omega) ((Any.bytes_Index_one_nil Tryz.laysCut.index b2 0 1 0 w h2).mono fun e w' he => ⟨he.1,0,he.2⟩)).mono ?_
   rintro e w' ⟨rfl,q,rfl⟩;unfold Lib.cutV;rw [if_neg (by omega)]
   exact ⟨_,_,rfl,(Kept.refl _ _).drewN _⟩
  ·refine (Any.bytes_Cut_of Tryz.laysCut (some x) (some ⟨b2,0,none⟩) 0 0 1 1 (-1) w (Nat.le_refl _) (by omega) (by omega) (by omega) ((Any.bytes_Index_one_at Tryz.laysCut.index x 0 0 b2 0 1 [] 0 w rfl (fun i hi => absurd hi (by omega)) h2).mono fun e w' he => ⟨he.1,0,he.2⟩)).mono ?_
   rintro e w' ⟨rfl,q,rfl⟩;unfold Lib.cutV;rw [if_neg (by omega)]
   exact ⟨_,_,rfl,(Kept.refl _ _).drewN _⟩
 ·obtain ⟨b,o,rfl,_⟩:=h h0
  exact cut_any b o n n b2 bs w hn (Nat.le_refl _) hm h h2
section
variable {w0 w w':World} {K:RK} {a:Nat} {s:RS} {mb:Option Nat} {v:Value} {xs:List MP} {q:Option Addr} {n c:Nat}
theorem wait_agg (s:RS) (q:Option Addr) (n c:Nat) (k:UInt8):∃ x p m d,(waitF s q n c k).getD (.agg #[.string ⟨#[]⟩,.slice none 0 0])=.agg #[.string x,.slice p m d]:=by
 unfold waitF
 by_cases h1:k=120
 ·rw [if_pos h1]
  by_cases h2:s.hasX=true
  ·rw [if_pos h2];exact ⟨_,_,_,_,rfl⟩
  ·rw [if_neg h2];exact ⟨_,_,_,_,rfl⟩
 ·rw [if_neg h1]
  by_cases h2:k=76
  ·rw [if_pos h2]
   cases s.name<;>exact ⟨_,_,_,_,rfl⟩
  ·rw [if_neg h2]
   by_cases h3:k=75
   ·rw [if_pos h3]
    cases s.link<;>exact ⟨_,_,_,_,rfl⟩
   ·rw [if_neg h3];exact ⟨_,_,_,_,rfl⟩
theorem body_ok (w:World) (g a t:Nat) (S:Sv) (h:Src w g S a t) (ho:S.off g) (k:Nat) (hk:k≤1048576) (X:List UInt8) (hX:(S.bs.drop a).take k=X) (hl:a+padN k≤S.n) :
 Calls Tryz.prog 79 #[.pointer (some ⟨g,0,none⟩),.int .i64 (k:Int)] w fun e w' => ∃ p t',e=.returned (.tuple #[.slice p k k,.int .i64 0])∧BAt w' p k X∧(∀ x,p=some x → w.heap.size≤x.block)∧Src w' g S (a+padN k) t'∧Kept (oneB g) w w':=by
 refine (body_any w g a t S h ho k (by omega)).mono ?_
 rintro e w' (⟨_,p,rfl,h2,h3,⟨t',h4⟩,h5⟩ | ⟨h1,_⟩)
 ·exact ⟨p,t',rfl,by rw [← hX];exact h2,h3,h4,h5⟩
 ·omega
theorem body_no (w:World) (g a t:Nat) (S:Sv) (h:Src w g S a t) (ho:S.off g) (k:Nat) (hk:k≤1048576) (hl:S.n < a+padN k) :
 Calls Tryz.prog 79 #[.pointer (some ⟨g,0,none⟩),.int .i64 (k:Int)] w fun e w' => ∃ t',e=.returned (.tuple #[.slice none 0 0,.int .i64 2])∧Src w' g S S.n t'∧Kept (oneB g) w w':=by
 refine (body_any w g a t S h ho k (by omega)).mono ?_
 rintro e w' (⟨h1,_⟩ | ⟨_,rfl,⟨t',h4⟩,h5⟩)
 ·omega
 ·exact ⟨t',rfl,h4,h5⟩
def Left (w0:World) (K:RK) (a:Nat) (s:RS) (w':World):Prop:=∃ mb v xs q n c,Rd w0 w' K a s mb v xs q n c
set_option maxHeartbeats 2000000 in
theorem ext_waits (hr:Rd w0 w K a s mb v xs q n c) (h:HeadV) (hw:(waitF s q n c h.kind).isSome=true) :
 Calls Tryz.prog 53 #[.pointer (some ⟨K.r,0,none⟩),.agg (headC h)] w fun e w' => e=.returned (.int .i64 5)∧Below w.heap.size w w':=by
 have HR:=Lib.hid hr;obtain ⟨kn,hkn⟩:∃ kn:Int,(h.kind.toNat:Int)=kn:=⟨_,rfl⟩;obtain ⟨W1,hW1⟩:∃ W1,w.alloc (.cells (headC h) 57)=W1:=⟨_,rfl⟩;have hB1:Below w.heap.size w W1:=by rw [← hW1];exact (Below.refl _ w).alloc (Nat.le_refl _) _
 have b1:Blk W1 w.heap.size 57 (headC h):=by rw [← hW1];exact Blk.new w _ _
 have R1:=hr.below hB1;have hB2:Below w.heap.size w (W1.alloc (.cells #[.string ⟨#[]⟩,.slice none 0 0] 133)):=hB1.alloc hB1.size _;have R2:=hr.below hB2;have l1:=look_ext (R1.idle ((Kept.refl noneB _).drew)).map h.kind kn hkn;have l2:=look_ext (R2.idle ((Kept.refl noneB _).drew)).map h.kind kn hkn;obtain ⟨ex,ep,em,ed,hv⟩:=wait_agg s q n c h.kind;rw [hv,hw] at l1 l2;have x2:=R1.c2;have k2:=b1.cell 2;simp only [headC,List.getElem?_toArray,List.getElem?_cons_zero,List.getElem?_cons_succ,hkn] at k2;have y2:=R2.c2;have j2:=(b1.alloc (.cells #[.string ⟨#[]⟩,.slice none 0 0] 133)).cell 2
 simp only [headC,List.getElem?_toArray,List.getElem?_cons_zero,List.getElem?_cons_succ,hkn] at j2;have HB1:=Lib.hid hB1;have HX:=Lib.hid b1;have HKN:=Lib.hid hkn;clear hr hw hkn hv R1 R2 b1 hB1 hB2
 go_enter Tryz.func53,Tryz.ntmps53
 go_upto_region 1 with fail
 clear hW1
 go_cut [5,6] from 13 to 22 (fun s5 s6 wx => s5=.pointer (some ⟨W1.heap.size,0,none⟩)∧s6=.bool true∧wx=(W1.alloc (.cells #[.string ex,.slice ep em ed] 133)).drew)
 case first =>
  go_region
  all_goals (go_wp2;go_meet;exact ⟨rfl,rfl,rfl⟩)
 case rest =>
  obtain ⟨rfl,rfl,rfl⟩:=hcut;clear l1 l2 x2 k2 y2 j2;have hB2:Below w.heap.size w (W1.alloc (.cells #[.string ex,.slice ep em ed] 133)).drew:=((HB1.out.alloc HB1.out.size _)).drew;have HX2:Hid (Blk (W1.alloc (.cells #[.string ex,.slice ep em ed] 133)).drew w.heap.size 57 (headC h)):=Lib.hid ((HX.out.alloc _).drew);obtain ⟨W2,hW2⟩:∃ W2,(W1.alloc (.cells #[.string ex,.slice ep em ed] 133)).drew=W2:=⟨_,rfl⟩;rw [hW2] at hB2 HX2 ⊢;clear hW2;have HB2:=Lib.hid hB2;have HR2:=Lib.hid (HR.out.below hB2);clear hB2 HB1 HX
  go_wp2
  go_ret
  exact ⟨rfl,HB2.out⟩
set_option maxHeartbeats 2000000 in
theorem ext_large (hr:Rd w0 w K a s mb v xs q n c) (h:HeadV) (hw:waitF s q n c h.kind=none) (hz:1048576 < h.size) :
 Calls Tryz.prog 53 #[.pointer (some ⟨K.r,0,none⟩),.agg (headC h)] w fun e w' => e=.returned (.int .i64 10)∧Below w.heap.size w w':=by
 have HR:=Lib.hid hr;obtain ⟨kn,hkn⟩:∃ kn:Int,(h.kind.toNat:Int)=kn:=⟨_,rfl⟩;obtain ⟨W1,hW1⟩:∃ W1,w.alloc (.cells (headC h) 57)=W1:=⟨_,rfl⟩;have hB1:Below w.heap.size w W1:=by rw [← hW1];exact (Below.refl _ w).alloc (Nat.le_refl _) _
 have b1:Blk W1 w.heap.size 57 (headC h):=by rw [← hW1];exact Blk.new w _ _
 have R1:=hr.below hB1;have hB2:Below w.heap.size w (W1.alloc (.cells #[.string ⟨#[]⟩,.slice none 0 0] 133)):=hB1.alloc hB1.size _;have R2:=hr.below hB2;have l1:=look_ext (R1.idle ((Kept.refl noneB _).drew)).map h.kind kn hkn;have l2:=look_ext (R2.idle ((Kept.refl noneB _).drew)).map h.kind kn hkn;rw [hw] at l1 l2;simp only [Option.getD_none,Option.isSome_none] at l1 l2;have x2:=R1.c2;have k2:=b1.cell 2;simp only [headC,List.getElem?_toArray,List.getElem?_cons_zero,List.getElem?_cons_succ,hkn] at k2;have y2:=R2.c2;have j2:=(b1.alloc (.cells #[.string ⟨#[]⟩,.slice none 0 0] 133)).cell 2
 simp only [headC,List.getElem?_toArray,List.getElem?_cons_zero,List.getElem?_cons_succ,hkn] at j2;have HB1:=Lib.hid hB1;have HX:=Lib.hid b1;have HKN:=Lib.hid hkn;clear hr hw hkn R1 R2 b1 hB1 hB2
 go_enter Tryz.func53,Tryz.ntmps53
 go_upto_region 1 with fail
 clear hW1
 go_cut [5,6] from 13 to 22 (fun s5 s6 wx => s5=.pointer (some ⟨W1.heap.size,0,none⟩)∧s6=.bool false∧wx=(W1.alloc (.cells #[.string ⟨#[]⟩,.slice none 0 0] 133)).drew)
 case first =>
  go_region
  all_goals (go_wp2;go_meet;exact ⟨rfl,rfl,rfl⟩)
 case rest =>
  obtain ⟨rfl,rfl,rfl⟩:=hcut;clear l1 l2 x2 k2 y2 j2;have hB2:Below w.heap.size w (W1.alloc (.cells #[.string ⟨#[]⟩,.slice none 0 0] 133)).drew:=((HB1.out.alloc HB1.out.size _)).drew;have HX2:Hid (Blk (W1.alloc (.cells #[.string ⟨#[]⟩,.slice none 0 0] 133)).drew w.heap.size 57 (headC h)):=Lib.hid ((HX.out.alloc _).drew);obtain ⟨W2,hW2⟩:∃ W2,(W1.alloc (.cells #[.string ⟨#[]⟩,.slice none 0 0] 133)).drew=W2:=⟨_,rfl⟩;rw [hW2] at hB2 HX2 ⊢;clear hW2;have HB2:=Lib.hid hB2;have HR2:=Lib.hid (HR.out.below hB2);clear hB2 HB1 HX;have z7:=HX2.out.cell 7;simp only [headC,List.getElem?_toArray,List.getElem?_cons_zero,List.getElem?_cons_succ] at z7
  go_wp2
  go_ret
  exact ⟨rfl,HB2.out⟩
set_option maxHeartbeats 2000000 in
theorem ext_short (hr:Rd w0 w K a s mb v xs q n c) (h:HeadV) (hw:waitF s q n c h.kind=none) (k:Nat) (hk0:h.size=(k:Int)) (hz:k≤1048576) (hl:K.S.n < a+padN k) :
 Calls Tryz.prog 53 #[.pointer (some ⟨K.r,0,none⟩),.agg (headC h)] w fun e w' => e=.returned (.int .i64 2)∧Below w0.heap.size w0 w':=by
 have HBR:=Lib.hid hl;have HKL:=Lib.hid hz;have HSZ:=Lib.hid hk0;have hlarge:¬ (1048576:Int) < (k:Int):=by omega
 clear hl hz hk0;have HR:=Lib.hid hr;obtain ⟨kn,hkn⟩:∃ kn:Int,(h.kind.toNat:Int)=kn:=⟨_,rfl⟩;obtain ⟨W1,hW1⟩:∃ W1,w.alloc (.cells (headC h) 57)=W1:=⟨_,rfl⟩;have hB1:Below w.heap.size w W1:=by rw [← hW1];exact (Below.refl _ w).alloc (Nat.le_refl _) _
 have b1:Blk W1 w.heap.size 57 (headC h):=by rw [← hW1];exact Blk.new w _ _
 have R1:=hr.below hB1;have hB2:Below w.heap.size w (W1.alloc (.cells #[.string ⟨#[]⟩,.slice none 0 0] 133)):=hB1.alloc hB1.size _;have R2:=hr.below hB2;have l1:=look_ext (R1.idle ((Kept.refl noneB _).drew)).map h.kind kn hkn;have l2:=look_ext (R2.idle ((Kept.refl noneB _).drew)).map h.kind kn hkn;rw [hw] at l1 l2;simp only [Option.getD_none,Option.isSome_none] at l1 l2;have x2:=R1.c2;have k2:=b1.cell 2;simp only [headC,List.getElem?_toArray,List.getElem?_cons_zero,List.getElem?_cons_succ,hkn] at k2;have y2:=R2.c2;have j2:=(b1.alloc (.cells #[.string ⟨#[]⟩,.slice none 0 0] 133)).cell 2
 simp only [headC,List.getElem?_toArray,List.getElem?_cons_zero,List.getElem?_cons_succ,hkn] at j2;have HB1:=Lib.hid hB1;have HX:=Lib.hid b1;have HKN:=Lib.hid hkn;clear hr hw hkn R1 R2 b1 hB1 hB2
 go_enter Tryz.func53,Tryz.ntmps53
 go_upto_region 1 with fail
 clear hW1
 go_cut [5,6] from 13 to 22 (fun s5 s6 wx => s5=.pointer (some ⟨W1.heap.size,0,none⟩)∧s6=.bool false∧wx=(W1.alloc (.cells #[.string ⟨#[]⟩,.slice none 0 0] 133)).drew)
 case first =>
  go_region
  all_goals (go_wp2;go_meet;exact ⟨rfl,rfl,rfl⟩)
 case rest =>
  obtain ⟨rfl,rfl,rfl⟩:=hcut;clear l1 l2 x2 k2 y2 j2;have hB2:Below w.heap.size w (W1.alloc (.cells #[.string ⟨#[]⟩,.slice none 0 0] 133)).drew:=((HB1.out.alloc HB1.out.size _)).drew;have HX2:Hid (Blk (W1.alloc (.cells #[.string ⟨#[]⟩,.slice none 0 0] 133)).drew w.heap.size 57 (headC h)):=Lib.hid ((HX.out.alloc _).drew);obtain ⟨W2,hW2⟩:∃ W2,(W1.alloc (.cells #[.string ⟨#[]⟩,.slice none 0 0] 133)).drew=W2:=⟨_,rfl⟩;rw [hW2] at hB2 HX2 ⊢;clear hW2;have HB2:=Lib.hid hB2;have HR2:=Lib.hid (HR.out.below hB2);clear hB2 HB1 HX;have x0:=HR2.out.c0;have z7:=HX2.out.cell 7
  simp only [headC,List.getElem?_toArray,List.getElem?_cons_zero,List.getElem?_cons_succ,HSZ.out] at z7;have hRd:=HR2.out.idle ((Kept.refl noneB W2).drew);obtain ⟨t,hs⟩:=hRd.src
  have hne:w.heap.size≠K.g:=by
   obtain ⟨t',hs'⟩:=HR.out.src;have:=hs'.lt;omega
  have HRD:=Lib.hid hRd;have HNE:=Lib.hid hne;have hB:=body_no W2.drew K.g a t K.S hs hRd.off k HKL.out HBR.out;clear hs hRd hne
  go_upto_region 6 with fail
  go_region_held_law (fun w' => w'.cell? ⟨K.r,0,none⟩=some (.pointer (some ⟨K.g,0,none⟩))∧w'.cell? ⟨w.heap.size,7,none⟩=some (.int .i64 (k:Int))) (first | exact ⟨x0,z7⟩ | exact hS3)
   (first
    | (go_at_call 79
       refine hB.mono ?_
       rintro e w3 ⟨t',rfl,h4,h5⟩;have H3:=Lib.hid (HRD.out.moved h5 ⟨t',h4⟩);have HX3:Hid (Blk w3 w.heap.size 57 (headC h)):=Lib.hid ((HX2.out.drew).keptS h5 HNE.out);have HB3:=Lib.hid h5;have hS3:w3.cell? ⟨K.r,0,none⟩=some (.pointer (some ⟨K.g,0,none⟩))∧w3.cell? ⟨w.heap.size,7,none⟩=some (.int .i64 (k:Int)):=⟨H3.out.c0,by have:=HX3.out.cell 7;simp only [headC,List.getElem?_toArray,List.getElem?_cons_zero,List.getElem?_cons_succ,HSZ.out] at this;exact this⟩
       clear h4 h5))
  clear hB hS3 x0 z7
  go_wp2
  go_ret
  exact ⟨rfl,H3.out.bel⟩
theorem put_name (s:RS) (q:Option Addr) (n c:Nat) (T:List UInt8):(fun y => if y=76 then some (Value.agg #[.string (str T),.slice none 0 0]) else waitF s q n c y)=waitF { s with name:=some T } q n c:=by
 funext y
 unfold waitF
 by_cases h:y=76
 ·subst h;rfl
 ·simp [h]
theorem put_link (s:RS) (q:Option Addr) (n c:Nat) (T:List UInt8):(fun y => if y=75 then some (Value.agg #[.string (str T),.slice none 0 0]) else waitF s q n c y)=waitF { s with link:=some T } q n c:=by
 funext y
 unfold waitF
 by_cases h:y=75
 ·subst h;rfl
 ·simp [h]
theorem put_own (s:RS) (q q':Option Addr) (n c n' c':Nat) (rs:RecL):(fun y => if y=120 then some (Value.agg #[.string ⟨#[]⟩,.slice q' n' c']) else waitF s q n c y)=waitF { s with hasX:=true,own:=rs } q' n' c':=by
 funext y
 unfold waitF
 by_cases h:y=120
 ·subst h;rfl
 ·simp [h]
set_option maxHeartbeats 4000000 in
theorem ext_name (hr:Rd w0 w K a s mb v xs q n c) (h:HeadV) (hw:waitF s q n c h.kind=none) (k:Nat) (hk0:h.size=(k:Int)) (hz:k≤1048576) (X:List UInt8) (hX:(K.S.bs.drop a).take k=X) (hl:a+padN k≤K.S.n) (hkd:h.kind=76) :
 Calls Tryz.prog 53 #[.pointer (some ⟨K.r,0,none⟩),.agg (headC h)] w fun e w' => e=.returned (.int .i64 0)∧Left w0 K (a+padN k) { s with name:=some (untilB X) } w':=by
 have HXL:Hid (X.length=k):=Lib.hid (by
  obtain ⟨t,hs⟩:=hr.src;have:=padN_ge k;have:=hs.len
  rw [← hX,List.length_take,List.length_drop];omega)
 have HBR:=Lib.hid (And.intro hX hl);have HKL:=Lib.hid hz;have HSZ:=Lib.hid hk0;have hlarge:¬ (1048576:Int) < (k:Int):=by omega
 clear hl hX hk0 hz;have HKD:=Lib.hid hkd;clear hkd;have HR:=Lib.hid hr;obtain ⟨kn,hkn⟩:∃ kn:Int,(h.kind.toNat:Int)=kn:=⟨_,rfl⟩;obtain ⟨W1,hW1⟩:∃ W1,w.alloc (.cells (headC h) 57)=W1:=⟨_,rfl⟩;have hB1:Below w.heap.size w W1:=by rw [← hW1];exact (Below.refl _ w).alloc (Nat.le_refl _) _
 have b1:Blk W1 w.heap.size 57 (headC h):=by rw [← hW1];exact Blk.new w _ _
 have R1:=hr.below hB1;have hB2:Below w.heap.size w (W1.alloc (.cells #[.string ⟨#[]⟩,.slice none 0 0] 133)):=hB1.alloc hB1.size _;have R2:=hr.below hB2;have l1:=look_ext (R1.idle ((Kept.refl noneB _).drew)).map h.kind kn hkn;have l2:=look_ext (R2.idle ((Kept.refl noneB _).drew)).map h.kind kn hkn;rw [hw] at l1 l2;simp only [Option.getD_none,Option.isSome_none] at l1 l2;have x2:=R1.c2;have k2:=b1.cell 2;simp only [headC,List.getElem?_toArray,List.getElem?_cons_zero,List.getElem?_cons_succ,hkn] at k2;have y2:=R2.c2;have j2:=(b1.alloc (.cells #[.string ⟨#[]⟩,.slice none 0 0] 133)).cell 2
 simp only [headC,List.getElem?_toArray,List.getElem?_cons_zero,List.getElem?_cons_succ,hkn] at j2;have HB1:=Lib.hid hB1;have HX:=Lib.hid b1;have HKN:=Lib.hid hkn;clear hr hw hkn R1 R2 b1 hB1 hB2
 go_enter Tryz.func53,Tryz.ntmps53
 go_upto_region 1 with fail
 clear hW1
 go_cut [5,6] from 13 to 22 (fun s5 s6 wx => s5=.pointer (some ⟨W1.heap.size,0,none⟩)∧s6=.bool false∧wx=(W1.alloc (.cells #[.string ⟨#[]⟩,.slice none 0 0] 133)).drew)
 case first =>
  go_region
  all_goals (go_wp2;go_meet;exact ⟨rfl,rfl,rfl⟩)
 case rest =>
  obtain ⟨rfl,rfl,rfl⟩:=hcut;clear l1 l2 x2 k2 y2 j2;have hB2:Below w.heap.size w (W1.alloc (.cells #[.string ⟨#[]⟩,.slice none 0 0] 133)).drew:=((HB1.out.alloc HB1.out.size _)).drew;have HX2:Hid (Blk (W1.alloc (.cells #[.string ⟨#[]⟩,.slice none 0 0] 133)).drew w.heap.size 57 (headC h)):=Lib.hid ((HX.out.alloc _).drew);obtain ⟨W2,hW2⟩:∃ W2,(W1.alloc (.cells #[.string ⟨#[]⟩,.slice none 0 0] 133)).drew=W2:=⟨_,rfl⟩;rw [hW2] at hB2 HX2 ⊢;clear hW2;have HB2:=Lib.hid hB2;have HR2:=Lib.hid (HR.out.below hB2);clear hB2 HB1 HX;have x0:=HR2.out.c0;have z7:=HX2.out.cell 7
  simp only [headC,List.getElem?_toArray,List.getElem?_cons_zero,List.getElem?_cons_succ,HSZ.out] at z7;have hRd:=HR2.out.idle ((Kept.refl noneB W2).drew);obtain ⟨t,hs⟩:=hRd.src
  have hne:w.heap.size≠K.g:=by
   obtain ⟨t',hs'⟩:=HR.out.src;have:=hs'.lt;omega
  have HRD:=Lib.hid hRd;have HNE:=Lib.hid hne;have hB:=body_ok W2.drew K.g a t K.S hs hRd.off k HKL.out X HBR.out.1 HBR.out.2;clear hs hRd hne
  go_upto_region 6 with fail
  go_region_held_law (fun w' => w'.cell? ⟨K.r,0,none⟩=some (.pointer (some ⟨K.g,0,none⟩))∧w'.cell? ⟨w.heap.size,7,none⟩=some (.int .i64 (k:Int))) (first | exact ⟨x0,z7⟩ | exact hS3)
   (first
    | (go_at_call 79
       refine hB.mono ?_
       rintro e w3 ⟨p,t',rfl,h2,h3,h4,h5⟩;have H3:=Lib.hid (HRD.out.moved h5 ⟨t',h4⟩);have HX3:Hid (Blk w3 w.heap.size 57 (headC h)):=Lib.hid ((HX2.out.drew).keptS h5 HNE.out);have HB3:=Lib.hid (And.intro h2 h3);have hS3:w3.cell? ⟨K.r,0,none⟩=some (.pointer (some ⟨K.g,0,none⟩))∧w3.cell? ⟨w.heap.size,7,none⟩=some (.int .i64 (k:Int)):=⟨H3.out.c0,by have:=HX3.out.cell 7;simp only [headC,List.getElem?_toArray,List.getElem?_cons_zero,List.getElem?_cons_succ,HSZ.out] at this;exact this⟩
       clear h2 h3 h4 h5))
  clear hB hS3 x0 z7;have k3:=HX3.out.cell 2;simp only [headC,List.getElem?_toArray,List.getElem?_cons_zero,List.getElem?_cons_succ,HKN.out] at k3;obtain rfl:kn=76:=by rw [← HKN.out,HKD.out];rfl
  go_upto_region 10 with fail
  go_wp2_with fail
  refine (cutP_any p k w3.heap.size X _ HXL.out (by have:=HKL.out;omega) (HB3.out.1.alloc _) (Blk.cell (Blk.new w3 5 #[.int .u8 0]) 0)).mono ?_
  rintro e w4 ⟨v2,v3,rfl,hk4⟩;have hb4:Below w3.heap.size w3 w4:=(Kept.trans ((Kept.refl noneB w3).alloc _) hk4).below (Nat.le_refl _) (fun _ h => h.elim)
  have H4:=Lib.hid (H3.out.below hb4);have HX4:Hid (Blk w4 w.heap.size 57 (headC h)):=Lib.hid (HX3.out.below hb4 HX3.out.lt)
  have hB4:BAt w4 p (untilB X).length (untilB X):=by
   have h1:=(HB3.out.1.below hb4).take (k:=(untilB X).length) (by rw [← HXL.out];exact (until_le X).1)
   rwa [(until_le X).2] at h1
  have HB4:=Lib.hid hB4;clear hk4 hb4 hB4 k3
  go_upto_region 11 with fail
  have k4:=HX4.out.cell 2;simp only [headC,List.getElem?_toArray,List.getElem?_cons_zero,List.getElem?_cons_succ,HKN.out] at k4;have x4:=H4.out.c2;have cv4:(convert 22 9 (.slice p (untilB X).length k)).run Tryz.prog w4=.ok (.string (str (untilB X))) w4:=conv_at HB4.out rfl _ _ _ Tryz.underlying22 Tryz.underlying5 Tryz.underlying9 _;have cv4d:(convert 22 9 (.slice p (untilB X).length k)).run Tryz.prog w4.drew=.ok (.string (str (untilB X))) w4.drew:=conv_at (HB4.out.below ((Below.refl _ _).drew)) rfl _ _ _ Tryz.underlying22 Tryz.underlying5 Tryz.underlying9 _
  go_still_tail 9,(by kernel_rfl)
  refine wpList_putK (K:=u8K) rfl (.tmp 58) (.tmp 60) (.tmp 63) rfl Tryz.underlying68 Tryz.underlying5 K.mw (H4.out.idle ((Kept.refl noneB w4).drew)).map rfl 76 rfl (.agg #[.string (str (untilB X)),.slice none 0 0]) rfl ?_
  intro w5 hm5 hk5 hs5;have HM:=Lib.hid (And.intro hm5 (And.intro hk5 hs5));clear hm5 hk5 hs5
  go_wp2
  go_ret
  exact ⟨rfl,mb,v,xs,q,n,c,(H4.out.idle ((Kept.refl noneB w4).drew)).waits HM.out.2.1.out (by rw [← put_name];exact HM.out.1.out) (H4.out.idle ((Kept.refl noneB w4).drew)).own rfl rfl H4.out.own0 H4.out.ol (fun t ht => by cases ht;have:=(until_le X).1;rw [HXL.out] at this;have:=HKL.out;omega) H4.out.ll⟩
set_option maxHeartbeats 4000000 in
theorem ext_link (hr:Rd w0 w K a s mb v xs q n c) (h:HeadV) (hw:waitF s q n c h.kind=none) (k:Nat) (hk0:h.size=(k:Int)) (hz:k≤1048576) (X:List UInt8) (hX:(K.S.bs.drop a).take k=X) (hl:a+padN k≤K.S.n) (hkd:h.kind=75) :
 Calls Tryz.prog 53 #[.pointer (some ⟨K.r,0,none⟩),.agg (headC h)] w fun e w' => e=.returned (.int .i64 0)∧Left w0 K (a+padN k) { s with link:=some (untilB X) } w':=by
 have HXL:Hid (X.length=k):=Lib.hid (by
  obtain ⟨t,hs⟩:=hr.src;have:=padN_ge k;have:=hs.len
  rw [← hX,List.length_take,List.length_drop];omega)
 have HBR:=Lib.hid (And.intro hX hl);have HKL:=Lib.hid hz;have HSZ:=Lib.hid hk0;have hlarge:¬ (1048576:Int) < (k:Int):=by omega
 clear hl hX hk0 hz;have HKD:=Lib.hid hkd;clear hkd;have HR:=Lib.hid hr;obtain ⟨kn,hkn⟩:∃ kn:Int,(h.kind.toNat:Int)=kn:=⟨_,rfl⟩;obtain ⟨W1,hW1⟩:∃ W1,w.alloc (.cells (headC h) 57)=W1:=⟨_,rfl⟩;have hB1:Below w.heap.size w W1:=by rw [← hW1];exact (Below.refl _ w).alloc (Nat.le_refl _) _
 have b1:Blk W1 w.heap.size 57 (headC h):=by rw [← hW1];exact Blk.new w _ _
 have R1:=hr.below hB1;have hB2:Below w.heap.size w (W1.alloc (.cells #[.string ⟨#[]⟩,.slice none 0 0] 133)):=hB1.alloc hB1.size _;have R2:=hr.below hB2;have l1:=look_ext (R1.idle ((Kept.refl noneB _).drew)).map h.kind kn hkn;have l2:=look_ext (R2.idle ((Kept.refl noneB _).drew)).map h.kind kn hkn;rw [hw] at l1 l2;simp only [Option.getD_none,Option.isSome_none] at l1 l2;have x2:=R1.c2;have k2:=b1.cell 2;simp only [headC,List.getElem?_toArray,List.getElem?_cons_zero,List.getElem?_cons_succ,hkn] at k2;have y2:=R2.c2;have j2:=(b1.alloc (.cells #[.string ⟨#[]⟩,.slice none 0 0] 133)).cell 2
 simp only [headC,List.getElem?_toArray,List.getElem?_cons_zero,List.getElem?_cons_succ,hkn] at j2;have HB1:=Lib.hid hB1;have HX:=Lib.hid b1;have HKN:=Lib.hid hkn;clear hr hw hkn R1 R2 b1 hB1 hB2
 go_enter Tryz.func53,Tryz.ntmps53
 go_upto_region 1 with fail
 clear hW1
 go_cut [5,6] from 13 to 22 (fun s5 s6 wx => s5=.pointer (some ⟨W1.heap.size,0,none⟩)∧s6=.bool false∧wx=(W1.alloc (.cells #[.string ⟨#[]⟩,.slice none 0 0] 133)).drew)
 case first =>
  go_region
  all_goals (go_wp2;go_meet;exact ⟨rfl,rfl,rfl⟩)
 case rest =>
  obtain ⟨rfl,rfl,rfl⟩:=hcut;clear l1 l2 x2 k2 y2 j2;have hB2:Below w.heap.size w (W1.alloc (.cells #[.string ⟨#[]⟩,.slice none 0 0] 133)).drew:=((HB1.out.alloc HB1.out.size _)).drew;have HX2:Hid (Blk (W1.alloc (.cells #[.string ⟨#[]⟩,.slice none 0 0] 133)).drew w.heap.size 57 (headC h)):=Lib.hid ((HX.out.alloc _).drew);obtain ⟨W2,hW2⟩:∃ W2,(W1.alloc (.cells #[.string ⟨#[]⟩,.slice none 0 0] 133)).drew=W2:=⟨_,rfl⟩;rw [hW2] at hB2 HX2 ⊢;clear hW2;have HB2:=Lib.hid hB2;have HR2:=Lib.hid (HR.out.below hB2);clear hB2 HB1 HX;have x0:=HR2.out.c0;have z7:=HX2.out.cell 7
  simp only [headC,List.getElem?_toArray,List.getElem?_cons_zero,List.getElem?_cons_succ,HSZ.out] at z7;have hRd:=HR2.out.idle ((Kept.refl noneB W2).drew);obtain ⟨t,hs⟩:=hRd.src
  have hne:w.heap.size≠K.g:=by
   obtain ⟨t',hs'⟩:=HR.out.src;have:=hs'.lt;omega
  have HRD:=Lib.hid hRd;have HNE:=Lib.hid hne;have hB:=body_ok W2.drew K.g a t K.S hs hRd.off k HKL.out X HBR.out.1 HBR.out.2;clear hs hRd hne
  go_upto_region 6 with fail
  go_region_held_law (fun w' => w'.cell? ⟨K.r,0,none⟩=some (.pointer (some ⟨K.g,0,none⟩))∧w'.cell? ⟨w.heap.size,7,none⟩=some (.int .i64 (k:Int))) (first | exact ⟨x0,z7⟩ | exact hS3)
   (first
    | (go_at_call 79
       refine hB.mono ?_
       rintro e w3 ⟨p,t',rfl,h2,h3,h4,h5⟩;have H3:=Lib.hid (HRD.out.moved h5 ⟨t',h4⟩);have HX3:Hid (Blk w3 w.heap.size 57 (headC h)):=Lib.hid ((HX2.out.drew).keptS h5 HNE.out);have HB3:=Lib.hid (And.intro h2 h3);have hS3:w3.cell? ⟨K.r,0,none⟩=some (.pointer (some ⟨K.g,0,none⟩))∧w3.cell? ⟨w.heap.size,7,none⟩=some (.int .i64 (k:Int)):=⟨H3.out.c0,by have:=HX3.out.cell 7;simp only [headC,List.getElem?_toArray,List.getElem?_cons_zero,List.getElem?_cons_succ,HSZ.out] at this;exact this⟩
       clear h2 h3 h4 h5))
  clear hB hS3 x0 z7;have k3:=HX3.out.cell 2;simp only [headC,List.getElem?_toArray,List.getElem?_cons_zero,List.getElem?_cons_succ,HKN.out] at k3;obtain rfl:kn=75:=by rw [← HKN.out,HKD.out];rfl
  go_upto_region 10 with fail
  go_wp2_with fail
  refine (cutP_any p k w3.heap.size X _ HXL.out (by have:=HKL.out;omega) (HB3.out.1.alloc _) (Blk.cell (Blk.new w3 5 #[.int .u8 0]) 0)).mono ?_
  rintro e w4 ⟨v2,v3,rfl,hk4⟩;have hb4:Below w3.heap.size w3 w4:=(Kept.trans ((Kept.refl noneB w3).alloc _) hk4).below (Nat.le_refl _) (fun _ h => h.elim)
  have H4:=Lib.hid (H3.out.below hb4);have HX4:Hid (Blk w4 w.heap.size 57 (headC h)):=Lib.hid (HX3.out.below hb4 HX3.out.lt)
  have hB4:BAt w4 p (untilB X).length (untilB X):=by
   have h1:=(HB3.out.1.below hb4).take (k:=(untilB X).length) (by rw [← HXL.out];exact (until_le X).1)
   rwa [(until_le X).2] at h1
  have HB4:=Lib.hid hB4;clear hk4 hb4 hB4 k3
  go_upto_region 11 with fail
  have k4:=HX4.out.cell 2;simp only [headC,List.getElem?_toArray,List.getElem?_cons_zero,List.getElem?_cons_succ,HKN.out] at k4;have x4:=H4.out.c2;have cv4:(convert 22 9 (.slice p (untilB X).length k)).run Tryz.prog w4=.ok (.string (str (untilB X))) w4:=conv_at HB4.out rfl _ _ _ Tryz.underlying22 Tryz.underlying5 Tryz.underlying9 _;have cv4d:(convert 22 9 (.slice p (untilB X).length k)).run Tryz.prog w4.drew=.ok (.string (str (untilB X))) w4.drew:=conv_at (HB4.out.below ((Below.refl _ _).drew)) rfl _ _ _ Tryz.underlying22 Tryz.underlying5 Tryz.underlying9 _
  go_still_tail 9,(by kernel_rfl)
  refine wpList_putK (K:=u8K) rfl (.tmp 58) (.tmp 60) (.tmp 63) rfl Tryz.underlying68 Tryz.underlying5 K.mw (H4.out.idle ((Kept.refl noneB w4).drew)).map rfl 75 rfl (.agg #[.string (str (untilB X)),.slice none 0 0]) rfl ?_
  intro w5 hm5 hk5 hs5;have HM:=Lib.hid (And.intro hm5 (And.intro hk5 hs5));clear hm5 hk5 hs5
  go_wp2
  go_ret
  exact ⟨rfl,mb,v,xs,q,n,c,(H4.out.idle ((Kept.refl noneB w4).drew)).waits HM.out.2.1.out (by rw [← put_link];exact HM.out.1.out) (H4.out.idle ((Kept.refl noneB w4).drew)).own rfl rfl H4.out.own0 H4.out.ol H4.out.nl (fun t ht => by cases ht;have:=(until_le X).1;rw [HXL.out] at this;have:=HKL.out;omega)⟩
end
end Go.Proofs.YtdjedimjhogdoaaGreatDoor.Mem
end
section
namespace Go.Proofs.YtdjedimjhogdoaaGreatDoor.Mem
open Go.ChangeShapes Go.WideShapes Go.ChangeAt Go.RowKit Base Byt Txt Bk Mk Block Hp Head Attr Rec Go.Lib Go.Shelf
set_option linter.unusedVariables false
set_option maxRecDepth 100000
section
variable {w0 w w':World} {K:RK} {a:Nat} {s:RS} {mb:Option Nat} {v:Value} {xs:List MP} {q:Option Addr} {n c:Nat}
set_option maxHeartbeats 4000000 in
theorem ext_recbad (hr:Rd w0 w K a s mb v xs q n c) (h:HeadV) (hw:waitF s q n c h.kind=none) (k:Nat) (hk0:h.size=(k:Int)) (hz:k≤1048576) (X:List UInt8) (hX:(K.S.bs.drop a).take k=X) (hl:a+padN k≤K.S.n) (E:Int) (hE:(recsD 5 9 X).2=E) (hE0:E≠0) (hnk:(h.kind.toNat:Int)≠76∧(h.kind.toNat:Int)≠75) (hN:Need w0) :
 Calls Tryz.prog 53 #[.pointer (some ⟨K.r,0,none⟩),.agg (headC h)] w fun e w' => e=.returned (.int .i64 E)∧Below w0.heap.size w0 w':=by
 have HXL:Hid (X.length=k):=Lib.hid (by
  obtain ⟨t,hs⟩:=hr.src;have:=padN_ge k;have:=hs.len
  rw [← hX,List.length_take,List.length_drop];omega)
 have HBR:=Lib.hid (And.intro hX hl);have HKL:=Lib.hid hz;have HSZ:=Lib.hid hk0;have hlarge:¬ (1048576:Int) < (k:Int):=by omega
 clear hl hX hk0 hz;have HEE:=Lib.hid hE;have HE0:=Lib.hid hE0;have HNK:=Lib.hid hnk;have HND:=Lib.hid hN;clear hE hE0 hnk hN;have HR:=Lib.hid hr;obtain ⟨kn,hkn⟩:∃ kn:Int,(h.kind.toNat:Int)=kn:=⟨_,rfl⟩;obtain ⟨W1,hW1⟩:∃ W1,w.alloc (.cells (headC h) 57)=W1:=⟨_,rfl⟩;have hB1:Below w.heap.size w W1:=by rw [← hW1];exact (Below.refl _ w).alloc (Nat.le_refl _) _
 have b1:Blk W1 w.heap.size 57 (headC h):=by rw [← hW1];exact Blk.new w _ _
 have R1:=hr.below hB1;have hB2:Below w.heap.size w (W1.alloc (.cells #[.string ⟨#[]⟩,.slice none 0 0] 133)):=hB1.alloc hB1.size _;have R2:=hr.below hB2;have l1:=look_ext (R1.idle ((Kept.refl noneB _).drew)).map h.kind kn hkn;have l2:=look_ext (R2.idle ((Kept.refl noneB _).drew)).map h.kind kn hkn;rw [hw] at l1 l2;simp only [Option.getD_none,Option.isSome_none] at l1 l2;have x2:=R1.c2;have k2:=b1.cell 2;simp only [headC,List.getElem?_toArray,List.getElem?_cons_zero,List.getElem?_cons_succ,hkn] at k2;have y2:=R2.c2;have j2:=(b1.alloc (.cells #[.string ⟨#[]⟩,.slice none 0 0] 133)).cell 2
 simp only [headC,List.getElem?_toArray,List.getElem?_cons_zero,List.getElem?_cons_succ,hkn] at j2;have HB1:=Lib.hid hB1;have HX:=Lib.hid b1;have HKN:=Lib.hid hkn;clear hr hw hkn R1 R2 b1 hB1 hB2
 go_enter Tryz.func53,Tryz.ntmps53
 go_upto_region 1 with fail
 clear hW1
 go_cut [5,6] from 13 to 22 (fun s5 s6 wx => s5=.pointer (some ⟨W1.heap.size,0,none⟩)∧s6=.bool false∧wx=(W1.alloc (.cells #[.string ⟨#[]⟩,.slice none 0 0] 133)).drew)
 case first =>
  go_region
  all_goals (go_wp2;go_meet;exact ⟨rfl,rfl,rfl⟩)
 case rest =>
  obtain ⟨rfl,rfl,rfl⟩:=hcut;clear l1 l2 x2 k2 y2 j2;have hB2:Below w.heap.size w (W1.alloc (.cells #[.string ⟨#[]⟩,.slice none 0 0] 133)).drew:=((HB1.out.alloc HB1.out.size _)).drew;have HX2:Hid (Blk (W1.alloc (.cells #[.string ⟨#[]⟩,.slice none 0 0] 133)).drew w.heap.size 57 (headC h)):=Lib.hid ((HX.out.alloc _).drew);obtain ⟨W2,hW2⟩:∃ W2,(W1.alloc (.cells #[.string ⟨#[]⟩,.slice none 0 0] 133)).drew=W2:=⟨_,rfl⟩;rw [hW2] at hB2 HX2 ⊢;clear hW2;have HB2:=Lib.hid hB2;have HR2:=Lib.hid (HR.out.below hB2);clear hB2 HB1 HX;have x0:=HR2.out.c0;have z7:=HX2.out.cell 7
  simp only [headC,List.getElem?_toArray,List.getElem?_cons_zero,List.getElem?_cons_succ,HSZ.out] at z7;have hRd:=HR2.out.idle ((Kept.refl noneB W2).drew);obtain ⟨t,hs⟩:=hRd.src
  have hne:w.heap.size≠K.g:=by
   obtain ⟨t',hs'⟩:=HR.out.src;have:=hs'.lt;omega
  have HRD:=Lib.hid hRd;have HNE:=Lib.hid hne;have hB:=body_ok W2.drew K.g a t K.S hs hRd.off k HKL.out X HBR.out.1 HBR.out.2;clear hs hRd hne
  go_upto_region 6 with fail
  go_region_held_law (fun w' => w'.cell? ⟨K.r,0,none⟩=some (.pointer (some ⟨K.g,0,none⟩))∧w'.cell? ⟨w.heap.size,7,none⟩=some (.int .i64 (k:Int))) (first | exact ⟨x0,z7⟩ | exact hS3)
   (first
    | (go_at_call 79
       refine hB.mono ?_
       rintro e w3 ⟨p,t',rfl,h2,h3,h4,h5⟩;have H3:=Lib.hid (HRD.out.moved h5 ⟨t',h4⟩);have HX3:Hid (Blk w3 w.heap.size 57 (headC h)):=Lib.hid ((HX2.out.drew).keptS h5 HNE.out);have HB3:=Lib.hid (And.intro h2 h3);have hS3:w3.cell? ⟨K.r,0,none⟩=some (.pointer (some ⟨K.g,0,none⟩))∧w3.cell? ⟨w.heap.size,7,none⟩=some (.int .i64 (k:Int)):=⟨H3.out.c0,by have:=HX3.out.cell 7;simp only [headC,List.getElem?_toArray,List.getElem?_cons_zero,List.getElem?_cons_succ,HSZ.out] at this;exact this⟩
       clear h2 h3 h4 h5))
  clear hB hS3 x0 z7;have k3:=HX3.out.cell 2;simp only [headC,List.getElem?_toArray,List.getElem?_cons_zero,List.getElem?_cons_succ,HKN.out] at k3;have e1:(kn == 76)=false:=by have:=HNK.out.1;rw [HKN.out] at this;simpa using this
  have e2:(kn == 75)=false:=by have:=HNK.out.2;rw [HKN.out] at this;simpa using this
  go_upto_region 13 with fail
  go_wp2_with fail
  refine (recParse_any p k k X w3 HXL.out (Nat.le_refl _) (by have:=HKL.out;omega) HB3.out.1 (H3.out.need HND.out)).mono ?_
  rintro e w4 ⟨p4,c4,rfl,_,_,hr4,hb4⟩;obtain ⟨⟨rs,er⟩,hrs⟩:∃ x,recsD 5 9 X=x:=⟨_,rfl⟩;have hlen:=recsD_len 5 9 X;rw [hrs] at hr4 hlen;simp only [hrs];rw [HXL.out] at hlen;have HRS:Hid (recsD 5 9 X=(rs,er)):=Lib.hid hrs;obtain ⟨rl,hrl⟩:∃ rl,rs.length=rl:=⟨_,rfl⟩;simp only [hrl] at hr4 ⊢;have H4:=Lib.hid (H3.out.below hb4);have HX4:Hid (Blk w4 w.heap.size 57 (headC h)):=Lib.hid (HX3.out.below hb4 HX3.out.lt);have HR4:=Lib.hid hr4;have HLN:=Lib.hid hlen;have HRLN:=Lib.hid hrl;clear hr4 hlen hb4 hrs hrl k3;obtain rfl:er=E:=by have:=HEE.out;rw [HRS.out] at this;exact this
  have hne0:(er != 0)=true:=by simpa using HE0.out
  go_wp2
  go_ret
  exact ⟨rfl,H4.out.bel⟩
set_option maxHeartbeats 4000000 in
theorem ext_glob (hr:Rd w0 w K a s mb v xs q n c) (h:HeadV) (hw:waitF s q n c h.kind=none) (k:Nat) (hk0:h.size=(k:Int)) (hz:k≤1048576) (X:List UInt8) (hX:(K.S.bs.drop a).take k=X) (hl:a+padN k≤K.S.n) (R:RecL) (hR:recsD 5 9 X=(R,0)) (hkd:h.kind=103) (hN:Need w0) :
 Calls Tryz.prog 53 #[.pointer (some ⟨K.r,0,none⟩),.agg (headC h)] w fun e w' => e=.returned (.int .i64 0)∧Left w0 K (a+padN k) { s with glob:=s.glob++R } w':=by
 have HXL:Hid (X.length=k):=Lib.hid (by
  obtain ⟨t,hs⟩:=hr.src;have:=padN_ge k;have:=hs.len
  rw [← hX,List.length_take,List.length_drop];omega)
 have HBR:=Lib.hid (And.intro hX hl);have HKL:=Lib.hid hz;have HSZ:=Lib.hid hk0;have hlarge:¬ (1048576:Int) < (k:Int):=by omega
 clear hl hX hk0 hz;have HEE:=Lib.hid hR;have HKD:=Lib.hid hkd;have HND:=Lib.hid hN;clear hR hkd hN;have HR:=Lib.hid hr;obtain ⟨kn,hkn⟩:∃ kn:Int,(h.kind.toNat:Int)=kn:=⟨_,rfl⟩;obtain ⟨W1,hW1⟩:∃ W1,w.alloc (.cells (headC h) 57)=W1:=⟨_,rfl⟩;have hB1:Below w.heap.size w W1:=by rw [← hW1];exact (Below.refl _ w).alloc (Nat.le_refl _) _
 have b1:Blk W1 w.heap.size 57 (headC h):=by rw [← hW1];exact Blk.new w _ _
 have R1:=hr.below hB1;have hB2:Below w.heap.size w (W1.alloc (.cells #[.string ⟨#[]⟩,.slice none 0 0] 133)):=hB1.alloc hB1.size _;have R2:=hr.below hB2;have l1:=look_ext (R1.idle ((Kept.refl noneB _).drew)).map h.kind kn hkn;have l2:=look_ext (R2.idle ((Kept.refl noneB _).drew)).map h.kind kn hkn;rw [hw] at l1 l2;simp only [Option.getD_none,Option.isSome_none] at l1 l2;have x2:=R1.c2;have k2:=b1.cell 2;simp only [headC,List.getElem?_toArray,List.getElem?_cons_zero,List.getElem?_cons_succ,hkn] at k2;have y2:=R2.c2;have j2:=(b1.alloc (.cells #[.string ⟨#[]⟩,.slice none 0 0] 133)).cell 2
 simp only [headC,List.getElem?_toArray,List.getElem?_cons_zero,List.getElem?_cons_succ,hkn] at j2;have HB1:=Lib.hid hB1;have HX:=Lib.hid b1;have HKN:=Lib.hid hkn;clear hr hw hkn R1 R2 b1 hB1 hB2
 go_enter Tryz.func53,Tryz.ntmps53
 go_upto_region 1 with fail
 clear hW1
 go_cut [5,6] from 13 to 22 (fun s5 s6 wx => s5=.pointer (some ⟨W1.heap.size,0,none⟩)∧s6=.bool false∧wx=(W1.alloc (.cells #[.string ⟨#[]⟩,.slice none 0 0] 133)).drew)
 case first =>
  go_region
  all_goals (go_wp2;go_meet;exact ⟨rfl,rfl,rfl⟩)
 case rest =>
  obtain ⟨rfl,rfl,rfl⟩:=hcut;clear l1 l2 x2 k2 y2 j2;have hB2:Below w.heap.size w (W1.alloc (.cells #[.string ⟨#[]⟩,.slice none 0 0] 133)).drew:=((HB1.out.alloc HB1.out.size _)).drew;have HX2:Hid (Blk (W1.alloc (.cells #[.string ⟨#[]⟩,.slice none 0 0] 133)).drew w.heap.size 57 (headC h)):=Lib.hid ((HX.out.alloc _).drew);obtain ⟨W2,hW2⟩:∃ W2,(W1.alloc (.cells #[.string ⟨#[]⟩,.slice none 0 0] 133)).drew=W2:=⟨_,rfl⟩;rw [hW2] at hB2 HX2 ⊢;clear hW2;have HB2:=Lib.hid hB2;have HR2:=Lib.hid (HR.out.below hB2);clear hB2 HB1 HX;have x0:=HR2.out.c0;have z7:=HX2.out.cell 7
  simp only [headC,List.getElem?_toArray,List.getElem?_cons_zero,List.getElem?_cons_succ,HSZ.out] at z7;have hRd:=HR2.out.idle ((Kept.refl noneB W2).drew);obtain ⟨t,hs⟩:=hRd.src
  have hne:w.heap.size≠K.g:=by
   obtain ⟨t',hs'⟩:=HR.out.src;have:=hs'.lt;omega
  have HRD:=Lib.hid hRd;have HNE:=Lib.hid hne;have hB:=body_ok W2.drew K.g a t K.S hs hRd.off k HKL.out X HBR.out.1 HBR.out.2;clear hs hRd hne
  go_upto_region 6 with fail
  go_region_held_law (fun w' => w'.cell? ⟨K.r,0,none⟩=some (.pointer (some ⟨K.g,0,none⟩))∧w'.cell? ⟨w.heap.size,7,none⟩=some (.int .i64 (k:Int))) (first | exact ⟨x0,z7⟩ | exact hS3)
   (first
    | (go_at_call 79
       refine hB.mono ?_
       rintro e w3 ⟨p,t',rfl,h2,h3,h4,h5⟩;have H3:=Lib.hid (HRD.out.moved h5 ⟨t',h4⟩);have HX3:Hid (Blk w3 w.heap.size 57 (headC h)):=Lib.hid ((HX2.out.drew).keptS h5 HNE.out);have HB3:=Lib.hid (And.intro h2 h3);have hS3:w3.cell? ⟨K.r,0,none⟩=some (.pointer (some ⟨K.g,0,none⟩))∧w3.cell? ⟨w.heap.size,7,none⟩=some (.int .i64 (k:Int)):=⟨H3.out.c0,by have:=HX3.out.cell 7;simp only [headC,List.getElem?_toArray,List.getElem?_cons_zero,List.getElem?_cons_succ,HSZ.out] at this;exact this⟩
       clear h2 h3 h4 h5))
  clear hB hS3 x0 z7;have k3:=HX3.out.cell 2;simp only [headC,List.getElem?_toArray,List.getElem?_cons_zero,List.getElem?_cons_succ,HKN.out] at k3;obtain rfl:kn=103:=by rw [← HKN.out,HKD.out];rfl
  go_upto_region 13 with fail
  go_wp2_with fail
  refine (recParse_any p k k X w3 HXL.out (Nat.le_refl _) (by have:=HKL.out;omega) HB3.out.1 (H3.out.need HND.out)).mono ?_
  rintro e w4 ⟨p4,c4,rfl,_,_,hr4,hb4⟩;obtain ⟨⟨rs,er⟩,hrs⟩:∃ x,recsD 5 9 X=x:=⟨_,rfl⟩;have hlen:=recsD_len 5 9 X;rw [hrs] at hr4 hlen;simp only [hrs];rw [HXL.out] at hlen;have HRS:Hid (recsD 5 9 X=(rs,er)):=Lib.hid hrs;obtain ⟨rl,hrl⟩:∃ rl,rs.length=rl:=⟨_,rfl⟩;simp only [hrl] at hr4 ⊢;have H4:=Lib.hid (H3.out.below hb4);have HX4:Hid (Blk w4 w.heap.size 57 (headC h)):=Lib.hid (HX3.out.below hb4 HX3.out.lt);have HR4:=Lib.hid hr4;have HLN:=Lib.hid hlen;have HRLN:=Lib.hid hrl;clear hr4 hlen hb4 hrs hrl k3;obtain rfl:er=0:=by have:=HEE.out;rw [HRS.out] at this;exact congrArg Prod.snd this
  obtain rfl:rs=R:=by have:=HEE.out;rw [HRS.out] at this;exact congrArg Prod.fst this
  have k4:=HX4.out.cell 2;simp only [headC,List.getElem?_toArray,List.getElem?_cons_zero,List.getElem?_cons_succ,HKN.out] at k4;have x1:=H4.out.c1
  go_wp2_with fail
  refine (show Calls _ _ _ _ (GlobPost _ K.gs mb (lastD s.glob) rs) from global_any K.gs mb (lastD s.glob) p4 rl _ rs _ H4.out.st (by have:=HLN.out.2;rw [HRLN.out] at this;have:=HKL.out;omega) HR4.out).mono ?_
  rintro e w5 ⟨rfl,B,hs5,hk5,hB5⟩;have F:=Lib.hid (H4.out.globs hs5 hk5 hB5 (fun r hr => by have:=HLN.out.1 r hr;have:=HKL.out;omega))
  clear hs5 hk5 hB5 k4 x1
  go_wp2
  go_ret
  exact ⟨rfl,some B,v,xs,q,n,c,F.out⟩
set_option maxHeartbeats 4000000 in
theorem ext_own (hr:Rd w0 w K a s mb v xs q n c) (h:HeadV) (hw:waitF s q n c h.kind=none) (k:Nat) (hk0:h.size=(k:Int)) (hz:k≤1048576) (X:List UInt8) (hX:(K.S.bs.drop a).take k=X) (hl:a+padN k≤K.S.n) (R:RecL) (hR:recsD 5 9 X=(R,0)) (hkd:h.kind=120) (hN:Need w0) :
 Calls Tryz.prog 53 #[.pointer (some ⟨K.r,0,none⟩),.agg (headC h)] w fun e w' => e=.returned (.int .i64 0)∧Left w0 K (a+padN k) { s with hasX:=true,own:=R } w':=by
 have HXL:Hid (X.length=k):=Lib.hid (by
  obtain ⟨t,hs⟩:=hr.src;have:=padN_ge k;have:=hs.len
  rw [← hX,List.length_take,List.length_drop];omega)
 have HBR:=Lib.hid (And.intro hX hl);have HKL:=Lib.hid hz;have HSZ:=Lib.hid hk0;have hlarge:¬ (1048576:Int) < (k:Int):=by omega
 clear hl hX hk0 hz;have HEE:=Lib.hid hR;have HKD:=Lib.hid hkd;have HND:=Lib.hid hN;clear hR hkd hN;have HR:=Lib.hid hr;obtain ⟨kn,hkn⟩:∃ kn:Int,(h.kind.toNat:Int)=kn:=⟨_,rfl⟩;obtain ⟨W1,hW1⟩:∃ W1,w.alloc (.cells (headC h) 57)=W1:=⟨_,rfl⟩;have hB1:Below w.heap.size w W1:=by rw [← hW1];exact (Below.refl _ w).alloc (Nat.le_refl _) _
 have b1:Blk W1 w.heap.size 57 (headC h):=by rw [← hW1];exact Blk.new w _ _
 have R1:=hr.below hB1;have hB2:Below w.heap.size w (W1.alloc (.cells #[.string ⟨#[]⟩,.slice none 0 0] 133)):=hB1.alloc hB1.size _;have R2:=hr.below hB2;have l1:=look_ext (R1.idle ((Kept.refl noneB _).drew)).map h.kind kn hkn;have l2:=look_ext (R2.idle ((Kept.refl noneB _).drew)).map h.kind kn hkn;rw [hw] at l1 l2;simp only [Option.getD_none,Option.isSome_none] at l1 l2;have x2:=R1.c2;have k2:=b1.cell 2;simp only [headC,List.getElem?_toArray,List.getElem?_cons_zero,List.getElem?_cons_succ,hkn] at k2;have y2:=R2.c2;have j2:=(b1.alloc (.cells #[.string ⟨#[]⟩,.slice none 0 0] 133)).cell 2
 simp only [headC,List.getElem?_toArray,List.getElem?_cons_zero,List.getElem?_cons_succ,hkn] at j2;have HB1:=Lib.hid hB1;have HX:=Lib.hid b1;have HKN:=Lib.hid hkn;clear hr hw hkn R1 R2 b1 hB1 hB2
 go_enter Tryz.func53,Tryz.ntmps53
 go_upto_region 1 with fail
 clear hW1
 go_cut [5,6] from 13 to 22 (fun s5 s6 wx => s5=.pointer (some ⟨W1.heap.size,0,none⟩)∧s6=.bool false∧wx=(W1.alloc (.cells #[.string ⟨#[]⟩,.slice none 0 0] 133)).drew)
 case first =>
  go_region
  all_goals (go_wp2;go_meet;exact ⟨rfl,rfl,rfl⟩)
 case rest =>
  obtain ⟨rfl,rfl,rfl⟩:=hcut;clear l1 l2 x2 k2 y2 j2;have hB2:Below w.heap.size w (W1.alloc (.cells #[.string ⟨#[]⟩,.slice none 0 0] 133)).drew:=((HB1.out.alloc HB1.out.size _)).drew;have HX2:Hid (Blk (W1.alloc (.cells #[.string ⟨#[]⟩,.slice none 0 0] 133)).drew w.heap.size 57 (headC h)):=Lib.hid ((HX.out.alloc _).drew);obtain ⟨W2,hW2⟩:∃ W2,(W1.alloc (.cells #[.string ⟨#[]⟩,.slice none 0 0] 133)).drew=W2:=⟨_,rfl⟩;rw [hW2] at hB2 HX2 ⊢;clear hW2;have HB2:=Lib.hid hB2;have HR2:=Lib.hid (HR.out.below hB2);clear hB2 HB1 HX;have x0:=HR2.out.c0;have z7:=HX2.out.cell 7
  simp only [headC,List.getElem?_toArray,List.getElem?_cons_zero,List.getElem?_cons_succ,HSZ.out] at z7;have hRd:=HR2.out.idle ((Kept.refl noneB W2).drew);obtain ⟨t,hs⟩:=hRd.src
  have hne:w.heap.size≠K.g:=by
   obtain ⟨t',hs'⟩:=HR.out.src;have:=hs'.lt;omega
  have HRD:=Lib.hid hRd;have HNE:=Lib.hid hne;have hB:=body_ok W2.drew K.g a t K.S hs hRd.off k HKL.out X HBR.out.1 HBR.out.2;clear hs hRd hne
  go_upto_region 6 with fail
  go_region_held_law (fun w' => w'.cell? ⟨K.r,0,none⟩=some (.pointer (some ⟨K.g,0,none⟩))∧w'.cell? ⟨w.heap.size,7,none⟩=some (.int .i64 (k:Int))) (first | exact ⟨x0,z7⟩ | exact hS3)
   (first
    | (go_at_call 79
       refine hB.mono ?_
       rintro e w3 ⟨p,t',rfl,h2,h3,h4,h5⟩;have H3:=Lib.hid (HRD.out.moved h5 ⟨t',h4⟩);have HX3:Hid (Blk w3 w.heap.size 57 (headC h)):=Lib.hid ((HX2.out.drew).keptS h5 HNE.out);have HB3:=Lib.hid (And.intro h2 h3);have hS3:w3.cell? ⟨K.r,0,none⟩=some (.pointer (some ⟨K.g,0,none⟩))∧w3.cell? ⟨w.heap.size,7,none⟩=some (.int .i64 (k:Int)):=⟨H3.out.c0,by have:=HX3.out.cell 7;simp only [headC,List.getElem?_toArray,List.getElem?_cons_zero,List.getElem?_cons_succ,HSZ.out] at this;exact this⟩
       clear h2 h3 h4 h5))
  clear hB hS3 x0 z7;have k3:=HX3.out.cell 2;simp only [headC,List.getElem?_toArray,List.getElem?_cons_zero,List.getElem?_cons_succ,HKN.out] at k3;obtain rfl:kn=120:=by rw [← HKN.out,HKD.out];rfl
  go_upto_region 13 with fail
  go_wp2_with fail
  refine (recParse_any p k k X w3 HXL.out (Nat.le_refl _) (by have:=HKL.out;omega) HB3.out.1 (H3.out.need HND.out)).mono ?_
  rintro e w4 ⟨p4,c4,rfl,_,_,hr4,hb4⟩;obtain ⟨⟨rs,er⟩,hrs⟩:∃ x,recsD 5 9 X=x:=⟨_,rfl⟩;have hlen:=recsD_len 5 9 X;rw [hrs] at hr4 hlen;simp only [hrs];rw [HXL.out] at hlen;have HRS:Hid (recsD 5 9 X=(rs,er)):=Lib.hid hrs;obtain ⟨rl,hrl⟩:∃ rl,rs.length=rl:=⟨_,rfl⟩;simp only [hrl] at hr4 ⊢;have H4:=Lib.hid (H3.out.below hb4);have HX4:Hid (Blk w4 w.heap.size 57 (headC h)):=Lib.hid (HX3.out.below hb4 HX3.out.lt);have HR4:=Lib.hid hr4;have HLN:=Lib.hid hlen;have HRLN:=Lib.hid hrl;clear hr4 hlen hb4 hrs hrl k3;obtain rfl:er=0:=by have:=HEE.out;rw [HRS.out] at this;exact congrArg Prod.snd this
  obtain rfl:rs=R:=by have:=HEE.out;rw [HRS.out] at this;exact congrArg Prod.fst this
  have k4:=HX4.out.cell 2;simp only [headC,List.getElem?_toArray,List.getElem?_cons_zero,List.getElem?_cons_succ,HKN.out] at k4
  go_upto_region 19 with fail
  have x4:=H4.out.c2
  go_still_tail 8,(by kernel_rfl)
  refine wpList_putK (K:=u8K) rfl (.tmp 84) (.tmp 86) (.tmp 88) rfl Tryz.underlying68 Tryz.underlying5 K.mw (H4.out.idle ((Kept.refl noneB w4).drew)).map rfl 120 rfl (.agg #[.string ⟨#[]⟩,.slice p4 rl c4]) rfl ?_
  intro w5 hm5 hk5 hs5;have HM:=Lib.hid (And.intro hm5 (And.intro hk5 hs5));clear hm5 hk5 hs5
  go_wp2
  go_ret
  exact ⟨rfl,mb,v,xs,p4,rl,c4,(H4.out.idle ((Kept.refl noneB w4).drew)).waits HM.out.2.1.out (by rw [← put_own s q p4 n c rl c4 rs];exact HM.out.1.out) (recsAt_kept HR4.out ((Kept.refl noneB w4).drew) (fun _ _ _ => id)) rfl rfl (fun h => by cases h) ⟨fun r hr => by have:=HLN.out.1 r hr;have:=HKL.out;omega,by show rs.length≤1048576;have:=HLN.out.2;have:=HKL.out;omega⟩ H4.out.nl H4.out.ll⟩
end
end Go.Proofs.YtdjedimjhogdoaaGreatDoor.Mem
end
section
namespace Go.Proofs.YtdjedimjhogdoaaGreatDoor.Path
open Go.ChangeShapes Go.WideShapes Go.ChangeAt Go.RowKit Go.Shelf Base Byt Txt Go.Lib Num
set_option linter.unusedVariables false
set_option maxRecDepth 100000
attribute [local go_sem] Oper.semAt_some
theorem abides_drewN {β:Type} {B:Nat} {J:β → World → Prop} (h:AbidesFrom B J) {s:β} {w:World} (hs:J s w) (n:Nat):J s (w.drewN n):=
 match n with
 | 0 => hs
 | n+1 => h s (w.drewN n) _ none (abides_drewN h hs n) ⟨rfl,rfl,rfl,Nat.le_refl _,fun _ _ _ => rfl⟩ (fun r e => by cases e)
def leftL (m:Bool) (l:List UInt8):List (List UInt8):=if m then partsL l else []
theorem left_cut (l:List UInt8):leftL true l=(cutL l).1 :: leftL (cutL l).2.2 (cutL l).2.1:=by
 unfold leftL cutL;rw [if_pos rfl];obtain ⟨h1,h2⟩:=parts_cut l
 by_cases h:0≤Lib.indexByte l 47
 ·rw [if_pos h,h1 h]
  simp
 ·rw [if_neg h,h2 h]
  simp
theorem cut_less (l:List UInt8):(cutL l).2.1.length+(if (cutL l).2.2 then 1 else 0) < l.length+1:=by
 unfold cutL
 by_cases h:0≤Lib.indexByte l 47
 ·rw [if_pos h]
  obtain ⟨k,hk⟩:∃ k:Nat,Lib.indexByte l 47=k:=⟨(Lib.indexByte l 47).toNat,by omega⟩
  have hlt:=(List.getElem?_eq_some_iff.1 (Lib.indexByte_some hk).1).1;simp only [List.length_drop,hk,Int.toNat_natCast,if_true];omega
 ·rw [if_neg h]
  simp
def leftN (r m:Value):Nat:=(match r with | .string s => s.size | _ => 0)+(match m with | .bool true => 1 | _ => 0)
abbrev Part:={ x:List UInt8 // x.length≤1000000000000 }
theorem parts_len (l:List UInt8):∀ p ∈ partsL l,p.length≤l.length:=by
 induction l with
 | nil => simp [partsL]
 | cons b l ih =>
   unfold partsL
   by_cases hb:b=47
   ·rw [if_pos hb]
    intro p hp;rcases List.mem_cons.1 hp with rfl | hp
    ·simp
    ·have:=ih p hp;rw [List.length_cons];omega
   ·rw [if_neg hb]
    cases hq:partsL l with
    | nil => exact absurd hq (parts_ne l)
    | cons q qs =>
      rw [hq] at ih;intro p hp;rcases List.mem_cons.1 hp with rfl | hp
      ·have:=ih q (by simp)
       simp only [List.headD_cons,List.length_cons];omega
      ·have:=ih p (List.mem_cons_of_mem _ hp);rw [List.length_cons];omega
theorem some_parts (s:List UInt8) (hm:s.length≤1000000000000):∃ ps:List Part,ps.map (·.1)=partsL s:=by
 refine ⟨(partsL s).attachWith _ (fun p hp => Nat.le_trans (parts_len s p hp) hm),?_⟩
 simp
set_option maxHeartbeats 1000000 in
theorem seq_in (F:Fence) (n:Nat) (hF:F=Fence.wide) (hn:1≤n) (l Bn:Nat) (s:List UInt8) (hm:s.length≤1000000000000) (ps:List Part) (hps:ps.map (·.1)=partsL s) (J Jx:List Part → World → Prop) (B:Nat) (hJ:AbidesFrom B J)
 (hY:∀ pre x W,J pre W → pre.length < ps.length → YieldAt F (n - 1) Tryz.prog l #[.string (str x.1)] W fun e W' =>
  (e=.returned (.bool true)∧J (pre++[x]) W'∧True) ∨ (e=.returned (.bool false)∧Jx (pre++[x]) W'))
 (W:World) (hBn:W.cell? ⟨Bn,0,none⟩=some (.string (str s))) (h0:J [] W) :
 CallsIn F n Tryz.prog 112 #[.func (.yield l) #[] #[],.pointer (some ⟨Bn,0,none⟩)] W fun e W' => (∃ v,e=.returned v) ∧
  ((∃ ys,ys=ps∧J ys W') ∨ (∃ pre,pre <+: ps∧Jx pre W')):=by
 subst hF;refine callsIn_of_wp Tryz.func112 rfl trivial ?_ rfl;simp only [Tryz.ntmps112,List.size_toArray,List.length_cons,List.length_nil,Nat.reduceAdd,Nat.reduceSub,Array.replicate_succ,Array.replicate_zero,List.push_toArray,List.append_toArray,List.nil_append,List.cons_append]
 gi_wp2
 gi_loopw [3,4] (fun r m wr => ∃ (pre tl:List Part) (rest:List UInt8) (b:Bool),r=.string (str rest)∧m=.bool b∧Hid (ps=pre++tl∧tl.map (·.1)=leftL b rest)∧rest.length≤1000000000000∧J pre wr)
  (fun r m wr => leftN r m)
 case atStart => exact ⟨[],ps,s,true,rfl,rfl,⟨rfl,hps⟩,hm,h0⟩
 case round =>
  obtain ⟨pre,tl,rest,b,rfl,rfl,hx,hr,hJs⟩:=hrel
  cases b with
  | false =>
    gi_wp2
    go_end0
    exact ⟨⟨_,rfl⟩,.inl ⟨pre,by obtain ⟨h1,h2⟩:=hx.out;obtain rfl:tl=[]:=List.map_eq_nil_iff.1 h2;simp [h1],hJs⟩⟩
  | true =>
    obtain ⟨hx1,hx2⟩:=hx.out;rw [left_cut] at hx2
    obtain ⟨x,tl',htl⟩:∃ x tl',tl=x :: tl':=by
     cases tl with
     | nil => simp at hx2
     | cons x tl' => exact ⟨x,tl',rfl⟩
    rw [htl,List.map_cons,List.cons.injEq] at hx2;have hc:=cutSlash_any rest wr hr;have hl:=cut_less rest;have hsz:(str rest).size=rest.length:=str_size rest;obtain ⟨p,hp⟩:∃ p:List UInt8,p=x.1:=⟨_,rfl⟩;obtain ⟨q,hq⟩:∃ q,q=(cutL rest).2.1:=⟨_,rfl⟩;obtain ⟨b,hb⟩:∃ b,b=(cutL rest).2.2:=⟨_,rfl⟩;rw [← hx2.1,← hp,← hq,← hb] at hc;rw [← hq,← hb] at hx2;rw [htl] at hx1;rw [← hq,← hb] at hl;have HX:=Lib.hid (And.intro hx1 hx2.2);have HL:=Lib.hid hl;have HS:=Lib.hid hsz
    have hgo0:∀ k,YieldAt Fence.wide (n - 1) Tryz.prog l #[.string (str x.1)] (wr.drewN k) fun e W' =>
     (e=.returned (.bool true)∧J (pre++[x]) W'∧True) ∨ (e=.returned (.bool false)∧Jx (pre++[x]) W'):=
     fun k => hY pre x _ (abides_drewN hJ hJs k) (by rw [hx1];simp)
    rw [← hp] at hgo0;clear hp hq hb hx1 hx2 hl hsz hx htl hY
    gi_wp2_with (refine ⟨trivial,?_⟩;gi_at_call 102;refine (callsIn_wide.2 hc).mono ?_;rintro e w' ⟨rfl,k,rfl⟩;obtain ⟨fn,tmps,assign,body,hy,hR⟩:=hgo0 k)
    refine hR.mono ?_
    rintro e W3 (⟨rfl,hJ3,-⟩ | ⟨rfl,hJx3⟩)
    ·gi_wp2
     go_roundw
     case rel => exact ⟨pre++[x],tl',q,b,rfl,rfl,⟨by rw [HX.out.1];simp,HX.out.2⟩,by have:=HL.out;omega,hJ3⟩
     case measure =>
      have h1:=HL.out;have h2:=HS.out;have h3:(str q).size=q.length:=str_size q
      cases b<;>simp [leftN,h2,h3] at h1 ⊢<;>omega
    ·gi_wp2
     refine bodyPost_ret (results_none rfl _ _ _) rfl ?_
     exact ⟨⟨_,rfl⟩,.inr ⟨pre++[x],by rw [HX.out.1];exact ⟨tl',by simp⟩,hJx3⟩⟩
theorem seq_stops (n:Nat) (hn:1≤n) (Bn:Nat) (s:List UInt8) (hm:s.length≤1000000000000) (ps:List Part) (hps:ps.map (·.1)=partsL s) (w:World) (hBn:Bn < w.heap.size) (hc:w.cell? ⟨Bn,0,none⟩=some (.string (str s))) :
 SeqStopsK Fence.wide n Tryz.prog 112 #[.pointer (some ⟨Bn,0,none⟩)] (fun x:Part => #[Value.string (str x.1)]) (fun _ _ => True) (fun ys => ys=ps) (fun pre => pre <+: ps) ps.length w:=fun l J Jx W hW hJ _ hY h0 =>
 seq_in Fence.wide n rfl hn l Bn s hm ps hps J Jx _ hJ hY W ((hW.cell (p:=⟨Bn,0,none⟩) hBn).trans hc) h0
theorem parts_any (s:List UInt8) (w:World) :
 Calls Tryz.prog 89 #[.string (str s)] w fun e w' => e=.returned (.func (.func 112) #[] #[.pointer (some ⟨w.heap.size,0,none⟩)])∧w'=w.alloc (.cells #[.string (str s)] 9):=by
 go_enter Tryz.func89,Tryz.ntmps89
 go_wp2
 go_ret
 exact ⟨rfl,rfl⟩
end Go.Proofs.YtdjedimjhogdoaaGreatDoor.Path
end
section
namespace Go.Proofs.YtdjedimjhogdoaaGreatDoor.Path
open Go.ChangeShapes Go.WideShapes Go.ChangeAt Go.RowKit Go.Shelf Base Byt Txt Go.Lib Num
set_option linter.unusedVariables false
set_option maxRecDepth 100000
attribute [local go_sem] Oper.semAt_some
theorem goP_app (a b:List (List UInt8)):∀ c,goP c (a++b)=(goP c a).bind fun d => goP d b:=by
 induction a with
 | nil => intro c;rfl
 | cons p a ih =>
   intro c;rw [List.cons_append,goP,goP]
   split
   ·rfl
   ·exact ih _
theorem goP_snoc (pre:List (List UInt8)) (p c d:List UInt8) (h:goP c pre=some d):goP c (pre++[p])=if p=[46,46] ∨ 200 < (joinP d p).length then none else some (joinP d p):=by
 rw [goP_app,h,Option.bind_some];unfold goP
 split<;>rfl
theorem goP_le (ps:List (List UInt8)):∀ c d,c.length≤200 → goP c ps=some d → d.length≤200:=by
 induction ps with
 | nil => intro c d hc h;cases h;exact hc
 | cons p ps ih =>
   intro c d hc h;unfold goP at h
   split at h
   ·cases h
   ·next hn => exact ih _ _ (by rcases Nat.lt_or_ge 200 (joinP c p).length with h' | h';exact absurd (.inr h') hn;exact h') h
theorem goP_none (a b:List (List UInt8)) (h:goP [] a=none):goP [] (a++b)=none:=by rw [goP_app,h];rfl
theorem head_slash_iff (l:List UInt8):Lib.hasPrefix l [47]=decide (l.head? = some 47):=by
 cases l with
 | nil => simp [Lib.hasPrefix]
 | cons b t =>
   by_cases h:b=47
   ·subst h;simp [Lib.hasPrefix]
   ·have h':¬ (47:UInt8)=b:=fun e => h e.symm
    simp [Lib.hasPrefix,List.isPrefixOf,h,h']
def Cell (W:World) (b:Nat) (v:Value):Prop:=W.cell? ⟨b,0,none⟩=some v∧W.frozen? ⟨b,0,none⟩=false
theorem Cell.kept {W W':World} {b:Nat} {v:Value} (h:Cell W b v) {row:Option Nat} (hg:W.grownBy W' row) (hr:∀ r,row=some r → ∃ o:Obj,W.heap[r]? = some o∧o.isCells=false):Cell W' b v:=
 ⟨cell_kept h.1 hg hr,(frozen_kept h.1 hg hr).trans h.2⟩
theorem Cell.below {W W':World} {b n:Nat} {v:Value} (h:Cell W b v) (hb:Below n W W') (hn:b < n):Cell W' b v:=
 ⟨(hb.cell (p:=⟨b,0,none⟩) hn).trans h.1,(hb.frozen (p:=⟨b,0,none⟩) hn).trans h.2⟩
theorem Cell.new (W:World) (v:Value) (t:TypeId):Cell (W.alloc (.cells #[v] t)) W.heap.size v:=by
 have h:=World.alloc_heap_new W (.cells #[v] t);unfold Cell World.cell? World.frozen?;rw [h];exact ⟨rfl,rfl⟩
theorem Cell.alloc {W:World} {b:Nat} {v:Value} (h:Cell W b v) (o:Obj):Cell (W.alloc o) b v:=h.kept (World.grownBy_alloc W o none) (fun r e => by cases e)
theorem Cell.set {W:World} {b:Nat} {v:Value} (h:Cell W b v) (u:Value):Cell (W.setCell ⟨b,0,none⟩ u) b u:=
 ⟨World.cell?_setCell_same' _ _ _ (by rw [h.1];rfl),by rw [World.frozen?_setCell];exact h.2⟩
theorem Cell.other {W:World} {b b':Nat} {v:Value} (h:Cell W b v) (u:Value) (hne:b'≠b):Cell (W.setCell ⟨b',0,none⟩ u) b v:=
 ⟨(World.cell?_setCell_other _ _ _ _ (fun e => hne (congrArg Addr.block e))).trans h.1,by rw [World.frozen?_setCell];exact h.2⟩
def restD (P:Int) (l:List UInt8):List UInt8 × Int:=
 if l.head? = some 47 then ([],P) else match goP [] (partsL l) with | none => ([],P) | some a => if a=[] then ([],P) else (a,0)
theorem clean_rest (T P:Int) (l:List UInt8):cleanD T P l=if textD l=false then ([],T) else restD P l:=clean_goP T P l
theorem ret_cells (W:World) (tm:Array Value) (b0 b1:Nat) (s:ByteArray) (e:Int) (h0:tm[2]? = some (.pointer (some ⟨b0,0,none⟩))) (h1:tm[3]? = some (.pointer (some ⟨b1,0,none⟩)))
 (c0:Cell W b0 (.string s)) (c1:Cell W b1 (.int .i64 e)):(results Tryz.f60 tm).run Tryz.prog W=.ok (.tuple #[.string s,.int .i64 e]) W:=by
 obtain ⟨c00,c01⟩:=c0;obtain ⟨c10,c11⟩:=c1;simp [results,Tryz.f60,go_sem,h0,h1,c00,c10]
set_option maxHeartbeats 2000000 in
theorem clean_any (l:List UInt8) (w:World) (hm:l.length≤1000000000000) (hT:Tabs w) :
 Calls Tryz.prog 60 #[.string (str l)] w fun e w' => e=.returned (.tuple #[.string (str (cleanD 9 6 l).1),.int .i64 (cleanD 9 6 l).2])∧Below w.heap.size w w':=by
 have hR:=fun w hT => right_any l w hm hT
 have hP:=fun w => Any.strings_HasPrefix Tryz.laysPrefix (str l) ⟨#[47]⟩ w
 rw [clean_rest];simp only [str_data,head_slash_iff] at hP;refine (callsIn_wide (n:=3)).1 ?_
 refine callsIn_of_wp_marks Tryz.func60 rfl trivial ?_ rfl;simp only [Tryz.ntmps60,List.size_toArray,List.length_cons,List.length_nil,Nat.reduceAdd,Nat.reduceSub,Array.replicate_succ,Array.replicate_zero,List.push_toArray,List.append_toArray,List.nil_append,List.cons_append];have hB0:Below w.heap.size w ((w.alloc (.cells #[.string ⟨#[]⟩] 9)).alloc (.cells #[.int .i64 0] 26)):=((Below.refl _ _).alloc (Nat.le_refl _) _).alloc (by simp) _
 have hT0:=hT.below hB0;have c0:Cell ((w.alloc (.cells #[.string ⟨#[]⟩] 9)).alloc (.cells #[.int .i64 0] 26)) w.heap.size (.string ⟨#[]⟩):=(Cell.new w _ _).alloc _
 have c1:Cell ((w.alloc (.cells #[.string ⟨#[]⟩] 9)).alloc (.cells #[.int .i64 0] 26)) (w.heap.size+1) (.int .i64 0):=by
  have:=Cell.new (w.alloc (.cells #[.string ⟨#[]⟩] 9)) (.int .i64 0) 26
  rwa [World.size_alloc] at this
 have HC:=Lib.hid (And.intro c0 c1);have HB:=Lib.hid hB0;clear c0 c1 hB0 hT
 cases ht:textD l with
 | false =>
   rw [if_pos rfl];have hR':=hR _ hT0;rw [ht] at hR'
   gi_wp2_with fail
   refine ⟨trivial,(callsIn_wide.2 hR').mono ?_⟩;rintro e w1 ⟨rfl,hb⟩;simp only [World.size_alloc] at hb;obtain ⟨d00,d01⟩:=HC.out.1.below hb (by omega)
   obtain ⟨d10,d11⟩:=HC.out.2.below hb (by omega)
   have HB1:=Lib.hid (HB.out.trans (hb.mono (by omega)))
   clear hb hR' hT0 hR hP
   gi_wp2_with fail
   refine ⟨_,ret_cells _ _ w.heap.size (w.heap.size+1) ⟨#[]⟩ 9 rfl rfl (((show Cell w1 w.heap.size _ from ⟨d00,d01⟩).set _).other _ (by omega)) (((show Cell w1 (w.heap.size+1) _ from ⟨d10,d11⟩).other _ (by omega)).set _),rfl,?_⟩
   exact (HB1.out.setCell (p:=⟨w.heap.size,0,none⟩) (Nat.le_refl _) _).setCell (p:=⟨w.heap.size+1,0,none⟩) (by simp) _
 | true =>
   rw [if_neg (by simp)]
   have hR':=hR _ hT0;rw [ht] at hR';obtain ⟨G,hG⟩:∃ G,restD 6 l=G:=⟨_,rfl⟩;rw [hG];unfold restD at hG;have HG:=Lib.hid hG;clear hG
   gi_wp2_with fail
   refine ⟨trivial,(callsIn_wide.2 hR').mono ?_⟩;rintro e w1 ⟨rfl,hb⟩;simp only [World.size_alloc] at hb;have d0:=HC.out.1.below hb (by omega)
   have d1:=HC.out.2.below hb (by omega)
   have HS1:Hid (w.heap.size+2≤w1.heap.size):=Lib.hid (by have:=hb.size;rw [World.size_alloc,World.size_alloc] at this;omega)
   have HB1:=Lib.hid (HB.out.trans (hb.mono (by omega)))
   clear hb hR' hT0 hR;have hP':=hP w1;clear hP
   by_cases h0:l.head? = some 47
   ·obtain rfl:([],6)=G:=by rw [← HG.out,if_pos h0]
    rw [decide_eq_true h0] at hP';clear h0;obtain ⟨d00,d01⟩:=d0;obtain ⟨d10,d11⟩:=d1
    gi_wp2_with fail
    refine ⟨trivial,(callsIn_wide.2 hP').mono ?_⟩;rintro e w' ⟨rfl,rfl⟩
    gi_wp2_with fail
    refine ⟨_,ret_cells _ _ w.heap.size (w.heap.size+1) ⟨#[]⟩ 6 rfl rfl (((show Cell w' w.heap.size _ from ⟨d00,d01⟩).set _).other _ (by omega)) (((show Cell w' (w.heap.size+1) _ from ⟨d10,d11⟩).other _ (by omega)).set _),rfl,?_⟩
    exact (HB1.out.setCell (p:=⟨w.heap.size,0,none⟩) (Nat.le_refl _) _).setCell (p:=⟨w.heap.size+1,0,none⟩) (by simp) _
   ·have hG:=HG.out
    rw [if_neg h0] at hG;rw [decide_eq_false h0] at hP';have HG2:=Lib.hid hG;clear h0 HG hG;have HD:=Lib.hid (And.intro d0 d1);clear d0 d1
    gi_wp2_with fail
    refine ⟨trivial,(callsIn_wide.2 hP').mono ?_⟩;rintro e w' ⟨rfl,rfl⟩
    gi_wp2_with fail
    have HB2:Hid (Below w.heap.size w ((w'.alloc (.cells #[.string ⟨#[]⟩] 9)).alloc (.cells #[.string (str l)] 9))):=
     Lib.hid ((HB1.out.alloc (by have:=HS1.out;omega) _).alloc (by have:=HS1.out;rw [World.size_alloc];omega) _)
    have HX:=Lib.hid (((Cell.new w' (.string ⟨#[]⟩) 9)).alloc (.cells #[.string (str l)] 9));have HY:=Lib.hid (And.intro ((HD.out.1.alloc (.cells #[.string ⟨#[]⟩] 9)).alloc (.cells #[.string (str l)] 9)) ((HD.out.2.alloc (.cells #[.string ⟨#[]⟩] 9)).alloc (.cells #[.string (str l)] 9)));have HZ:=Lib.hid (Cell.new (w'.alloc (.cells #[.string ⟨#[]⟩] 9)) (.string (str l)) 9);clear HB1 HD HC;obtain ⟨ps,hps⟩:=some_parts l hm;refine ⟨trivial,(callsIn_wide.2 (parts_any l _)).mono ?_⟩;rintro e w2 ⟨rfl,rfl⟩
    gi_wp2_with fail
    obtain ⟨n1,hn1⟩:∃ n1,w'.heap.size=n1:=⟨_,rfl⟩;obtain ⟨W0,hW0⟩:∃ W0,(w'.alloc (.cells #[.string ⟨#[]⟩] 9)).alloc (.cells #[.string (str l)] 9)=W0:=⟨_,rfl⟩;have HN:Hid (W0.heap.size=n1+2∧w.heap.size+2≤n1):=Lib.hid (by rw [← hW0,World.size_alloc,World.size_alloc];exact ⟨by omega,by have:=HS1.out;omega⟩)
    rw [hW0] at HB2 HX HY HZ ⊢;rw [World.size_alloc] at HZ;rw [hn1] at HX HZ ⊢;clear hW0 HS1 hn1 HB
    refine wpIn_rangeFunc_ownF rfl (by omega) (gf:=112) (lb:=#[.pointer (some ⟨n1+1,0,none⟩)]) rfl trivial (enters_of Tryz.func112 (by kernel_rfl) rfl)
     (seq_stops _ (by omega) (n1+1) l hm ps hps W0 (by rw [HN.out.1];omega) HZ.out.1) (fun _ _ => trivial) (fun _ _ _ _ _ _ _ _ => trivial) (Below.refl _ _) (fun _ => rfl)
     (fun pre W => (∃ c,goP [] (pre.map (·.1))=some c∧Cell W n1 (.string (str c))∧Cell W w.heap.size (.string ⟨#[]⟩)∧Cell W (w.heap.size+1) (.int .i64 0))∧Below w.heap.size w W)
     (fun c pre W => (c=.ret∧goP [] (pre.map (·.1))=none∧Cell W w.heap.size (.string ⟨#[]⟩)∧Cell W (w.heap.size+1) (.int .i64 6))∧Below w.heap.size w W)
     (OwnFrom.and (Own.from (fun s A B row hs hg hr => by obtain ⟨c,h1,h2,h3,h4⟩:=hs;exact ⟨c,h1,h2.kept hg hr,h3.kept hg hr,h4.kept hg hr⟩) _) (ownFrom_below (Nat.le_refl _) (by rw [HN.out.1];have:=HN.out.2;omega)))
     (fun c => OwnFrom.and (Own.from (fun s A B row hs hg hr => ⟨hs.1,hs.2.1,hs.2.2.1.kept hg hr,hs.2.2.2.kept hg hr⟩) _) (ownFrom_below (Nat.le_refl _) (by rw [HN.out.1];have:=HN.out.2;omega)))
     ⟨⟨[],rfl,HX.out,HY.out.1,HY.out.2⟩,HB2.out⟩
     (fun x => { tmps:=#[.string (str l),undef,.pointer (some ⟨w.heap.size,0,none⟩),.pointer (some ⟨w.heap.size+1,0,none⟩),.pointer (some ⟨n1,0,none⟩),.string (str x.1),.string (str l),.bool true,.bool false,.string (str l),.bool false,.string (str l),.func (.func 112) #[] #[.pointer (some ⟨n1+1,0,none⟩)],.string (str x.1),undef,undef,undef,undef,undef,undef,undef,undef,undef,undef,undef,undef,undef],defers:=[] }) ?assign ?body ?done ?stop
    case assign =>
     intro l x W K hK
     gi_wp2
     exact hK
    case body =>
     rintro l' pre x W ⟨⟨c,hg,c0,c1,c2⟩,hB⟩ _;have hc:=goP_le _ _ _ (by simp) hg
     have hj:=join_any c x.1 W (by have:=x.2;omega)
     have hs:=goP_snoc _ x.1 _ _ hg;obtain ⟨d,hd⟩:∃ d,joinP c x.1=d:=⟨_,rfl⟩;rw [hd] at hj hs;have e0:=(c0.set (.string (str d)));have e1:=(c1.other (.string (str d)) (show n1≠_ by have:=HN.out.2;omega))
     have e2:=(c2.other (.string (str d)) (show n1≠_ by have:=HN.out.2;omega))
     have hB1:=hB.setCell (p:=⟨n1,0,none⟩) (show w.heap.size≤n1 by have:=HN.out.2;omega) (.string (str d))
     have HE:=Lib.hid (And.intro e1 (And.intro e2 hB1));have hsz:((str d).size:Int)=d.length:=by rw [str_size]
     obtain ⟨f0,f1⟩:=c0;have HP:=Lib.hid hd
     by_cases hx:x.1=[46,46]
     ·have b1:((str x.1).toList == [46,46])=true:=by rw [str_is];simpa using hx
      rw [if_pos (.inl hx)] at hs;have hs':goP [] ((pre++[x]).map (·.1))=none:=by rw [List.map_append];exact hs
      have HS':=Lib.hid hs';clear hs hs' hx hd hg hc e1 e2 c1 c2 hB hB1 hsz
      gi_wp2_with fail
      refine ⟨trivial,(CallsIn.inRound l' (callsIn_wide.2 hj)).mono ?_⟩;rintro e w3 ⟨rfl,rfl⟩;obtain ⟨e00,e01⟩:=e0;obtain ⟨g00,g01⟩:=HE.out.1;obtain ⟨g10,g11⟩:=HE.out.2.1
      gi_wp2
      exact ⟨((KeepsOthers.setCell _ _ _).trans (KeepsOthers.setCell _ _ _)).trans (KeepsOthers.setCell _ _ _),⟨rfl,HS'.out,(HE.out.1.set _).other _ (by omega),(HE.out.2.1.other _ (by omega)).set _⟩,(HE.out.2.2.setCell (p:=⟨w.heap.size,0,none⟩) (Nat.le_refl _) _).setCell (p:=⟨w.heap.size+1,0,none⟩) (by simp) _⟩
     ·have b1:((str x.1).toList == [46,46])=false:=by rw [str_is];simpa using hx
      obtain ⟨n,hn⟩:∃ n,(str d).size=n:=⟨_,rfl⟩
      by_cases h2:200 < d.length
      ·have b2:(200:Int) < (n:Int):=by omega
       rw [if_pos (.inr h2)] at hs;have hs':goP [] ((pre++[x]).map (·.1))=none:=by rw [List.map_append];exact hs
       have HS':=Lib.hid hs';clear hs hs' hx hd hg hc e1 e2 c1 c2 hB hB1 hsz h2
       gi_wp2_with fail
       refine ⟨trivial,(CallsIn.inRound l' (callsIn_wide.2 hj)).mono ?_⟩;rintro e w3 ⟨rfl,rfl⟩;obtain ⟨e00,e01⟩:=e0;obtain ⟨g00,g01⟩:=HE.out.1;obtain ⟨g10,g11⟩:=HE.out.2.1
       gi_wp2
       exact ⟨((KeepsOthers.setCell _ _ _).trans (KeepsOthers.setCell _ _ _)).trans (KeepsOthers.setCell _ _ _),⟨rfl,HS'.out,(HE.out.1.set _).other _ (by omega),(HE.out.2.1.other _ (by omega)).set _⟩,(HE.out.2.2.setCell (p:=⟨w.heap.size,0,none⟩) (Nat.le_refl _) _).setCell (p:=⟨w.heap.size+1,0,none⟩) (by simp) _⟩
      ·have b2:¬ (200:Int) < (n:Int):=by omega
       rw [if_neg (fun h => h.elim hx h2)] at hs
       have hs':goP [] ((pre++[x]).map (·.1))=some d:=by rw [List.map_append];exact hs
       have HS':=Lib.hid hs';clear hs hs' hx hd hg hc e1 e2 c1 c2 hB hB1 hsz h2
       gi_wp2_with fail
       refine ⟨trivial,(CallsIn.inRound l' (callsIn_wide.2 hj)).mono ?_⟩;rintro e w3 ⟨rfl,rfl⟩;obtain ⟨e00,e01⟩:=id e0;obtain ⟨g00,g01⟩:=HE.out.1;obtain ⟨g10,g11⟩:=HE.out.2.1
       gi_wp2
       exact ⟨KeepsOthers.setCell _ _ _,trivial,⟨d,HS'.out,e0,HE.out.1,HE.out.2.1⟩,HE.out.2.2⟩
    case done =>
     rintro D ys W hD rfl ⟨⟨c,hg,c0,c1,c2⟩,hB⟩ hK;rw [hps] at hg;have hG:=HG2.out;rw [hg] at hG;simp only at hG;have hDw:w.heap.size≤D:=by have:=HN.out;omega
     obtain ⟨f0,f1⟩:=id c0;obtain ⟨g00,g01⟩:=id c1;obtain ⟨g10,g11⟩:=id c2;have HE:=Lib.hid (And.intro c1 (And.intro c2 hB));have HK:=Lib.hid hK
     by_cases hc:c=[]
     ·have b1:(str c).toList.isEmpty=true:=by rw [str_empty];simpa using hc
      obtain rfl:([],6)=G:=by rw [← hG,if_pos hc]
      clear hG hc hg HG2 c0 c1 c2 hB hK
      gi_wp2
      have hK':=((KeepsOthers.setCell W ⟨w.heap.size,0,none⟩ (.string ⟨#[]⟩)).trans (KeepsOthers.setCell _ ⟨w.heap.size+1,0,none⟩ (.int .i64 6))).same D _ HK.out rfl;refine ⟨by simp,.inl ⟨_,_,rfl,run_takeDeferred hK',?_⟩⟩
      have k0:=((HE.out.1.set (.string ⟨#[]⟩)).other (.int .i64 6) (show w.heap.size+1≠_ by omega)).kept (grownBy_putObj' _ D (.deferred none)) (fun r e => by cases e;exact ⟨_,hK',rfl⟩)
      have k1:=((HE.out.2.1.other (.string ⟨#[]⟩) (show w.heap.size≠_ by omega)).set (.int .i64 6)).kept (grownBy_putObj' _ D (.deferred none)) (fun r e => by cases e;exact ⟨_,hK',rfl⟩)
      exact ⟨_,ret_cells _ _ w.heap.size (w.heap.size+1) ⟨#[]⟩ 6 rfl rfl k0 k1,rfl,((HE.out.2.2.setCell (p:=⟨w.heap.size,0,none⟩) (Nat.le_refl _) _).setCell (p:=⟨w.heap.size+1,0,none⟩) (by simp) _).trans (belowK_b (w:=w) (Nat.le_refl _) _ D _ _ hDw hK' rfl rfl)⟩
     ·have b1:(str c).toList.isEmpty=false:=by rw [str_empty];simpa using hc
      obtain rfl:(c,0)=G:=by rw [← hG,if_neg hc]
      clear hG hc hg HG2 c0 c1 c2 hB hK
      gi_wp2
      have hK':=((KeepsOthers.setCell W ⟨w.heap.size,0,none⟩ (.string (str c))).trans (KeepsOthers.setCell _ ⟨w.heap.size+1,0,none⟩ (.int .i64 0))).same D _ HK.out rfl;refine ⟨by simp,.inl ⟨_,_,rfl,run_takeDeferred hK',?_⟩⟩
      have k0:=((HE.out.1.set (.string (str c))).other (.int .i64 0) (show w.heap.size+1≠_ by omega)).kept (grownBy_putObj' _ D (.deferred none)) (fun r e => by cases e;exact ⟨_,hK',rfl⟩)
      have k1:=((HE.out.2.1.other (.string (str c)) (show w.heap.size≠_ by omega)).set (.int .i64 0)).kept (grownBy_putObj' _ D (.deferred none)) (fun r e => by cases e;exact ⟨_,hK',rfl⟩)
      exact ⟨_,ret_cells _ _ w.heap.size (w.heap.size+1) (str c) 0 rfl rfl k0 k1,rfl,((HE.out.2.2.setCell (p:=⟨w.heap.size,0,none⟩) (Nat.le_refl _) _).setCell (p:=⟨w.heap.size+1,0,none⟩) (by simp) _).trans (belowK_b (w:=w) (Nat.le_refl _) _ D _ _ hDw hK' rfl rfl)⟩
    case stop =>
     rintro D c pre W hD hpre ⟨⟨rfl,hn,c1,c2⟩,hB⟩ hK;have hG:=HG2.out;obtain ⟨tl,htl⟩:=hpre;rw [← hps,← htl,List.map_append,goP_none _ _ hn] at hG;obtain rfl:([],6)=G:=hG;have hDw:w.heap.size≤D:=by have:=HN.out;omega
     have HE:=Lib.hid (And.intro c1 (And.intro c2 hB));have HK:=Lib.hid hK;clear htl hn HG2 c1 c2 hB hK
     gi_wp2
     have hK':=HK.out;refine ⟨by simp,.inl ⟨_,_,rfl,run_takeDeferred hK',?_⟩⟩
     have k0:=HE.out.1.kept (grownBy_putObj' _ D (.deferred none)) (fun r e => by cases e;exact ⟨_,hK',rfl⟩)
     have k1:=HE.out.2.1.kept (grownBy_putObj' _ D (.deferred none)) (fun r e => by cases e;exact ⟨_,hK',rfl⟩)
     exact ⟨_,ret_cells _ _ w.heap.size (w.heap.size+1) ⟨#[]⟩ 6 rfl rfl k0 k1,rfl,HE.out.2.2.trans (belowK_b (w:=w) (Nat.le_refl _) _ D _ _ hDw hK' rfl rfl)⟩
end Go.Proofs.YtdjedimjhogdoaaGreatDoor.Path
end
section
namespace Go.Proofs.YtdjedimjhogdoaaGreatDoor.Mem
open Go.ChangeShapes Go.WideShapes Go.ChangeAt Go.RowKit Base Byt Txt Bk Hp Head Num Path Go.Lib
set_option linter.unusedVariables false
set_option maxRecDepth 100000
theorem u8_lit (k:UInt8) (n:Nat) (hn:n < 256):((k.toNat:Int)=(n:Int)) ↔ k=UInt8.ofNat n:=by
 constructor
 ·intro h
  apply UInt8.toNat.inj;rw [UInt8.toNat_ofNat'];omega
 ·rintro rfl
  rw [UInt8.toNat_ofNat'];omega
theorem known_any (k:UInt8) (w:World) :
 Calls Tryz.prog 40 #[.int .u8 (k.toNat:Int)] w fun e w' => e=.returned (.bool (knownD k))∧w=w':=by
 have hb:=k.toNat_lt;have e0:(k.toNat:Int)=48 ↔ k=48:=u8_lit k 48 (by decide)
 have e1:(k.toNat:Int)=49 ↔ k=49:=u8_lit k 49 (by decide)
 have e2:(k.toNat:Int)=50 ↔ k=50:=u8_lit k 50 (by decide)
 have e3:(k.toNat:Int)=53 ↔ k=53:=u8_lit k 53 (by decide)
 obtain ⟨r,hr⟩:∃ r,knownD k=r:=⟨_,rfl⟩;rw [hr];unfold knownD at hr;obtain ⟨x,hx⟩:∃ x:Int,x=(k.toNat:Int):=⟨_,rfl⟩;rw [← hx] at e0 e1 e2 e3 ⊢
 by_cases h0:x=48
 ·obtain rfl:r=true:=by rw [← hr];simp [e0.1 h0]
  clear e0 e1 e2 e3 hr hx hb;subst h0
  go_enter Tryz.func40,Tryz.ntmps40
  go_wp2
  go_ret
  exact ⟨rfl,rfl⟩
 ·by_cases h1:x=49
  ·obtain rfl:r=true:=by rw [← hr];simp [e1.1 h1]
   clear e0 e1 e2 e3 hr hx hb;subst h1
   go_enter Tryz.func40,Tryz.ntmps40
   go_wp2
   go_ret
   exact ⟨rfl,rfl⟩
  ·by_cases h2:x=50
   ·obtain rfl:r=true:=by rw [← hr];simp [e2.1 h2]
    clear e0 e1 e2 e3 hr hx hb;subst h2
    go_enter Tryz.func40,Tryz.ntmps40
    go_wp2
    go_ret
    exact ⟨rfl,rfl⟩
   ·by_cases h3:x=53
    ·obtain rfl:r=true:=by rw [← hr];simp [e3.1 h3]
     clear e0 e1 e2 e3 hr hx hb;subst h3
     go_enter Tryz.func40,Tryz.ntmps40
     go_wp2
     go_ret
     exact ⟨rfl,rfl⟩
    ·obtain rfl:r=false:=by
      rw [← hr];have a0:¬ k=48:=fun h => h0 (e0.2 h)
      have a1:¬ k=49:=fun h => h1 (e1.2 h)
      have a2:¬ k=50:=fun h => h2 (e2.2 h)
      have a3:¬ k=53:=fun h => h3 (e3.2 h)
      simp [a0,a1,a2,a3]
     clear e0 e1 e2 e3 hr hx hb
     go_enter Tryz.func40,Tryz.ntmps40
     go_wp2
     go_ret
     exact ⟨rfl,rfl⟩
theorem size_any (k:UInt8) (n:Int) (w:World) :
 Calls Tryz.prog 63 #[.int .u8 (k.toNat:Int),.int .i64 n] w fun e w' => e=.returned (.int .i64 (sizeD k n))∧w=w':=by
 have hb:=k.toNat_lt;have e0:(k.toNat:Int)=48 ↔ k=48:=u8_lit k 48 (by decide)
 obtain ⟨r,hr⟩:∃ r,sizeD k n=r:=⟨_,rfl⟩;rw [hr];unfold sizeD at hr;obtain ⟨x,hx⟩:∃ x:Int,x=(k.toNat:Int):=⟨_,rfl⟩;rw [← hx] at e0 ⊢
 by_cases h0:x=48
 ·have hk:k=48:=e0.1 h0
  rw [if_neg (by simp [hk])] at hr
  by_cases h1:1048576 < n
  ·rw [if_pos h1] at hr
   subst hr;clear e0 hx hb;subst h0
   go_enter Tryz.func63,Tryz.ntmps63
   go_wp2
   go_ret
   exact ⟨rfl,rfl⟩
  ·rw [if_neg h1] at hr
   subst hr;clear e0 hx hb;subst h0
   go_enter Tryz.func63,Tryz.ntmps63
   go_wp2
   go_ret
   exact ⟨rfl,rfl⟩
 ·have hk:¬ k=48:=fun h => h0 (e0.2 h)
  by_cases hn:n=0
  ·subst hn
   rw [if_neg (by simp),if_neg (by omega)] at hr
   subst hr;clear e0 hx hb
   go_enter Tryz.func63,Tryz.ntmps63
   go_wp2
   go_ret
   exact ⟨rfl,rfl⟩
  ·rw [if_pos ⟨hk,hn⟩] at hr
   subst hr;clear e0 hx hb;have b0:(x != 48)=true:=by simpa using h0
   have bn:(n != 0)=true:=by simpa using hn
   go_enter Tryz.func63,Tryz.ntmps63
   go_wp2
   go_ret
   exact ⟨rfl,rfl⟩
theorem inBounds_any (a b c d:Int) (w:World) :
 Calls Tryz.prog 61 #[.agg #[.int .i64 a,.int .i64 b,.int .i64 c,.int .i64 d]] w fun e w' => e=.returned (.bool (metaOk a b c d))∧Below w.heap.size w w':=by
 obtain ⟨r,hr⟩:∃ r,metaOk a b c d=r:=⟨_,rfl⟩;rw [hr];unfold metaOk at hr;have hb:=(Below.refl w.heap.size w).alloc (Nat.le_refl _) (.cells #[.int .i64 a,.int .i64 b,.int .i64 c,.int .i64 d] 35);have HB:=Lib.hid hb;clear hb
 by_cases h1:0≤a∧a≤4095
 ·by_cases h2:0≤b∧b≤2147483647
  ·by_cases h3:0≤c∧c≤2147483647
   ·by_cases h4:0≤d∧d≤1099511627776
    ·obtain rfl:r=true:=by rw [← hr];simp only [decide_eq_true_eq];omega
     clear hr
     go_enter Tryz.func61,Tryz.ntmps61
     go_wp2_with (go_at_call 91;refine (in_yes _ _ _ _ (by omega) (by omega)).mono ?_;rintro e w' ⟨rfl,rfl⟩)
     go_ret
     exact ⟨rfl,HB.out⟩
    ·obtain rfl:r=false:=by rw [← hr];simp only [decide_eq_false_iff_not];omega
     clear hr
     go_enter Tryz.func61,Tryz.ntmps61
     go_wp2_with (go_at_call 91;first | (refine (in_yes _ _ _ _ (by omega) (by omega)).mono ?_;rintro e w' ⟨rfl,rfl⟩) | (refine (in_no _ _ _ _ (by omega)).mono ?_;rintro e w' ⟨rfl,rfl⟩))
     go_ret
     exact ⟨rfl,HB.out⟩
   ·obtain rfl:r=false:=by rw [← hr];simp only [decide_eq_false_iff_not];omega
    clear hr
    go_enter Tryz.func61,Tryz.ntmps61
    go_wp2_with (go_at_call 91;first | (refine (in_yes _ _ _ _ (by omega) (by omega)).mono ?_;rintro e w' ⟨rfl,rfl⟩) | (refine (in_no _ _ _ _ (by omega)).mono ?_;rintro e w' ⟨rfl,rfl⟩))
    go_ret
    exact ⟨rfl,HB.out⟩
  ·obtain rfl:r=false:=by rw [← hr];simp only [decide_eq_false_iff_not];omega
   clear hr
   go_enter Tryz.func61,Tryz.ntmps61
   go_wp2_with (go_at_call 91;first | (refine (in_yes _ _ _ _ (by omega) (by omega)).mono ?_;rintro e w' ⟨rfl,rfl⟩) | (refine (in_no _ _ _ _ (by omega)).mono ?_;rintro e w' ⟨rfl,rfl⟩))
   go_ret
   exact ⟨rfl,HB.out⟩
 ·obtain rfl:r=false:=by rw [← hr];simp only [decide_eq_false_iff_not];omega
  clear hr
  go_enter Tryz.func61,Tryz.ntmps61
  go_wp2_with (go_at_call 91;first | (refine (in_yes _ _ _ _ (by omega) (by omega)).mono ?_;rintro e w' ⟨rfl,rfl⟩) | (refine (in_no _ _ _ _ (by omega)).mono ?_;rintro e w' ⟨rfl,rfl⟩))
  go_ret
  exact ⟨rfl,HB.out⟩
theorem goal_any (k:UInt8) (l:List UInt8) (w:World) (hm:l.length≤1000000000000) (hT:Tabs w) :
 Calls Tryz.prog 62 #[.int .u8 (k.toNat:Int),.string (str l)] w fun e w' => e=.returned (.tuple #[.string (str (goalD k l).1),.int .i64 (goalD k l).2])∧Below w.heap.size w w':=by
 have hC:=clean_any l w hm hT;have hG:=target_any l w hm hT;have e1:(k.toNat:Int)=49 ↔ k=49:=u8_lit k 49 (by decide)
 have e2:(k.toNat:Int)=50 ↔ k=50:=u8_lit k 50 (by decide)
 unfold goalD;obtain ⟨x,hx⟩:∃ x:Int,x=(k.toNat:Int):=⟨_,rfl⟩;rw [← hx] at e1 e2 ⊢
 by_cases h1:x=49
 ·rw [if_pos (e1.1 h1)]
  clear e1 e2 hx;subst h1
  go_enter Tryz.func62,Tryz.ntmps62
  go_wp2_with (go_at_call 60;refine hC.mono ?_;rintro e w1 ⟨rfl,hb⟩)
  go_ret2
  exact ⟨rfl,hb⟩
 ·rw [if_neg (fun h => h1 (e1.2 h))]
  by_cases h2:x=50
  ·rw [if_pos (e2.1 h2)]
   clear e1 e2 hx;subst h2
   go_enter Tryz.func62,Tryz.ntmps62
   go_wp2_with (go_at_call 92;refine hG.mono ?_;rintro e w1 ⟨rfl,hb⟩)
   go_ret2
   exact ⟨rfl,hb⟩
  ·rw [if_neg (fun h => h2 (e2.2 h))]
   clear e1 e2 hx
   go_enter Tryz.func62,Tryz.ntmps62
   go_wp2
   go_ret2
   exact ⟨rfl,Below.refl _ _⟩
end Go.Proofs.YtdjedimjhogdoaaGreatDoor.Mem
end
section
namespace Go.Proofs.YtdjedimjhogdoaaGreatDoor.Mem
open Go.ChangeShapes Go.WideShapes Go.ChangeAt Go.RowKit Base Byt Txt Bk Mk Block Hp Head Attr Rec Go.Lib Go.Shelf
set_option linter.unusedVariables false
set_option maxRecDepth 100000
section
variable {w0 w w':World} {K:RK} {a:Nat} {s:RS} {mb:Option Nat} {v:Value} {xs:List MP} {q:Option Addr} {n c:Nat}
def StepPost (w0:World) (K:RK) (a:Nat) (st:Step) (e:Ending) (w':World):Prop:=
 match st with
 | .fault er => e=.returned (.int .i64 er)∧Below w0.heap.size w0 w'
 | .done => False
 | .next k s' => e=.returned (.int .i64 0)∧Left w0 K (a+k) s' w'
theorem wait_some (s:RS) (q:Option Addr) (n c:Nat) (k:UInt8):(waitF s q n c k).isSome=true ↔ (k=120∧s.hasX=true) ∨ (k=76∧s.name.isSome=true) ∨ (k=75∧s.link.isSome=true):=by
 unfold waitF
 by_cases h1:k=120
 ·subst h1
  cases s.hasX<;>simp
 ·by_cases h2:k=76
  ·subst h2
   cases s.name<;>simp
  ·by_cases h3:k=75
   ·subst h3
    cases s.link<;>simp
   ·simp [h1,h2,h3]
theorem ext_any (hr:Rd w0 w K (a+512) s mb v xs q n c) (h:HeadV) (h0:0≤h.size) (hk:isExt h.kind=true) (hN:Need w0) :
 Calls Tryz.prog 53 #[.pointer (some ⟨K.r,0,none⟩),.agg (headC h)] w (StepPost w0 K a (extD (K.S.bs.drop a) h s)):=by
 obtain ⟨t,hs⟩:=hr.src;have hlen:=hs.len;have hle:=hs.le;have hLL:(K.S.bs.drop a).length=K.S.n - a:=by rw [List.length_drop,hlen]
 unfold extD
 by_cases h1:(h.kind=120∧s.hasX=true) ∨ (h.kind=76∧s.name.isSome=true) ∨ (h.kind=75∧s.link.isSome=true)
 ·rw [if_pos h1]
  refine (ext_waits hr h ((wait_some s q n c h.kind).2 h1)).mono ?_
  rintro e w' ⟨rfl,hb⟩;exact ⟨rfl,hr.bel.trans (hb.mono hr.bel.size)⟩
 ·rw [if_neg h1]
  have hw:waitF s q n c h.kind=none:=by
   cases hx:waitF s q n c h.kind with
   | none => rfl
   | some y => exact absurd ((wait_some s q n c h.kind).1 (by rw [hx];rfl)) h1
  by_cases h2:1048576 < h.size
  ·rw [if_pos h2]
   refine (ext_large hr h hw h2).mono ?_
   rintro e w' ⟨rfl,hb⟩;exact ⟨rfl,hr.bel.trans (hb.mono hr.bel.size)⟩
  ·rw [if_neg h2]
   obtain ⟨k,hk0⟩:∃ k:Nat,h.size=(k:Int):=⟨h.size.toNat,by omega⟩
   have hkl:k≤1048576:=by omega
   have hbk:blocksOf k=padN k:=rfl;unfold bodyN;rw [hk0,Int.toNat_natCast,hLL]
   by_cases h3:K.S.n < a+512+padN k
   ·rw [if_pos (by rw [hbk];omega)]
    refine (ext_short hr h hw k hk0 hkl h3).mono ?_
    rintro e w' ⟨rfl,hb⟩;exact ⟨rfl,hb⟩
   ·rw [if_neg (by rw [hbk];omega)]
    simp only;obtain ⟨X,hX⟩:∃ X,(K.S.bs.drop (a+512)).take k=X:=⟨_,rfl⟩;rw [List.drop_drop,hX,hbk];have hl:a+512+padN k≤K.S.n:=by omega
    by_cases k1:h.kind=76
    ·rw [if_pos k1]
     refine (ext_name hr h hw k hk0 hkl X hX hl k1).mono ?_
     rintro e w' ⟨rfl,hb⟩;rw [Nat.add_assoc] at hb;exact ⟨rfl,hb⟩
    ·rw [if_neg k1]
     by_cases k2:h.kind=75
     ·rw [if_pos k2]
      refine (ext_link hr h hw k hk0 hkl X hX hl k2).mono ?_
      rintro e w' ⟨rfl,hb⟩;rw [Nat.add_assoc] at hb;exact ⟨rfl,hb⟩
     ·rw [if_neg k2]
      by_cases h4:(recsD 5 9 X).2≠0
      ·rw [if_pos h4]
       refine (ext_recbad hr h hw k hk0 hkl X hX hl _ rfl h4 ⟨fun e => k1 ((u8_lit h.kind 76 (by decide)).1 e),fun e => k2 ((u8_lit h.kind 75 (by decide)).1 e)⟩ hN).mono ?_
       rintro e w' ⟨rfl,hb⟩;exact ⟨rfl,hb⟩
      ·rw [if_neg h4]
       have h5:recsD 5 9 X=((recsD 5 9 X).1,0):=Prod.ext rfl (Classical.byContradiction h4)
       by_cases k3:h.kind=103
       ·rw [if_pos k3]
        refine (ext_glob hr h hw k hk0 hkl X hX hl _ h5 k3 hN).mono ?_
        rintro e w' ⟨rfl,hb⟩;rw [Nat.add_assoc] at hb;exact ⟨rfl,hb⟩
       ·rw [if_neg k3]
        have k4:h.kind=120:=by
         unfold isExt at hk
         simpa [k1,k2,k3] using hk
        refine (ext_own hr h hw k hk0 hkl X hX hl _ h5 k4 hN).mono ?_
        rintro e w' ⟨rfl,hb⟩;rw [Nat.add_assoc] at hb;exact ⟨rfl,hb⟩
end
end Go.Proofs.YtdjedimjhogdoaaGreatDoor.Mem
end
section
namespace Go.Proofs.YtdjedimjhogdoaaGreatDoor.Mem
open Go.ChangeShapes Go.WideShapes Go.ChangeAt Go.RowKit Base Byt Txt Bk Hp Head Num Path Go.Lib
set_option linter.unusedVariables false
set_option maxRecDepth 100000
theorem load_mem (w:World) (g:Nat) (a b:ByteArray) (k m u i t:Int) (p:Option Addr) (n c:Nat) (h:Blk w g 37 #[.string a,.string b,.int .u8 k,.int .i64 m,.int .i64 u,.int .i64 i,.int .i64 t,.slice p n c]) :
 (loadVar 37 ⟨g,0,none⟩).run Tryz.prog w=.ok (.agg #[.string a,.string b,.int .u8 k,.int .i64 m,.int .i64 u,.int .i64 i,.int .i64 t,.slice p n c]) w:=by
 have c0:=h.cell 0;have c1:=h.cell 1;have c2:=h.cell 2;have c3:=h.cell 3;have c4:=h.cell 4;have c5:=h.cell 5;have c6:=h.cell 6;have c7:=h.cell 7;clear h
 go_simp
theorem ret_memB {fn:Func} (hf:fn.results=#[.cell 2 37,.tmp 3]) (tmps:Array Value) (w:World) (g:Nat) (v:Value) (ht:tmps.getD 2 undef=.pointer (some ⟨g,0,none⟩)) (hv:tmps.getD 3 undef=v)
 (m:MemV) (p:Option Addr) (c:Nat) (hb:Blk w g 37 (memC m p c)):(results fn tmps).run Tryz.prog w=.ok (.tuple #[.agg (memC m p c),v]) w:=by
 rw [results_cell_tmp hf,ht,hv];have hl:=load_mem w g _ _ _ _ _ _ _ _ _ _ hb;simp only [asAddr,Sem.run_pure,hl,Result.andThen];rfl
theorem blk8 {w:World} {g:Nat} {m:MemV} {p:Option Addr} {c:Nat} (hb:Blk w g 37 (memC m p c)) (a0 a1 a2 a3 a4 a5 a6 a7:Value) :
 Blk ((((((((w.setCell ⟨g,0,none⟩ a0).setCell ⟨g,1,none⟩ a1).setCell ⟨g,2,none⟩ a2).setCell ⟨g,3,none⟩ a3).setCell ⟨g,4,none⟩ a4).setCell ⟨g,5,none⟩ a5).setCell ⟨g,6,none⟩ a6).setCell ⟨g,7,none⟩ a7) g 37 #[a0,a1,a2,a3,a4,a5,a6,a7]:=
 (((((((hb.set 0 a0 (by show 0 < 8;decide)).set 1 a1 (by show 1 < 8;decide)).set 2 a2 (by show 2 < 8;decide)).set 3 a3 (by show 3 < 8;decide)).set 4 a4 (by show 4 < 8;decide)).set 5 a5 (by show 5 < 8;decide)).set 6 a6 (by show 6 < 8;decide)).set 7 a7 (by show 7 < 8;decide)
theorem below8 {w w':World} {g:Nat} (hk:Below w.heap.size w w') (hg:w.heap.size≤g) (a0 a1 a2 a3 a4 a5 a6 a7:Value) :
 Below w.heap.size w ((((((((w'.setCell ⟨g,0,none⟩ a0).setCell ⟨g,1,none⟩ a1).setCell ⟨g,2,none⟩ a2).setCell ⟨g,3,none⟩ a3).setCell ⟨g,4,none⟩ a4).setCell ⟨g,5,none⟩ a5).setCell ⟨g,6,none⟩ a6).setCell ⟨g,7,none⟩ a7):=
 ((((((((hk.setCell (p:=⟨g,0,none⟩) hg a0).setCell (p:=⟨g,1,none⟩) hg a1).setCell (p:=⟨g,2,none⟩) hg a2).setCell (p:=⟨g,3,none⟩) hg a3).setCell (p:=⟨g,4,none⟩) hg a4).setCell (p:=⟨g,5,none⟩) hg a5).setCell (p:=⟨g,6,none⟩) hg a6).setCell (p:=⟨g,7,none⟩) hg a7)
def FMid (w wi:World) (h:HeadV):Prop:=Below w.heap.size w wi∧Blk wi w.heap.size 57 (headC h)∧Blk wi (w.heap.size+1) 37 (memC noM none 0)
theorem FMid.below {w wi wj:World} {h:HeadV} (hm:FMid w wi h) (hb:Below wi.heap.size wi wj):FMid w wj h:=
 ⟨hm.1.trans (hb.mono hm.1.size),hm.2.1.below hb hm.2.1.lt,hm.2.2.below hb hm.2.2.lt⟩
set_option maxHeartbeats 4000000 in
theorem fromHead_any (h:HeadV) (w:World) (h1:h.name.length≤1000000000000) (h2:h.link.length≤1000000000000) (hT:Tabs w) :
 Calls Tryz.prog 41 #[.agg (headC h)] w fun e w' => e=.returned (.tuple #[.agg (memC (fromD h).1 none 0),.int .i64 (fromD h).2])∧Below w.heap.size w w':=by
 obtain ⟨⟨cp,ce⟩,hc⟩:∃ x,cleanD 9 6 h.name=x:=⟨_,rfl⟩;obtain ⟨⟨gp,ge⟩,hg⟩:∃ x,goalD h.kind h.link=x:=⟨_,rfl⟩;obtain ⟨mo,hmo⟩:∃ x,metaOk h.mode h.uid h.gid h.time=x:=⟨_,rfl⟩;obtain ⟨sz,hsz⟩:∃ x,sizeD h.kind h.size=x:=⟨_,rfl⟩
 have CC:Hid (∀ wi,Below w.heap.size w wi → Calls Tryz.prog 60 #[.string (str h.name)] wi fun e w' => e=.returned (.tuple #[.string (str cp),.int .i64 ce])∧Below wi.heap.size wi w'):=
  Lib.hid (fun wi hb => by have:=clean_any h.name wi h1 (hT.below hb);rwa [hc] at this)
 have CM:Hid (∀ wi,Calls Tryz.prog 61 #[.agg #[.int .i64 h.mode,.int .i64 h.uid,.int .i64 h.gid,.int .i64 h.time]] wi fun e w' => e=.returned (.bool mo)∧Below wi.heap.size wi w'):=
  Lib.hid (fun wi => by have:=inBounds_any h.mode h.uid h.gid h.time wi;rwa [hmo] at this)
 have CG:Hid (∀ wi,Below w.heap.size w wi → Calls Tryz.prog 62 #[.int .u8 (h.kind.toNat:Int),.string (str h.link)] wi fun e w' => e=.returned (.tuple #[.string (str gp),.int .i64 ge])∧Below wi.heap.size wi w'):=
  Lib.hid (fun wi hb => by have:=goal_any h.kind h.link wi h2 (hT.below hb);rwa [hg] at this)
 have CS:Hid (∀ wi,Calls Tryz.prog 63 #[.int .u8 (h.kind.toNat:Int),.int .i64 h.size] wi fun e w' => e=.returned (.int .i64 sz)∧wi=w'):=
  Lib.hid (fun wi => by have:=size_any h.kind h.size wi;rwa [hsz] at this)
 obtain ⟨U,hU⟩:∃ U,fromD h=U:=⟨_,rfl⟩;rw [hU]
 have HE:Hid (U=if ce≠0 then (noM,ce) else if mo=false then (noM,4) else if ge≠0 then (noM,ge) else if sz≠0 then (noM,sz) else (⟨cp,gp,h.kind,h.mode,h.uid,h.gid,h.time,[]⟩,0)):=
  Lib.hid (by rw [← hU];unfold fromD;rw [hc,hg,hmo,hsz])
 clear h1 h2 hT hU hc hg hmo hsz
 have HM0:Hid (FMid w ((w.alloc (.cells (headC h) 57)).alloc (.cells (memC noM none 0) 37)) h):=by
  have b1:=Blk.new (w.alloc (.cells (headC h) 57)) 37 (memC noM none 0);rw [World.size_alloc] at b1;exact Lib.hid ⟨((Below.refl _ w).alloc (Nat.le_refl _) _).alloc (by simp) _,(Blk.new w 57 (headC h)).alloc _,b1⟩
 obtain ⟨kn,hkn⟩:∃ kn:Int,(h.kind.toNat:Int)=kn:=⟨_,rfl⟩;have HKN:=Lib.hid hkn;simp only [headC,hkn] at HM0 ⊢;rw [hkn] at CG CS;clear hkn
 by_cases a1:ce=0
 ·subst a1
  cases mo with
  | false =>
    have E:Hid (U=(noM,4)):=Lib.hid (by rw [HE.out];simp)
    go_enter Tryz.func41,Tryz.ntmps41
    go_wp2_with fail
    refine (CC.out _ HM0.out.1).mono ?_
    rintro e w1 ⟨rfl,hb⟩;have HM1:=Lib.hid (HM0.out.below hb);clear hb HM0;have b1:=HM1.out.2.1;have x3:=b1.cell 3;have x4:=b1.cell 4;have x5:=b1.cell 5;have x6:=b1.cell 6;simp only [headC,List.getElem?_toArray,List.getElem?_cons_zero,List.getElem?_cons_succ] at x3 x4 x5 x6;clear b1
    go_wp2_with fail
    refine (CM.out _).mono ?_
    rintro e w2 ⟨rfl,hb⟩;have HM2:=Lib.hid (HM1.out.below hb);clear hb HM1 x3 x4 x5 x6;have b2:=HM2.out.2.2;have r0:=b2.cell 0;have f0:=b2.frozen 0;have r1:=b2.cell 1;have f1:=b2.frozen 1;have r2:=b2.cell 2;have f2:=b2.frozen 2;have r3:=b2.cell 3;have f3:=b2.frozen 3;have r4:=b2.cell 4;have f4:=b2.frozen 4;have r5:=b2.cell 5;have f5:=b2.frozen 5;have r6:=b2.cell 6;have f6:=b2.frozen 6;have r7:=b2.cell 7;have f7:=b2.frozen 7;simp only [memC,noM,List.getElem?_toArray,List.getElem?_cons_zero,List.getElem?_cons_succ] at r0 r1 r2 r3 r4 r5 r6 r7;clear b2
    go_wp2
    refine bodyPost_ret (ret_memB rfl _ _ (w.heap.size+1) _ rfl rfl noM none 0 (blk8 HM2.out.2.2 _ _ _ _ _ _ _ _)) rfl ?_
    exact ⟨by rw [E.out];rfl,below8 HM2.out.1 (by omega) _ _ _ _ _ _ _ _⟩
  | true =>
    by_cases a2:ge=0
    ·subst a2
     by_cases a3:sz=0
     ·subst a3
      have E:Hid (U=(⟨cp,gp,h.kind,h.mode,h.uid,h.gid,h.time,[]⟩,0)):=Lib.hid (by rw [HE.out];simp)
      go_enter Tryz.func41,Tryz.ntmps41
      go_wp2_with fail
      refine (CC.out _ HM0.out.1).mono ?_
      rintro e w1 ⟨rfl,hb⟩;have HM1:=Lib.hid (HM0.out.below hb);clear hb HM0;have b1:=HM1.out.2.1;have x3:=b1.cell 3;have x4:=b1.cell 4;have x5:=b1.cell 5;have x6:=b1.cell 6;simp only [headC,List.getElem?_toArray,List.getElem?_cons_zero,List.getElem?_cons_succ] at x3 x4 x5 x6;clear b1
      go_wp2_with fail
      refine (CM.out _).mono ?_
      rintro e w2 ⟨rfl,hb⟩;have HM2:=Lib.hid (HM1.out.below hb);clear hb HM1 x3 x4 x5 x6;have b1:=HM2.out.2.1;have x1:=b1.cell 1;have x2:=b1.cell 2;simp only [headC,List.getElem?_toArray,List.getElem?_cons_zero,List.getElem?_cons_succ,HKN.out] at x1 x2;clear b1
      go_wp2_with fail
      refine (CG.out _ HM2.out.1).mono ?_
      rintro e w3 ⟨rfl,hb⟩;have HM3:=Lib.hid (HM2.out.below hb);clear hb HM2 x1 x2;have b1:=HM3.out.2.1;have x2:=b1.cell 2;have x7:=b1.cell 7;simp only [headC,List.getElem?_toArray,List.getElem?_cons_zero,List.getElem?_cons_succ,HKN.out] at x2 x7;clear b1
      go_wp2_with fail
      refine (CS.out _).mono ?_
      rintro e w4 ⟨rfl,rfl⟩;clear x2 x7;have b1:=HM3.out.2.1;have x2:=b1.cell 2;have x3:=b1.cell 3;have x4:=b1.cell 4;have x5:=b1.cell 5;have x6:=b1.cell 6;simp only [headC,List.getElem?_toArray,List.getElem?_cons_zero,List.getElem?_cons_succ,HKN.out] at x2 x3 x4 x5 x6;clear b1;have hkk:=HKN.out;subst hkk;have b2:=HM3.out.2.2;have r0:=b2.cell 0;have f0:=b2.frozen 0;have r1:=b2.cell 1;have f1:=b2.frozen 1;have r2:=b2.cell 2;have f2:=b2.frozen 2;have r3:=b2.cell 3;have f3:=b2.frozen 3;have r4:=b2.cell 4;have f4:=b2.frozen 4;have r5:=b2.cell 5;have f5:=b2.frozen 5
      have r6:=b2.cell 6;have f6:=b2.frozen 6;have r7:=b2.cell 7;have f7:=b2.frozen 7;simp only [memC,noM,List.getElem?_toArray,List.getElem?_cons_zero,List.getElem?_cons_succ] at r0 r1 r2 r3 r4 r5 r6 r7;clear b2
      go_wp2
      refine bodyPost_ret (ret_memB rfl _ _ (w.heap.size+1) _ rfl rfl ⟨cp,gp,h.kind,h.mode,h.uid,h.gid,h.time,[]⟩ none 0 (blk8 HM3.out.2.2 _ _ _ _ _ _ _ _)) rfl ?_
      exact ⟨by rw [E.out];rfl,below8 HM3.out.1 (by omega) _ _ _ _ _ _ _ _⟩
     ·have E:Hid (U=(noM,sz)):=Lib.hid (by rw [HE.out];simp [a3])
      go_enter Tryz.func41,Tryz.ntmps41
      go_wp2_with fail
      refine (CC.out _ HM0.out.1).mono ?_
      rintro e w1 ⟨rfl,hb⟩;have HM1:=Lib.hid (HM0.out.below hb);clear hb HM0;have b1:=HM1.out.2.1;have x3:=b1.cell 3;have x4:=b1.cell 4;have x5:=b1.cell 5;have x6:=b1.cell 6;simp only [headC,List.getElem?_toArray,List.getElem?_cons_zero,List.getElem?_cons_succ] at x3 x4 x5 x6;clear b1
      go_wp2_with fail
      refine (CM.out _).mono ?_
      rintro e w2 ⟨rfl,hb⟩;have HM2:=Lib.hid (HM1.out.below hb);clear hb HM1 x3 x4 x5 x6;have b1:=HM2.out.2.1;have x1:=b1.cell 1;have x2:=b1.cell 2;simp only [headC,List.getElem?_toArray,List.getElem?_cons_zero,List.getElem?_cons_succ,HKN.out] at x1 x2;clear b1
      go_wp2_with fail
      refine (CG.out _ HM2.out.1).mono ?_
      rintro e w3 ⟨rfl,hb⟩;have HM3:=Lib.hid (HM2.out.below hb);clear hb HM2 x1 x2;have b1:=HM3.out.2.1;have x2:=b1.cell 2;have x7:=b1.cell 7;simp only [headC,List.getElem?_toArray,List.getElem?_cons_zero,List.getElem?_cons_succ,HKN.out] at x2 x7;clear b1
      go_wp2_with fail
      refine (CS.out _).mono ?_
      rintro e w4 ⟨rfl,rfl⟩;clear x2 x7;have b2:=HM3.out.2.2;have r0:=b2.cell 0;have f0:=b2.frozen 0;have r1:=b2.cell 1;have f1:=b2.frozen 1;have r2:=b2.cell 2;have f2:=b2.frozen 2;have r3:=b2.cell 3;have f3:=b2.frozen 3;have r4:=b2.cell 4;have f4:=b2.frozen 4;have r5:=b2.cell 5;have f5:=b2.frozen 5;have r6:=b2.cell 6;have f6:=b2.frozen 6;have r7:=b2.cell 7;have f7:=b2.frozen 7;simp only [memC,noM,List.getElem?_toArray,List.getElem?_cons_zero,List.getElem?_cons_succ] at r0 r1 r2 r3 r4 r5 r6 r7;clear b2
      go_wp2
      refine bodyPost_ret (ret_memB rfl _ _ (w.heap.size+1) _ rfl rfl noM none 0 (blk8 HM3.out.2.2 _ _ _ _ _ _ _ _)) rfl ?_
      exact ⟨by rw [E.out];rfl,below8 HM3.out.1 (by omega) _ _ _ _ _ _ _ _⟩
    ·have E:Hid (U=(noM,ge)):=Lib.hid (by rw [HE.out];simp [a2])
     go_enter Tryz.func41,Tryz.ntmps41
     go_wp2_with fail
     refine (CC.out _ HM0.out.1).mono ?_
     rintro e w1 ⟨rfl,hb⟩;have HM1:=Lib.hid (HM0.out.below hb);clear hb HM0;have b1:=HM1.out.2.1;have x3:=b1.cell 3;have x4:=b1.cell 4;have x5:=b1.cell 5;have x6:=b1.cell 6;simp only [headC,List.getElem?_toArray,List.getElem?_cons_zero,List.getElem?_cons_succ] at x3 x4 x5 x6;clear b1
     go_wp2_with fail
     refine (CM.out _).mono ?_
     rintro e w2 ⟨rfl,hb⟩;have HM2:=Lib.hid (HM1.out.below hb);clear hb HM1 x3 x4 x5 x6;have b1:=HM2.out.2.1;have x1:=b1.cell 1;have x2:=b1.cell 2;simp only [headC,List.getElem?_toArray,List.getElem?_cons_zero,List.getElem?_cons_succ,HKN.out] at x1 x2;clear b1
     go_wp2_with fail
     refine (CG.out _ HM2.out.1).mono ?_
     rintro e w3 ⟨rfl,hb⟩;have HM3:=Lib.hid (HM2.out.below hb);clear hb HM2 x1 x2;have b2:=HM3.out.2.2;have r0:=b2.cell 0;have f0:=b2.frozen 0;have r1:=b2.cell 1;have f1:=b2.frozen 1;have r2:=b2.cell 2;have f2:=b2.frozen 2;have r3:=b2.cell 3;have f3:=b2.frozen 3;have r4:=b2.cell 4;have f4:=b2.frozen 4;have r5:=b2.cell 5;have f5:=b2.frozen 5;have r6:=b2.cell 6;have f6:=b2.frozen 6;have r7:=b2.cell 7;have f7:=b2.frozen 7;simp only [memC,noM,List.getElem?_toArray,List.getElem?_cons_zero,List.getElem?_cons_succ] at r0 r1 r2 r3 r4 r5 r6 r7;clear b2
     go_wp2
     refine bodyPost_ret (ret_memB rfl _ _ (w.heap.size+1) _ rfl rfl noM none 0 (blk8 HM3.out.2.2 _ _ _ _ _ _ _ _)) rfl ?_
     exact ⟨by rw [E.out];rfl,below8 HM3.out.1 (by omega) _ _ _ _ _ _ _ _⟩
 ·have E:Hid (U=(noM,ce)):=Lib.hid (by rw [HE.out];simp [a1])
  go_enter Tryz.func41,Tryz.ntmps41
  go_wp2_with fail
  refine (CC.out _ HM0.out.1).mono ?_
  rintro e w1 ⟨rfl,hb⟩;have HM1:=Lib.hid (HM0.out.below hb);clear hb HM0;have b2:=HM1.out.2.2;have r0:=b2.cell 0;have f0:=b2.frozen 0;have r1:=b2.cell 1;have f1:=b2.frozen 1;have r2:=b2.cell 2;have f2:=b2.frozen 2;have r3:=b2.cell 3;have f3:=b2.frozen 3;have r4:=b2.cell 4;have f4:=b2.frozen 4;have r5:=b2.cell 5;have f5:=b2.frozen 5;have r6:=b2.cell 6;have f6:=b2.frozen 6;have r7:=b2.cell 7;have f7:=b2.frozen 7;simp only [memC,noM,List.getElem?_toArray,List.getElem?_cons_zero,List.getElem?_cons_succ] at r0 r1 r2 r3 r4 r5 r6 r7;clear b2
  go_wp2
  refine bodyPost_ret (ret_memB rfl _ _ (w.heap.size+1) _ rfl rfl noM none 0 (blk8 HM1.out.2.2 _ _ _ _ _ _ _ _)) rfl ?_
  exact ⟨by rw [E.out];rfl,below8 HM1.out.1 (by omega) _ _ _ _ _ _ _ _⟩
end Go.Proofs.YtdjedimjhogdoaaGreatDoor.Mem
end
section
namespace Go.Proofs.YtdjedimjhogdoaaGreatDoor.Mem
open Go.ChangeShapes Go.WideShapes Go.ChangeAt Go.RowKit Base Byt Txt Bk Mk Block Hp Head Attr Rec Path Go.Lib Go.Shelf
set_option linter.unusedVariables false
set_option maxRecDepth 100000
section
variable {w0 w w':World} {K:RK} {a:Nat} {s:RS} {mb:Option Nat} {v:Value} {xs:List MP} {q:Option Addr} {n c:Nat}
def ownV (s:RS) (q:Option Addr) (n c:Nat):Option Addr × Nat × Nat:=if s.hasX=true then (q,n,c) else (none,0,0)
theorem look120 (h:MapK u8K w K.mw (waitF s q n c)) {q':Option Addr} {n' c':Nat} (ho:ownV s q n c=(q',n',c')) :
 (Instr.lookup 68 (.map (some K.mw)) (.int .u8 120) false).run Tryz.prog w=.ok (.agg #[.string ⟨#[]⟩,.slice q' n' c']) w:=by
 have:=h.look Tryz.underlying68 Tryz.underlying5 extZero 120;have e:waitF s q n c 120=if s.hasX=true then some (.agg #[.string ⟨#[]⟩,.slice q n c]) else none:=by unfold waitF;rw [if_pos rfl]
 rw [e] at this;unfold ownV at ho
 cases hx:s.hasX with
 | true =>
   rw [hx,if_pos rfl] at ho this
   cases ho
   exact this
 | false =>
   rw [hx,if_neg (by decide)] at ho this
   cases ho
   exact this
theorem Rd.ownAt (h:Rd w0 w K a s mb v xs q n c) {q':Option Addr} {n' c':Nat} (ho:ownV s q n c=(q',n',c')):RecsAt w q' n' s.own∧n'≤1048576:=by
 unfold ownV at ho
 cases hx:s.hasX with
 | true =>
   rw [hx,if_pos rfl] at ho
   cases ho
   refine ⟨h.own,?_⟩;have h1:=h.own.1;have h2:=h.ol.2;omega
 | false =>
   rw [hx,if_neg (by decide)] at ho
   cases ho
   rw [h.own0 hx];exact ⟨⟨rfl,fun h => absurd h (by omega)⟩,by omega⟩
theorem ext_field (w:World) (x:ByteArray) (p:Option Addr) (m d:Nat):(Instr.field 133 (.agg #[.string x,.slice p m d]) 1).run Tryz.prog w=.ok (.slice p m d) w:=by
 kernel_rfl
theorem renD_bd (h:HeadV) (hr:Rd w0 w K a s mb v xs q n c) (h1:h.name.length≤1048576) (h2:h.link.length≤1048576):(renD h s).name.length≤1048576∧(renD h s).link.length≤1048576:=by
 unfold renD;constructor
 ·show (s.name.getD h.name).length≤_
  cases hx:s.name with
  | none => exact h1
  | some t => exact hr.nl t hx
 ·show (s.link.getD h.link).length≤_
  cases hx:s.link with
  | none => exact h2
  | some t => exact hr.ll t hx
theorem apply_bd (h:HeadV) (hr:Rd w0 w K a s mb v xs q n c) (h0:0≤h.size) (h1:h.name.length≤1048576) (h2:h.link.length≤1048576) :
 0≤(applyD (lastD s.glob) s.own (renD h s)).1.size∧(applyD (lastD s.glob) s.own (renD h s)).1.name.length≤1048576∧(applyD (lastD s.glob) s.own (renD h s)).1.link.length≤1048576:=
 applyV_bd 1048576 (fun i _ => glob_len hr.gl hr.ol.1 _) h0 (renD_bd h hr h1 h2).1 (renD_bd h hr h1 h2).2
theorem apply_rd (h:HeadV) (hr:Rd w0 w K a s mb v xs q n c) {q':Option Addr} {n' c':Nat} (ho:ownV s q n c=(q',n',c')) (H:HeadV) :
 Calls Tryz.prog 83 #[.pointer (some ⟨K.gs,0,none⟩),.agg (headC H),.slice q' n' c'] w fun e w' => e=.returned (headA (applyD (lastD s.glob) s.own H))∧Below w.heap.size w w':=by
 obtain ⟨h1,h2⟩:=hr.ownAt ho;exact apply_any _ _ _ _ _ _ _ _ hr.st.ptr (by omega) h1 (fun i _ => Nat.le_trans (glob_len hr.gl hr.ol.1 _) (by decide))
theorem fromD_body (h:HeadV):(fromD h).1.body=[]:=by
 unfold fromD
 split
 ·rfl
 ·split
  ·rfl
  ·split
   ·rfl
   ·split<;>rfl
theorem fromD_size {h:HeadV} (h0:(fromD h).2=0):h.size≤1048576:=by
 unfold fromD at h0
 split at h0
 ·rename_i h1;exact absurd h0 h1
 ·split at h0
  ·exact absurd h0 (by decide)
  ·split at h0
   ·rename_i h1;exact absurd h0 h1
   ·split at h0
    ·rename_i h1;exact absurd h0 h1
    ·rename_i h1
     unfold sizeD at h1
     split at h1
     ·exact absurd (by decide) h1
     ·split at h1
      ·exact absurd (by decide) h1
      ·omega
end
end Go.Proofs.YtdjedimjhogdoaaGreatDoor.Mem
end
section
namespace Go.Proofs.YtdjedimjhogdoaaGreatDoor.Mem
open Go.ChangeShapes Go.WideShapes Go.ChangeAt Go.RowKit Go.Shelf Base Byt Txt Bk Mk Hp Head Attr Rec Go.Proofs.YtdjedimjhogdoaaGreatDoor.Mp Go.Lib
set_option linter.unusedVariables false
set_option maxRecDepth 100000
theorem ld_head (w:World) (g:Nat) (h:HeadV) (hb:Blk w g 57 (headC h)):(Instr.loadAt 57 (.pointer (some ⟨g,0,none⟩))).run Tryz.prog w=.ok (.agg (headC h)) w:=by
 have c0:=hb.cell;unfold headC at c0 ⊢
 go_simp
theorem wp_storeHH {o:Oper} {a:Act} {w:World} {K:Act → World → Prop} {Q:Exit → Act → World → Prop} (p x:Operand) (ho:o.op=.store 57 p x) (g:Nat) (hp:a.eval p=.pointer (some ⟨g,0,none⟩)) (h z:HeadV) (hx:a.eval x=.agg (headC h)) (hz:Blk w g 57 (headC z))
 (hK:∀ w',Blk w' g 57 (headC h) → Kept (oneB g) w w' → K (a.put o.dst undef) w'):Oper.wp Tryz.prog o a w K Q:=by
 have h9:=blk9 hz;have f0:=hz.frozen;have c0:=hz.cell;unfold headC at c0
 have k9:Kept (oneB g) w (((((((((w.setCell ⟨g,0,none⟩ (.string (str h.name))).setCell ⟨g,1,none⟩ (.string (str h.link))).setCell ⟨g,2,none⟩ (.int .u8 (h.kind.toNat:Int))).setCell ⟨g,3,none⟩ (.int .i64 h.mode)).setCell ⟨g,4,none⟩ (.int .i64 h.uid)).setCell ⟨g,5,none⟩ (.int .i64 h.gid)).setCell ⟨g,6,none⟩ (.int .i64 h.time)).setCell ⟨g,7,none⟩ (.int .i64 h.size)).setCell ⟨g,8,none⟩ (.bool h.gnu)):=
  (((((((((Kept.refl (oneB g) w).setCell (a:=⟨g,0,none⟩) (.inr rfl) _).setCell (a:=⟨g,1,none⟩) (.inr rfl) _).setCell (a:=⟨g,2,none⟩) (.inr rfl) _).setCell (a:=⟨g,3,none⟩) (.inr rfl) _).setCell (a:=⟨g,4,none⟩) (.inr rfl) _).setCell (a:=⟨g,5,none⟩) (.inr rfl) _).setCell (a:=⟨g,6,none⟩) (.inr rfl) _).setCell (a:=⟨g,7,none⟩) (.inr rfl) _).setCell (a:=⟨g,8,none⟩) (.inr rfl) _
 clear hz
 have hr:(execOp a.eval o).run Tryz.prog w=.ok .skip (((((((((w.setCell ⟨g,0,none⟩ (.string (str h.name))).setCell ⟨g,1,none⟩ (.string (str h.link))).setCell ⟨g,2,none⟩ (.int .u8 (h.kind.toNat:Int))).setCell ⟨g,3,none⟩ (.int .i64 h.mode)).setCell ⟨g,4,none⟩ (.int .i64 h.uid)).setCell ⟨g,5,none⟩ (.int .i64 h.gid)).setCell ⟨g,6,none⟩ (.int .i64 h.time)).setCell ⟨g,7,none⟩ (.int .i64 h.size)).setCell ⟨g,8,none⟩ (.bool h.gnu)):=by
  unfold headC at hx;generalize a.eval=ev at hp hx;simp [go_sem,execOp,ho,hp,hx,c0,f0,Result.andThen]
 unfold Oper.wp;rw [hr,Oper.upon_skip];exact hK _ (h9 _ _ _ _ _ _ _ _ _) k9
noncomputable def add5Ops:Array Oper:=regionAt Tryz.f54 5
def add5V (r gs mw bx:Nat) (h h':HeadV) (oq:Option Addr) (on oc:Nat) (ah:HeadV) (ae:Int):Nat → Value
 | 0 => .pointer (some ⟨r,0,none⟩) | 1 => .pointer (some ⟨r,0,none⟩) | 2 => .pointer (some ⟨r,1,none⟩) | 3 => .pointer (some ⟨gs,0,none⟩) | 4 => .pointer (some ⟨r,0,none⟩) | 5 => .agg (headC h) | 6 => .agg (headC h') | 7 => .pointer (some ⟨r,0,none⟩) | 8 => .pointer (some ⟨r,0,none⟩) | 9 => .pointer (some ⟨r,2,none⟩) | 10 => .map (some mw) | 11 => .agg #[.string ⟨#[]⟩,.slice oq on oc] | 12 => .slice oq on oc | 13 => .tuple #[.agg (headC ah),.int .i64 ae] | 14 => .tuple #[.agg (headC ah),.int .i64 ae] | 15 => .agg (headC ah) | 16 => .int .i64 ae | 18 => .int .i64 ae | _ => undef
theorem add5_size:add5Ops.size=19:=rfl
theorem add5_apart:apartG add5Ops 73=true:=by kernel_rfl
theorem add5_dst0:dstAt add5Ops 0=some 18:=rfl
theorem add5_op0:∃ o,add5Ops[0]? = some o∧o.op=.move (.tmp 0)∧o.dst=some 18:=⟨_,rfl,rfl,rfl⟩
theorem add5_dst1:dstAt add5Ops 1=some 19:=rfl
theorem add5_op1:∃ o,add5Ops[1]? = some o∧o.op=.nilCheck (.tmp 18)∧o.dst=some 19:=⟨_,rfl,rfl,rfl⟩
theorem add5_dst2:dstAt add5Ops 2=some 20:=rfl
theorem add5_op2:∃ o,add5Ops[2]? = some o∧o.op=.fieldAddr 70 (.tmp 19) 1∧o.dst=some 20:=⟨_,rfl,rfl,rfl⟩
theorem add5_dst3:dstAt add5Ops 3=some 21:=rfl
theorem add5_op3:∃ o,add5Ops[3]? = some o∧o.op=.load 67 (.tmp 20)∧o.dst=some 21:=⟨_,rfl,rfl,rfl⟩
theorem add5_dst4:dstAt add5Ops 4=some 22:=rfl
theorem add5_op4:∃ o,add5Ops[4]? = some o∧o.op=.move (.tmp 0)∧o.dst=some 22:=⟨_,rfl,rfl,rfl⟩
theorem add5_dst5:dstAt add5Ops 5=some 23:=rfl
theorem add5_op5:∃ o,add5Ops[5]? = some o∧o.op=.load 57 (.tmp 3)∧o.dst=some 23:=⟨_,rfl,rfl,rfl⟩
theorem add5_dst6:dstAt add5Ops 6=some 24:=rfl
theorem add5_op6:∃ o,add5Ops[6]? = some o∧o.op=.call { callee:=.value (.func 84),args:=#[.tmp 22,.tmp 23],argTypes:=#[63,57] }∧o.dst=some 24:=⟨_,rfl,rfl,rfl⟩
theorem add5_dst7:dstAt add5Ops 7=some 25:=rfl
theorem add5_op7:∃ o,add5Ops[7]? = some o∧o.op=.move (.tmp 0)∧o.dst=some 25:=⟨_,rfl,rfl,rfl⟩
theorem add5_dst8:dstAt add5Ops 8=some 26:=rfl
theorem add5_op8:∃ o,add5Ops[8]? = some o∧o.op=.nilCheck (.tmp 25)∧o.dst=some 26:=⟨_,rfl,rfl,rfl⟩
theorem add5_dst9:dstAt add5Ops 9=some 27:=rfl
theorem add5_op9:∃ o,add5Ops[9]? = some o∧o.op=.fieldAddr 70 (.tmp 26) 2∧o.dst=some 27:=⟨_,rfl,rfl,rfl⟩
theorem add5_dst10:dstAt add5Ops 10=some 28:=rfl
theorem add5_op10:∃ o,add5Ops[10]? = some o∧o.op=.load 68 (.tmp 27)∧o.dst=some 28:=⟨_,rfl,rfl,rfl⟩
theorem add5_dst11:dstAt add5Ops 11=some 29:=rfl
theorem add5_op11:∃ o,add5Ops[11]? = some o∧o.op=.lookup 68 (.tmp 28) (.const (.int .u8 120)) false∧o.dst=some 29:=⟨_,rfl,rfl,rfl⟩
theorem add5_dst12:dstAt add5Ops 12=some 30:=rfl
theorem add5_op12:∃ o,add5Ops[12]? = some o∧o.op=.field 133 (.tmp 29) 1∧o.dst=some 30:=⟨_,rfl,rfl,rfl⟩
theorem add5_dst13:dstAt add5Ops 13=some 31:=rfl
theorem add5_op13:∃ o,add5Ops[13]? = some o∧o.op=.call { callee:=.value (.func 83),args:=#[.tmp 21,.tmp 24,.tmp 30],argTypes:=#[67,57,73] }∧o.dst=some 31:=⟨_,rfl,rfl,rfl⟩
theorem add5_dst14:dstAt add5Ops 14=some 17:=rfl
theorem add5_op14:∃ o,add5Ops[14]? = some o∧o.op=.move (.tmp 31)∧o.dst=some 17:=⟨_,rfl,rfl,rfl⟩
theorem add5_dst15:dstAt add5Ops 15=some 32:=rfl
theorem add5_op15:∃ o,add5Ops[15]? = some o∧o.op=.extract (.tmp 17) 0∧o.dst=some 32:=⟨_,rfl,rfl,rfl⟩
theorem add5_dst16:dstAt add5Ops 16=some 33:=rfl
theorem add5_op16:∃ o,add5Ops[16]? = some o∧o.op=.extract (.tmp 17) 1∧o.dst=some 33:=⟨_,rfl,rfl,rfl⟩
theorem add5_dst17:dstAt add5Ops 17=none:=rfl
theorem add5_op17:∃ o,add5Ops[17]? = some o∧o.op=.store 57 (.tmp 3) (.tmp 32)∧o.dst=none:=⟨_,rfl,rfl,rfl⟩
theorem add5_dst18:dstAt add5Ops 18=some 5:=rfl
theorem add5_op18:∃ o,add5Ops[18]? = some o∧o.op=.assign (.tmp 33)∧o.dst=some 5:=⟨_,rfl,rfl,rfl⟩
structure W5 (w:World) (bx:Nat) (h ah:HeadV) (listed:Array Bool) (w':World):Prop where
 bel:Below w.heap.size w w'
 bf:listed.getD 17 false=false → Blk w' bx 57 (headC h)
 aft:listed.getD 17 false=true → Blk w' bx 57 (headC ah) ∧ ∀ j,j < 16 → listed.getD j false=true
theorem W5.keep {w w':World} {bx:Nat} {h ah:HeadV} {listed:Array Bool} (hW:W5 w bx h ah listed w') {j:Nat} (hlt:j < listed.size) (hj:j≠17):W5 w bx h ah (listed.setIfInBounds j true) w':=by
 have e:(listed.setIfInBounds j true).getD 17 false=listed.getD 17 false:=by rw [listed_get hlt,if_neg (Ne.symm hj)]
 refine ⟨hW.bel,fun hx => hW.bf (by rw [← e];exact hx),fun hx => ⟨(hW.aft (by rw [← e];exact hx)).1,fun i hi => ?_⟩⟩
 rw [listed_get hlt]
 split
 ·rfl
 ·exact (hW.aft (by rw [← e];exact hx)).2 i hi
theorem W5.not {w w':World} {bx:Nat} {h ah:HeadV} {listed:Array Bool} (hW:W5 w bx h ah listed w') {j:Nat} (hj:j < 16) (hlf:listed.getD j false=false):listed.getD 17 false=false:=by
 cases hx:listed.getD 17 false with
 | false => rfl
 | true => rw [(hW.aft hx).2 j hj] at hlf;cases hlf
theorem W5.call {w w' w2:World} {bx:Nat} {h ah:HeadV} {listed:Array Bool} (hW:W5 w bx h ah listed w') {j:Nat} (hlt:j < listed.size) (hj:j < 16) (hlf:listed.getD j false=false) (hb:Below w'.heap.size w' w2):W5 w bx h ah (listed.setIfInBounds j true) w2:=by
 have hn:=hW.not hj hlf;have e:(listed.setIfInBounds j true).getD 17 false=false:=by rw [listed_get hlt,if_neg (by omega)];exact hn
 refine ⟨hW.bel.trans (hb.mono hW.bel.size),fun _ => (hW.bf hn).below hb (hW.bf hn).lt,fun hx => ?_⟩
 rw [e] at hx
 cases hx
set_option maxHeartbeats 4000000 in
theorem add5_region {Q':Exit → Act → World → Prop} {a0:Act} {w w1:World} (r gs mw bx:Nat) (h h':HeadV) (oq:Option Addr) (on oc:Nat) (ah:HeadV) (ae:Int)
 (hsz:73≤a0.tmps.size) (h0:a0.eval (.tmp 0)=.pointer (some ⟨r,0,none⟩)) (h3:a0.eval (.tmp 3)=.pointer (some ⟨bx,0,none⟩)) (hbx:w.heap.size≤bx) (hb1:Below w.heap.size w w1) (hbox:Blk w1 bx 57 (headC h))
 (hS:∀ wi,Below w.heap.size w wi → (wi.cell? ⟨r,1,none⟩=some (.pointer (some ⟨gs,0,none⟩))∧wi.cell? ⟨r,2,none⟩=some (.map (some mw)))∧(Instr.lookup 68 (.map (some mw)) (.int .u8 120) false).run Tryz.prog wi=.ok (.agg #[.string ⟨#[]⟩,.slice oq on oc]) wi)
 (hren:∀ wi,Below w.heap.size w wi → Calls Tryz.prog 84 #[.pointer (some ⟨r,0,none⟩),.agg (headC h)] wi fun e w' => e=.returned (.agg (headC h'))∧Below wi.heap.size wi w')
 (happ:∀ wi,Below w.heap.size w wi → Calls Tryz.prog 83 #[.pointer (some ⟨gs,0,none⟩),.agg (headC h'),.slice oq on oc] wi fun e w' => e=.returned (.tuple #[.agg (headC ah),.int .i64 ae])∧Below wi.heap.size wi w')
 (hQ:∀ w',Below w.heap.size w w' → Blk w' bx 57 (headC ah) → Q' .normal ((((((((((((((((((a0.put (some 18) (.pointer (some ⟨r,0,none⟩))).put (some 19) (.pointer (some ⟨r,0,none⟩))).put (some 20) (.pointer (some ⟨r,1,none⟩))).put (some 21) (.pointer (some ⟨gs,0,none⟩))).put (some 22) (.pointer (some ⟨r,0,none⟩))).put (some 23) (.agg (headC h))).put (some 24) (.agg (headC h'))).put (some 25) (.pointer (some ⟨r,0,none⟩))).put (some 26) (.pointer (some ⟨r,0,none⟩))).put (some 27) (.pointer (some ⟨r,2,none⟩))).put (some 28) (.map (some mw))).put (some 29) (.agg #[.string ⟨#[]⟩,.slice oq on oc])).put (some 30) (.slice oq on oc)).put (some 31) (.tuple #[.agg (headC ah),.int .i64 ae])).put (some 17) (.tuple #[.agg (headC ah),.int .i64 ae])).put (some 32) (.agg (headC ah))).put (some 33) (.int .i64 ae)).put (some 5) (.int .i64 ae)) w') :
 wpAny Tryz.prog .any add5Ops Q' add5Ops.size (Array.replicate add5Ops.size false) a0 w1.drew:=by
 have no:∀ j,(Array.replicate add5Ops.size false).getD j false=false:=fun j => by
  rw [Array.getD_eq_getD_getElem?,Array.getElem?_replicate]
  split<;>rfl
 refine wpAny_ghost (Γ:=Unit) (fun _ => add5V r gs mw bx h h' oq on oc ah ae) () a0 (fun _ listed w' => W5 w bx h ah listed w') 73 add5_apart hsz ?_ ?_ ?_
 ·intro γ listed a w' j o hRI ho hun hdep
  have hlt:=lt_of_unlisted hun;have hW:=hRI.wd
  have hj:j < 19:=by
   have:=(Array.getElem?_eq_some_iff.1 ho).1
   rwa [add5_size] at this
  have same:∀ {j':Nat} {o':Oper},add5Ops[j']? = some o' → j=j' → o'=o:=fun {j' o'} h' e => by subst e;exact Option.some.inj (h'.symm.trans ho)
  have hlf:=getD_flip hun;have hne:∀ i,listed.getD i false=true → i≠j:=fun i hi e => by rw [e,hlf] at hi;cases hi
  rcases (show j=0 ∨ j=1 ∨ j=2 ∨ j=3 ∨ j=4 ∨ j=5 ∨ j=6 ∨ j=7 ∨ j=8 ∨ j=9 ∨ j=10 ∨ j=11 ∨ j=12 ∨ j=13 ∨ j=14 ∨ j=15 ∨ j=16 ∨ j=17 ∨ j=18 by omega) with rfl | rfl | rfl | rfl | rfl | rfl | rfl | rfl | rfl | rfl | rfl | rfl | rfl | rfl | rfl | rfl | rfl | rfl | rfl
  ·obtain ⟨o',ho',hop,hdst⟩:=add5_op0
   obtain rfl:=same ho' rfl;have e0:a.eval (.tmp 0)=.pointer (some ⟨r,0,none⟩):=(hRI.old (t:=0) (by kernel_rfl)).trans h0
   exact wp_move _ _ (Or.inl hop) e0 ⟨γ,fun _ _ => rfl,rfl,hW.keep hlt (by decide)⟩
  ·obtain ⟨o',ho',hop,hdst⟩:=add5_op1
   obtain rfl:=same ho' rfl;have e0:a.eval (.tmp 18)=.pointer (some ⟨r,0,none⟩):=(hRI.get ho hdep (i:=0) (d:=18) (by kernel_rfl) rfl)
   refine wp_run _ ?_ ⟨γ,fun _ _ => rfl,rfl,hW.keep hlt (by decide)⟩
   generalize a.eval=ev at e0 ⊢;simp [go_sem,execOp,hop,e0,add5V]
  ·obtain ⟨o',ho',hop,hdst⟩:=add5_op2
   obtain rfl:=same ho' rfl;have e0:a.eval (.tmp 19)=.pointer (some ⟨r,0,none⟩):=(hRI.get ho hdep (i:=1) (d:=19) (by kernel_rfl) rfl)
   refine wp_run _ ?_ ⟨γ,fun _ _ => rfl,rfl,hW.keep hlt (by decide)⟩
   generalize a.eval=ev at e0 ⊢;simp [go_sem,execOp,hop,e0,add5V]
  ·obtain ⟨o',ho',hop,hdst⟩:=add5_op3
   obtain rfl:=same ho' rfl;have e0:a.eval (.tmp 20)=.pointer (some ⟨r,1,none⟩):=(hRI.get ho hdep (i:=2) (d:=20) (by kernel_rfl) rfl)
   have q:=(hS w' hW.bel).1.1;refine wp_run _ ?_ ⟨γ,fun _ _ => rfl,rfl,hW.keep hlt (by decide)⟩
   generalize a.eval=ev at e0 ⊢;simp [go_sem,execOp,hop,e0,q,add5V]
  ·obtain ⟨o',ho',hop,hdst⟩:=add5_op4
   obtain rfl:=same ho' rfl;have e0:a.eval (.tmp 0)=.pointer (some ⟨r,0,none⟩):=(hRI.old (t:=0) (by kernel_rfl)).trans h0
   exact wp_move _ _ (Or.inl hop) e0 ⟨γ,fun _ _ => rfl,rfl,hW.keep hlt (by decide)⟩
  ·obtain ⟨o',ho',hop,hdst⟩:=add5_op5
   obtain rfl:=same ho' rfl;have e0:a.eval (.tmp 3)=.pointer (some ⟨bx,0,none⟩):=(hRI.old (t:=3) (by kernel_rfl)).trans h3
   refine wp_run _ ?_ ⟨γ,fun _ _ => rfl,rfl,hW.keep hlt (by decide)⟩
   have q:=ld_head w' bx h (hW.bf (hW.not (by omega) hlf))
   simp [execOp,hop,e0,q,Result.andThen,add5V]
  ·obtain ⟨o',ho',hop,hdst⟩:=add5_op6
   obtain rfl:=same ho' rfl;have e0:a.eval (.tmp 22)=.pointer (some ⟨r,0,none⟩):=(hRI.get ho hdep (i:=4) (d:=22) (by kernel_rfl) rfl)
   have e1:a.eval (.tmp 23)=.agg (headC h):=(hRI.get ho hdep (i:=5) (d:=23) (by kernel_rfl) rfl)
   refine wp_call _ _ _ hop #[.pointer (some ⟨r,0,none⟩),.agg (headC h)] (by simp [e0,e1]) (enters_of Tryz.func84 (by kernel_rfl) rfl) _ _ (hren w' hW.bel) (fun w2 hb => ⟨γ,fun _ _ => rfl,rfl,hW.call hlt (by omega) hlf hb⟩)
  ·obtain ⟨o',ho',hop,hdst⟩:=add5_op7
   obtain rfl:=same ho' rfl;have e0:a.eval (.tmp 0)=.pointer (some ⟨r,0,none⟩):=(hRI.old (t:=0) (by kernel_rfl)).trans h0
   exact wp_move _ _ (Or.inl hop) e0 ⟨γ,fun _ _ => rfl,rfl,hW.keep hlt (by decide)⟩
  ·obtain ⟨o',ho',hop,hdst⟩:=add5_op8
   obtain rfl:=same ho' rfl;have e0:a.eval (.tmp 25)=.pointer (some ⟨r,0,none⟩):=(hRI.get ho hdep (i:=7) (d:=25) (by kernel_rfl) rfl)
   refine wp_run _ ?_ ⟨γ,fun _ _ => rfl,rfl,hW.keep hlt (by decide)⟩
   generalize a.eval=ev at e0 ⊢;simp [go_sem,execOp,hop,e0,add5V]
  ·obtain ⟨o',ho',hop,hdst⟩:=add5_op9
   obtain rfl:=same ho' rfl;have e0:a.eval (.tmp 26)=.pointer (some ⟨r,0,none⟩):=(hRI.get ho hdep (i:=8) (d:=26) (by kernel_rfl) rfl)
   refine wp_run _ ?_ ⟨γ,fun _ _ => rfl,rfl,hW.keep hlt (by decide)⟩
   generalize a.eval=ev at e0 ⊢;simp [go_sem,execOp,hop,e0,add5V]
  ·obtain ⟨o',ho',hop,hdst⟩:=add5_op10
   obtain rfl:=same ho' rfl;have e0:a.eval (.tmp 27)=.pointer (some ⟨r,2,none⟩):=(hRI.get ho hdep (i:=9) (d:=27) (by kernel_rfl) rfl)
   have q:=(hS w' hW.bel).1.2;refine wp_run _ ?_ ⟨γ,fun _ _ => rfl,rfl,hW.keep hlt (by decide)⟩
   generalize a.eval=ev at e0 ⊢;simp [go_sem,execOp,hop,e0,q,add5V]
  ·obtain ⟨o',ho',hop,hdst⟩:=add5_op11
   obtain rfl:=same ho' rfl;have e0:a.eval (.tmp 28)=.map (some mw):=(hRI.get ho hdep (i:=10) (d:=28) (by kernel_rfl) rfl)
   exact wp_look _ _ _ hop _ _ _ e0 (evalC a _) (hS w' hW.bel).2 ⟨γ,fun _ _ => rfl,rfl,hW.keep hlt (by decide)⟩
  ·obtain ⟨o',ho',hop,hdst⟩:=add5_op12
   obtain rfl:=same ho' rfl;have e0:a.eval (.tmp 29)=.agg #[.string ⟨#[]⟩,.slice oq on oc]:=(hRI.get ho hdep (i:=11) (d:=29) (by kernel_rfl) rfl)
   refine wp_run _ ?_ ⟨γ,fun _ _ => rfl,rfl,hW.keep hlt (by decide)⟩
   have q:=ext_field w' ⟨#[]⟩ oq on oc;simp [execOp,hop,e0,q,Result.andThen,add5V]
  ·obtain ⟨o',ho',hop,hdst⟩:=add5_op13
   obtain rfl:=same ho' rfl;have e0:a.eval (.tmp 21)=.pointer (some ⟨gs,0,none⟩):=(hRI.get ho hdep (i:=3) (d:=21) (by kernel_rfl) rfl)
   have e1:a.eval (.tmp 24)=.agg (headC h'):=(hRI.get ho hdep (i:=6) (d:=24) (by kernel_rfl) rfl)
   have e2:a.eval (.tmp 30)=.slice oq on oc:=(hRI.get ho hdep (i:=12) (d:=30) (by kernel_rfl) rfl)
   refine wp_call _ _ _ hop #[.pointer (some ⟨gs,0,none⟩),.agg (headC h'),.slice oq on oc] (by simp [e0,e1,e2]) (enters_of Tryz.func83 (by kernel_rfl) rfl) _ _ (happ w' hW.bel) (fun w2 hb => ⟨γ,fun _ _ => rfl,rfl,hW.call hlt (by omega) hlf hb⟩)
  ·obtain ⟨o',ho',hop,hdst⟩:=add5_op14
   obtain rfl:=same ho' rfl;have e0:a.eval (.tmp 31)=.tuple #[.agg (headC ah),.int .i64 ae]:=(hRI.get ho hdep (i:=13) (d:=31) (by kernel_rfl) rfl)
   exact wp_move _ _ (Or.inl hop) e0 ⟨γ,fun _ _ => rfl,rfl,hW.keep hlt (by decide)⟩
  ·obtain ⟨o',ho',hop,hdst⟩:=add5_op15
   obtain rfl:=same ho' rfl;have e0:a.eval (.tmp 17)=.tuple #[.agg (headC ah),.int .i64 ae]:=(hRI.get ho hdep (i:=14) (d:=17) (by kernel_rfl) rfl)
   refine wp_run _ ?_ ⟨γ,fun _ _ => rfl,rfl,hW.keep hlt (by decide)⟩
   generalize a.eval=ev at e0 ⊢;simp [go_sem,execOp,hop,e0,add5V]
  ·obtain ⟨o',ho',hop,hdst⟩:=add5_op16
   obtain rfl:=same ho' rfl;have e0:a.eval (.tmp 17)=.tuple #[.agg (headC ah),.int .i64 ae]:=(hRI.get ho hdep (i:=14) (d:=17) (by kernel_rfl) rfl)
   refine wp_run _ ?_ ⟨γ,fun _ _ => rfl,rfl,hW.keep hlt (by decide)⟩
   generalize a.eval=ev at e0 ⊢;simp [go_sem,execOp,hop,e0,add5V]
  ·obtain ⟨o',ho',hop,hdst⟩:=add5_op17
   obtain rfl:=same ho' rfl;have e0:a.eval (.tmp 3)=.pointer (some ⟨bx,0,none⟩):=(hRI.old (t:=3) (by kernel_rfl)).trans h3
   have e1:a.eval (.tmp 32)=.agg (headC ah):=(hRI.get ho hdep (i:=15) (d:=32) (by kernel_rfl) rfl)
   have all:∀ j,j < 16 → listed.getD j false=true:=fun j hj => by
    rcases (show j=0 ∨ j=1 ∨ j=2 ∨ j=3 ∨ j=4 ∨ j=5 ∨ j=6 ∨ j=7 ∨ j=8 ∨ j=9 ∨ j=10 ∨ j=11 ∨ j=12 ∨ j=13 ∨ j=14 ∨ j=15 by omega) with rfl | rfl | rfl | rfl | rfl | rfl | rfl | rfl | rfl | rfl | rfl | rfl | rfl | rfl | rfl | rfl<;>exact dep_listed ho hdep (by kernel_rfl)
   refine wp_storeHH _ _ hop bx e0 ah h e1 (hW.bf hlf) (fun w2 hb2 hk => ⟨γ,fun _ _ => rfl,rfl,⟨hW.bel.trans (hk.below hW.bel.size (fun k hk => by rw [show k=bx from hk];exact hbx)),fun hx => ?_,fun _ => ⟨hb2,fun j hj => ?_⟩⟩⟩)
   ·rw [listed_get hlt,if_pos rfl] at hx
    cases hx
   ·rw [listed_get hlt]
    split
    ·rfl
    ·exact all j hj
  ·obtain ⟨o',ho',hop,hdst⟩:=add5_op18
   obtain rfl:=same ho' rfl;have e0:a.eval (.tmp 33)=.int .i64 ae:=(hRI.get ho hdep (i:=16) (d:=33) (by kernel_rfl) rfl)
   exact wp_move _ _ (Or.inr hop) e0 ⟨γ,fun _ _ => rfl,rfl,hW.keep hlt (by decide)⟩
 ·intro γ listed a w' hRI hall
  have all:∀ j,j < 19 → listed.getD j false=true:=fun j hj => hall j (by rw [add5_size];exact hj)
  have hW:=hRI.wd;rw [done_putAllG 73 add5_apart hsz hRI hall,add5_size];simp only [putAll,add5_dst0,add5_dst1,add5_dst2,add5_dst3,add5_dst4,add5_dst5,add5_dst6,add5_dst7,add5_dst8,add5_dst9,add5_dst10,add5_dst11,add5_dst12,add5_dst13,add5_dst14,add5_dst15,add5_dst16,add5_dst17,add5_dst18,put_none,add5V];exact hQ w' hW.bel (hW.aft (all 17 (by omega))).1
 ·exact ⟨hb1.drew,fun _ => hbox.drew,fun hx => by rw [no] at hx;cases hx⟩
end Go.Proofs.YtdjedimjhogdoaaGreatDoor.Mem
end
section
namespace Go.Proofs.YtdjedimjhogdoaaGreatDoor.Mem
open Go.ChangeShapes Go.WideShapes Go.ChangeAt Go.RowKit Go.Shelf Base Byt Txt Bk Mk Block Hp Head Attr Rec Go.Proofs.YtdjedimjhogdoaaGreatDoor.Mp Go.Lib
set_option linter.unusedVariables false
set_option maxRecDepth 100000
theorem ld_mem (w:World) (g:Nat) (y:MP) (hb:Blk w g 37 y.cs):(Instr.loadAt 37 (.pointer (some ⟨g,0,none⟩))).run Tryz.prog w=.ok (.agg y.cs) w:=by
 have c0:=hb.cell;unfold MP.cs memC at c0 ⊢
 go_simp
theorem bs_mem (w:World) (a b:ByteArray) (k m u i t:Int) (p:Option Addr) (n c:Nat):(Instr.buildSlice 25 1 #[(0,.agg #[.string a,.string b,.int .u8 k,.int .i64 m,.int .i64 u,.int .i64 i,.int .i64 t,.slice p n c])]).run Tryz.prog w =
 .ok (.slice (some ⟨w.heap.size,0,none⟩) 1 1) (w.alloc (.cells #[.string a,.string b,.int .u8 k,.int .i64 m,.int .i64 u,.int .i64 i,.int .i64 t,.slice p n c] 37)):=by kernel_rfl
theorem bs_memY (w:World) (y:MP):(Instr.buildSlice 25 1 #[(0,.agg y.cs)]).run Tryz.prog w=.ok (.slice (some ⟨w.heap.size,0,none⟩) 1 1) (w.alloc (.cells y.cs 37)):=bs_mem w _ _ _ _ _ _ _ _ _ _
theorem wp_append_member {w:World} {o:Oper} {b:Act} {Kk:Act → World → Prop} {Q:Exit → Act → World → Prop} (x y:Operand)
 (ho:o.op=.call { callee:=.builtin .append,args:=#[x,y],argTypes:=#[25,25] })
 (base:Nat) (v:Value) (xs:List MP) (hs:b.eval x=v) (hown:w.ownsRow base 37 8 v xs.length (flatM xs))
 (g:Nat) (d:Nat) (z:MP) (hx:b.eval y=.slice (some ⟨g,0,none⟩) 1 d) (hb:Blk w g 37 z.cs) (hsum:xs.length≤1000000) (hbase:base≤w.heap.size)
 (h:∀ v' w',w'.ownsRow base 37 8 v' (xs++[z]).length (flatM (xs++[z])) → w.grownBy w' v.ownBlock → NewOr w v v' → Kk (b.put o.dst v') w'):Oper.wp Tryz.prog o b w Kk Q:=by
 obtain ⟨i0,hi,hz0,hz1,hz2⟩:=info_parts infoMem
 obtain ⟨v',w',hr,h2,h3,h4⟩:=run_append_newS (P:=Tryz.prog) base 25 o.type 37 i0 _ 8 96 Tryz.underlying25 hi hz0 hz1 hz2 rfl (by decide) v xs.length (flatM xs) hown ⟨g,0,none⟩ 1 d z.cs.toList rfl (by
  intro j u hj;rw [WideShapes.add_plain,Nat.zero_add,hb.cell,← Array.getElem?_toList]
  exact hj) (fun u hu => flatM_one [z] u (by simpa [flatM] using hu)) (by unfold maxLen;omega) (by omega) hbase
 have hr2:(execOp b.eval o).run Tryz.prog w=.ok (.value v') w':=by simp [execOp,ho,resolve,invoke,builtin,hs,hx,hr,Result.andThen]
 unfold Oper.wp;rw [hr2,Oper.upon_value];rw [← flatM_snoc,show xs.length+1=(xs++[z]).length by simp] at h2
 exact h v' w' h2 h3 h4
def AppDone (base:Nat) (v:Value) (xs:List MP) (y:MP) (w1 wB:World) (va:Value):Prop:=
 ∃ wA,Below w1.heap.size w1 wA∧wB.ownsRow base 37 8 va (xs++[y]).length (flatM (xs++[y]))∧wA.grownBy wB v.ownBlock∧NewOr wA v va
noncomputable def add14Ops:Array Oper:=regionAt Tryz.f54 14
structure add14G where
 gb:Nat
 va:Value
def add14V (r bm:Nat) (v:Value) (y:MP) (γ:add14G):Nat → Value
 | 0 => .pointer (some ⟨r,0,none⟩) | 1 => .pointer (some ⟨r,0,none⟩) | 2 => .pointer (some ⟨r,0,none⟩) | 3 => .pointer (some ⟨r,3,none⟩) | 4 => v | 5 => .agg y.cs | 6 => .slice (some ⟨γ.gb,0,none⟩) 1 1 | 7 => γ.va | 8 => .pointer (some ⟨r,0,none⟩) | 9 => .pointer (some ⟨r,3,none⟩) | _ => undef
theorem add14_size:add14Ops.size=11:=rfl
theorem add14_apart:apartG add14Ops 73=true:=by kernel_rfl
theorem add14_dst0:dstAt add14Ops 0=some 59:=rfl
theorem add14_op0:∃ o,add14Ops[0]? = some o∧o.op=.move (.tmp 0)∧o.dst=some 59:=⟨_,rfl,rfl,rfl⟩
theorem add14_dst1:dstAt add14Ops 1=some 60:=rfl
theorem add14_op1:∃ o,add14Ops[1]? = some o∧o.op=.move (.tmp 0)∧o.dst=some 60:=⟨_,rfl,rfl,rfl⟩
theorem add14_dst2:dstAt add14Ops 2=some 61:=rfl
theorem add14_op2:∃ o,add14Ops[2]? = some o∧o.op=.nilCheck (.tmp 60)∧o.dst=some 61:=⟨_,rfl,rfl,rfl⟩
theorem add14_dst3:dstAt add14Ops 3=some 62:=rfl
theorem add14_op3:∃ o,add14Ops[3]? = some o∧o.op=.fieldAddr 70 (.tmp 61) 3∧o.dst=some 62:=⟨_,rfl,rfl,rfl⟩
theorem add14_dst4:dstAt add14Ops 4=some 63:=rfl
theorem add14_op4:∃ o,add14Ops[4]? = some o∧o.op=.load 25 (.tmp 62)∧o.dst=some 63:=⟨_,rfl,rfl,rfl⟩
theorem add14_dst5:dstAt add14Ops 5=some 64:=rfl
theorem add14_op5:∃ o,add14Ops[5]? = some o∧o.op=.load 37 (.tmp 6)∧o.dst=some 64:=⟨_,rfl,rfl,rfl⟩
theorem add14_dst6:dstAt add14Ops 6=some 65:=rfl
theorem add14_op6:∃ o,add14Ops[6]? = some o∧o.op=.buildSlice 25 1 #[(0,.tmp 64)]∧o.dst=some 65:=⟨_,rfl,rfl,rfl⟩
theorem add14_dst7:dstAt add14Ops 7=some 66:=rfl
theorem add14_op7:∃ o,add14Ops[7]? = some o∧o.op=.call { callee:=.builtin .append,args:=#[.tmp 63,.tmp 65],argTypes:=#[25,25] }∧o.dst=some 66:=⟨_,rfl,rfl,rfl⟩
theorem add14_dst8:dstAt add14Ops 8=some 67:=rfl
theorem add14_op8:∃ o,add14Ops[8]? = some o∧o.op=.nilCheck (.tmp 59)∧o.dst=some 67:=⟨_,rfl,rfl,rfl⟩
theorem add14_dst9:dstAt add14Ops 9=some 68:=rfl
theorem add14_op9:∃ o,add14Ops[9]? = some o∧o.op=.fieldAddr 70 (.tmp 67) 3∧o.dst=some 68:=⟨_,rfl,rfl,rfl⟩
theorem add14_dst10:dstAt add14Ops 10=none:=rfl
theorem add14_op10:∃ o,add14Ops[10]? = some o∧o.op=.store 25 (.tmp 68) (.tmp 66)∧o.dst=none:=⟨_,rfl,rfl,rfl⟩
theorem add14V_gb (r bm:Nat) (v:Value) (y:MP) (γ:add14G) (x:Nat) {i:Nat} (h:i≠6):add14V r bm v y { γ with gb:=x } i=add14V r bm v y γ i:=by
 unfold add14V
 split<;>first | rfl | (exfalso;omega)
theorem add14V_va (r bm:Nat) (v:Value) (y:MP) (γ:add14G) (x:Value) {i:Nat} (h:i≠7):add14V r bm v y { γ with va:=x } i=add14V r bm v y γ i:=by
 unfold add14V
 split<;>first | rfl | (exfalso;omega)
structure W14 (base r:Nat) (v:Value) (xs:List MP) (y:MP) (w1:World) (γ:add14G) (listed:Array Bool) (w':World):Prop where
 pre:listed.getD 7 false=false → Below w1.heap.size w1 w'
 bs:listed.getD 6 false=true → listed.getD 7 false=false → Blk w' γ.gb 37 y.cs
 ap:listed.getD 7 false=true → listed.getD 10 false=false → AppDone base v xs y w1 w' γ.va
 st:listed.getD 10 false=true → ∃ wB,AppDone base v xs y w1 wB γ.va∧w'=wB.setCell ⟨r,3,none⟩ γ.va
 c7:listed.getD 7 false=true → listed.getD 4 false=true∧listed.getD 6 false=true
 c6:listed.getD 6 false=true → listed.getD 5 false=true
 c10:listed.getD 10 false=true → listed.getD 7 false=true
theorem W14.keep {base r:Nat} {v:Value} {xs:List MP} {y:MP} {w1 w':World} {γ:add14G} {listed:Array Bool} (hW:W14 base r v xs y w1 γ listed w') {j:Nat} (hlt:j < listed.size) (hj:j≠6∧j≠7∧j≠10):W14 base r v xs y w1 γ (listed.setIfInBounds j true) w':=by
 have e6:(listed.setIfInBounds j true).getD 6 false=listed.getD 6 false:=by rw [listed_get hlt,if_neg (by omega)]
 have e7:(listed.setIfInBounds j true).getD 7 false=listed.getD 7 false:=by rw [listed_get hlt,if_neg (by omega)]
 have e10:(listed.setIfInBounds j true).getD 10 false=listed.getD 10 false:=by rw [listed_get hlt,if_neg (by omega)]
 have up:∀ i,listed.getD i false=true → (listed.setIfInBounds j true).getD i false=true:=fun i hi => by
  rw [listed_get hlt]
  split
  ·rfl
  ·exact hi
 exact ⟨by rw [e7];exact hW.pre,by rw [e6,e7];exact hW.bs,by rw [e7,e10];exact hW.ap,by rw [e10];exact hW.st,fun h => ⟨up _ (hW.c7 (by rw [← e7];exact h)).1,up _ (hW.c7 (by rw [← e7];exact h)).2⟩,fun h => up _ (hW.c6 (by rw [← e6];exact h)),by rw [e7,e10];exact hW.c10⟩
theorem W14.not7 {base r:Nat} {v:Value} {xs:List MP} {y:MP} {w1 w':World} {γ:add14G} {listed:Array Bool} (hW:W14 base r v xs y w1 γ listed w') {j:Nat} (hj:j=4 ∨ j=5 ∨ j=6) (hlf:listed.getD j false=false):listed.getD 7 false=false:=by
 cases hx:listed.getD 7 false with
 | false => rfl
 | true =>
   obtain ⟨h4,h6⟩:=hW.c7 hx;rcases hj with rfl | rfl | rfl
   ·rw [h4] at hlf;cases hlf
   ·rw [hW.c6 h6] at hlf;cases hlf
   ·rw [h6] at hlf;cases hlf
set_option maxHeartbeats 4000000 in
theorem add14_region {Q':Exit → Act → World → Prop} {a0:Act} {w1:World} (base r bm:Nat) (v:Value) (xs:List MP) (y:MP) (cs:Array Value)
 (hsz:73≤a0.tmps.size) (h0:a0.eval (.tmp 0)=.pointer (some ⟨r,0,none⟩)) (h6:a0.eval (.tmp 6)=.pointer (some ⟨bm,0,none⟩)) (hbm:Blk w1 bm 37 y.cs) (hbr:Blk w1 r 70 cs) (hc3:cs[3]? = some v) (hrv:v.ownBlock≠some r)
 (hrow:w1.ownsRow base 37 8 v xs.length (flatM xs)) (hbase:base≤w1.heap.size) (hxs:xs.length≤1000000)
 (hQ:∀ (γ:add14G) wB,AppDone base v xs y w1 wB γ.va → Q' .normal ((((((((((a0.put (some 59) (.pointer (some ⟨r,0,none⟩))).put (some 60) (.pointer (some ⟨r,0,none⟩))).put (some 61) (.pointer (some ⟨r,0,none⟩))).put (some 62) (.pointer (some ⟨r,3,none⟩))).put (some 63) (v)).put (some 64) (.agg y.cs)).put (some 65) (.slice (some ⟨γ.gb,0,none⟩) 1 1)).put (some 66) (γ.va)).put (some 67) (.pointer (some ⟨r,0,none⟩))).put (some 68) (.pointer (some ⟨r,3,none⟩))) (wB.setCell ⟨r,3,none⟩ γ.va)) :
 wpAny Tryz.prog .any add14Ops Q' add14Ops.size (Array.replicate add14Ops.size false) a0 w1.drew:=by
 have no:∀ j,(Array.replicate add14Ops.size false).getD j false=false:=fun j => by
  rw [Array.getD_eq_getD_getElem?,Array.getElem?_replicate]
  split<;>rfl
 refine wpAny_ghost (Γ:=add14G) (add14V r bm v y) { gb:=0,va:=undef } a0 (fun γ listed w' => W14 base r v xs y w1 γ listed w') 73 add14_apart hsz ?_ ?_ ?_
 ·intro γ listed a w' j o hRI ho hun hdep
  have hlt:=lt_of_unlisted hun;have hW:=hRI.wd
  have hj:j < 11:=by
   have:=(Array.getElem?_eq_some_iff.1 ho).1
   rwa [add14_size] at this
  have same:∀ {j':Nat} {o':Oper},add14Ops[j']? = some o' → j=j' → o'=o:=fun {j' o'} h' e => by subst e;exact Option.some.inj (h'.symm.trans ho)
  have hlf:=getD_flip hun;have hne:∀ i,listed.getD i false=true → i≠j:=fun i hi e => by rw [e,hlf] at hi;cases hi
  rcases (show j=0 ∨ j=1 ∨ j=2 ∨ j=3 ∨ j=4 ∨ j=5 ∨ j=6 ∨ j=7 ∨ j=8 ∨ j=9 ∨ j=10 by omega) with rfl | rfl | rfl | rfl | rfl | rfl | rfl | rfl | rfl | rfl | rfl
  ·obtain ⟨o',ho',hop,hdst⟩:=add14_op0
   obtain rfl:=same ho' rfl;have e0:a.eval (.tmp 0)=.pointer (some ⟨r,0,none⟩):=(hRI.old (t:=0) (by kernel_rfl)).trans h0
   exact wp_move _ _ (Or.inl hop) e0 ⟨γ,fun _ _ => rfl,rfl,hW.keep hlt (by decide)⟩
  ·obtain ⟨o',ho',hop,hdst⟩:=add14_op1
   obtain rfl:=same ho' rfl;have e0:a.eval (.tmp 0)=.pointer (some ⟨r,0,none⟩):=(hRI.old (t:=0) (by kernel_rfl)).trans h0
   exact wp_move _ _ (Or.inl hop) e0 ⟨γ,fun _ _ => rfl,rfl,hW.keep hlt (by decide)⟩
  ·obtain ⟨o',ho',hop,hdst⟩:=add14_op2
   obtain rfl:=same ho' rfl;have e0:a.eval (.tmp 60)=.pointer (some ⟨r,0,none⟩):=(hRI.get ho hdep (i:=1) (d:=60) (by kernel_rfl) rfl)
   refine wp_run _ ?_ ⟨γ,fun _ _ => rfl,rfl,hW.keep hlt (by decide)⟩
   generalize a.eval=ev at e0 ⊢;simp [go_sem,execOp,hop,e0,add14V]
  ·obtain ⟨o',ho',hop,hdst⟩:=add14_op3
   obtain rfl:=same ho' rfl;have e0:a.eval (.tmp 61)=.pointer (some ⟨r,0,none⟩):=(hRI.get ho hdep (i:=2) (d:=61) (by kernel_rfl) rfl)
   refine wp_run _ ?_ ⟨γ,fun _ _ => rfl,rfl,hW.keep hlt (by decide)⟩
   generalize a.eval=ev at e0 ⊢;simp [go_sem,execOp,hop,e0,add14V]
  ·obtain ⟨o',ho',hop,hdst⟩:=add14_op4
   obtain rfl:=same ho' rfl;have e0:a.eval (.tmp 62)=.pointer (some ⟨r,3,none⟩):=(hRI.get ho hdep (i:=3) (d:=62) (by kernel_rfl) rfl)
   have hn:=hW.not7 (.inl rfl) hlf;have q:=(hbr.below (hW.pre hn) hbr.lt).cell 3;rw [hc3] at q;refine wp_run _ ?_ ⟨γ,fun _ _ => rfl,rfl,hW.keep hlt (by decide)⟩
   generalize a.eval=ev at e0 ⊢;simp [go_sem,execOp,hop,e0,q,add14V]
  ·obtain ⟨o',ho',hop,hdst⟩:=add14_op5
   obtain rfl:=same ho' rfl;have e0:a.eval (.tmp 6)=.pointer (some ⟨bm,0,none⟩):=(hRI.old (t:=6) (by kernel_rfl)).trans h6
   have hn:=hW.not7 (.inr (.inl rfl)) hlf;refine wp_run _ ?_ ⟨γ,fun _ _ => rfl,rfl,hW.keep hlt (by decide)⟩
   have q:=ld_mem w' bm y (hbm.below (hW.pre hn) hbm.lt);simp [execOp,hop,e0,q,Result.andThen,add14V]
  ·obtain ⟨o',ho',hop,hdst⟩:=add14_op6
   obtain rfl:=same ho' rfl;have e0:a.eval (.tmp 64)=.agg y.cs:=(hRI.get ho hdep (i:=5) (d:=64) (by kernel_rfl) rfl)
   have hn:=hW.not7 (.inr (.inr rfl)) hlf;have q:=bs_memY w' y;have hr:(execOp a.eval o').run Tryz.prog w'=.ok (.value (.slice (some ⟨w'.heap.size,0,none⟩) 1 1)) (w'.alloc (.cells y.cs 37)):=by simp [execOp,hop,e0,q,Result.andThen]
   unfold Oper.wp;rw [hr,Oper.upon_value];have e7:(listed.setIfInBounds 6 true).getD 7 false=listed.getD 7 false:=by rw [listed_get hlt,if_neg (by decide)]
   have e10:(listed.setIfInBounds 6 true).getD 10 false=listed.getD 10 false:=by rw [listed_get hlt,if_neg (by decide)]
   refine ⟨{ γ with gb:=w'.heap.size },fun i hi => add14V_gb _ _ _ _ _ _ (hne i hi),rfl,⟨fun _ => (hW.pre hn).alloc (hW.pre hn).size _,fun _ _ => Blk.new w' _ _,fun hx => ?_,fun hx => ?_,fun hx => ?_,fun _ => (by rw [listed_get hlt,if_neg (by decide)];exact dep_listed ho hdep (by kernel_rfl)),fun hx => ?_⟩⟩
   ·rw [e7,hn] at hx;cases hx
   ·rw [e10] at hx;have:=hW.c10 hx;rw [hn] at this;cases this
   ·rw [e7,hn] at hx;cases hx
   ·rw [e10] at hx;have:=hW.c10 hx;rw [hn] at this;cases this
  ·obtain ⟨o',ho',hop,hdst⟩:=add14_op7
   obtain rfl:=same ho' rfl;have e0:a.eval (.tmp 63)=v:=(hRI.get ho hdep (i:=4) (d:=63) (by kernel_rfl) rfl)
   have e1:a.eval (.tmp 65)=.slice (some ⟨γ.gb,0,none⟩) 1 1:=(hRI.get ho hdep (i:=6) (d:=65) (by kernel_rfl) rfl)
   have l6:listed.getD 6 false=true:=dep_listed ho hdep (by kernel_rfl)
   have hp:=hW.pre hlf;have hbs:=hW.bs l6 hlf;have l4:listed.getD 4 false=true:=dep_listed ho hdep (by kernel_rfl)
   have n10:listed.getD 10 false=false:=by
    cases hx:listed.getD 10 false with
    | false => rfl
    | true => have:=hW.c10 hx;rw [hlf] at this;cases this
   have e10:(listed.setIfInBounds 7 true).getD 10 false=false:=by rw [listed_get hlt,if_neg (by decide)];exact n10
   have e7:(listed.setIfInBounds 7 true).getD 7 false=true:=by rw [listed_get hlt,if_pos rfl]
   refine wp_append_member _ _ hop base v xs e0 (row_below hrow hp) γ.gb 1 y e1 hbs hxs (Nat.le_trans hbase hp.size) (fun v' w2 h1 h2 h3 => ⟨{ γ with va:=v' },fun i hi => add14V_va _ _ _ _ _ _ (hne i hi),rfl,⟨fun hx => ?_,fun _ hx => ?_,fun _ _ => ⟨w',hp,h1,h2,h3⟩,fun hx => ?_,fun _ => ⟨?_,?_⟩,fun _ => ?_,fun hx => ?_⟩⟩)
   ·rw [e7] at hx;cases hx
   ·rw [e7] at hx;cases hx
   ·rw [e10] at hx;cases hx
   ·rw [listed_get hlt,if_neg (by decide)];exact l4
   ·rw [listed_get hlt,if_neg (by decide)];exact l6
   ·rw [listed_get hlt,if_neg (by decide)];exact hW.c6 l6
   ·rw [e10] at hx;cases hx
  ·obtain ⟨o',ho',hop,hdst⟩:=add14_op8
   obtain rfl:=same ho' rfl;have e0:a.eval (.tmp 59)=.pointer (some ⟨r,0,none⟩):=(hRI.get ho hdep (i:=0) (d:=59) (by kernel_rfl) rfl)
   refine wp_run _ ?_ ⟨γ,fun _ _ => rfl,rfl,hW.keep hlt (by decide)⟩
   generalize a.eval=ev at e0 ⊢;simp [go_sem,execOp,hop,e0,add14V]
  ·obtain ⟨o',ho',hop,hdst⟩:=add14_op9
   obtain rfl:=same ho' rfl;have e0:a.eval (.tmp 67)=.pointer (some ⟨r,0,none⟩):=(hRI.get ho hdep (i:=8) (d:=67) (by kernel_rfl) rfl)
   refine wp_run _ ?_ ⟨γ,fun _ _ => rfl,rfl,hW.keep hlt (by decide)⟩
   generalize a.eval=ev at e0 ⊢;simp [go_sem,execOp,hop,e0,add14V]
  ·obtain ⟨o',ho',hop,hdst⟩:=add14_op10
   obtain rfl:=same ho' rfl;have e0:a.eval (.tmp 68)=.pointer (some ⟨r,3,none⟩):=(hRI.get ho hdep (i:=9) (d:=68) (by kernel_rfl) rfl)
   have e1:a.eval (.tmp 66)=γ.va:=(hRI.get ho hdep (i:=7) (d:=66) (by kernel_rfl) rfl)
   have l7:listed.getD 7 false=true:=dep_listed ho hdep (by kernel_rfl)
   have hA:=hW.ap l7 hlf;obtain ⟨wA,g1,g2,g3,g4⟩:=hA;have hb2:Blk w' r 70 cs:=(g3.block r (hbr.below g1 hbr.lt).lt (fun e => hrv e.symm)).trans (hbr.below g1 hbr.lt)
   have c0:=hb2.cell 3;rw [hc3] at c0;have f0:=hb2.frozen 3
   obtain ⟨pv,lv,cv,hva⟩:∃ p l c,γ.va=.slice p l c:=by
    rcases g2.2 with ⟨h,_⟩ | ⟨_,_,_,h,_⟩
    ·exact ⟨_,_,_,h⟩
    ·exact ⟨_,_,_,h⟩
   have hr:(execOp a.eval o').run Tryz.prog w'=.ok .skip (w'.setCell ⟨r,3,none⟩ γ.va):=by
    rw [hva] at e1 ⊢;generalize a.eval=ev at e0 e1 ⊢;simp [go_sem,execOp,hop,e0,e1,c0,f0,Result.andThen]
   unfold Oper.wp;rw [hr,Oper.upon_skip];have e7:(listed.setIfInBounds 10 true).getD 7 false=true:=by rw [listed_get hlt,if_neg (by decide)];exact l7
   have e10:(listed.setIfInBounds 10 true).getD 10 false=true:=by rw [listed_get hlt,if_pos rfl]
   refine ⟨γ,fun _ _ => rfl,rfl,⟨fun hx => ?_,fun _ hx => ?_,fun _ hx => ?_,fun _ => ⟨w',⟨wA,g1,g2,g3,g4⟩,rfl⟩,fun _ => ?_,fun hx => ?_,fun _ => e7⟩⟩
   ·rw [e7] at hx;cases hx
   ·rw [e7] at hx;cases hx
   ·rw [e10] at hx;cases hx
   ·obtain ⟨k4,k6⟩:=hW.c7 l7
    exact ⟨by rw [listed_get hlt,if_neg (by decide)];exact k4,by rw [listed_get hlt,if_neg (by decide)];exact k6⟩
   ·rw [listed_get hlt,if_neg (by decide)] at hx ⊢;exact hW.c6 hx
 ·intro γ listed a w' hRI hall
  have all:∀ j,j < 11 → listed.getD j false=true:=fun j hj => hall j (by rw [add14_size];exact hj)
  obtain ⟨wB,hA,rfl⟩:=hRI.wd.st (all 10 (by omega))
  rw [done_putAllG 73 add14_apart hsz hRI hall,add14_size];simp only [putAll,add14_dst0,add14_dst1,add14_dst2,add14_dst3,add14_dst4,add14_dst5,add14_dst6,add14_dst7,add14_dst8,add14_dst9,add14_dst10,put_none,add14V];exact hQ γ wB hA
 ·exact ⟨fun _ => (Below.refl _ _).drew,fun hx => (by rw [no] at hx;cases hx),fun hx => (by rw [no] at hx;cases hx),fun hx => (by rw [no] at hx;cases hx),fun hx => (by rw [no] at hx;cases hx),fun hx => (by rw [no] at hx;cases hx),fun hx => (by rw [no] at hx;cases hx)⟩
end Go.Proofs.YtdjedimjhogdoaaGreatDoor.Mem
end
