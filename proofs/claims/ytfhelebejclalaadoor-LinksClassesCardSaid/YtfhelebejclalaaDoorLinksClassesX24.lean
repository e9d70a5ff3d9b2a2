/- Texts of this seat, merged: what the proof reaches. -/
import Derived.Test.YtfhelebejclalaaDoorLinksClassesX23
import Derived.Handy
namespace Go.Proofs.YtfhelebejclalaaDoor
namespace Base
end Base
namespace Bk
end Bk
namespace Block
end Block
namespace Byt
end Byt
namespace Lnk
end Lnk
namespace Mem
end Mem
namespace Rec
end Rec
namespace Tre
end Tre
namespace Txt
end Txt
end Go.Proofs.YtfhelebejclalaaDoor
section
namespace Go.Proofs.YtfhelebejclalaaDoor.Walk
open Go.ChangeShapes Go.WideShapes Go.ChangeAt Go.RowKit Base Byt Txt Bk Rec Block Mem Tre Lnk Go.Lib
set_option linter.unusedVariables false
set_option maxRecDepth 100000
structure RowsAt (w:World) (bq oq n:Nat) (cc:List (List (List UInt8))) (bf of_ df:Nat → Nat):Prop where
 out:∀ i,i < n → w.cell? ⟨bq,oq+i,none⟩=some (.slice (some ⟨bf i,of_ i,none⟩) (cc.getD i []).length (df i))
 txt:∀ i,i < n → ∀ k,k < (cc.getD i []).length → w.cell? ⟨bf i,of_ i+k,none⟩=some (.string (str ((cc.getD i []).getD k [])))
 lo:bq < w.heap.size
 los:∀ i,i < n → bf i < w.heap.size
theorem RowsAt.below {w w':World} {bq oq n:Nat} {cc:List (List (List UInt8))} {bf of_ df:Nat → Nat} (h:RowsAt w bq oq n cc bf of_ df) (hb:Below w.heap.size w w'):RowsAt w' bq oq n cc bf of_ df where
 out:=fun i hi => by rw [hb.cell (p:=⟨bq,oq+i,none⟩) h.lo];exact h.out i hi
 txt:=fun i hi k hk => by rw [hb.cell (p:=⟨bf i,of_ i+k,none⟩) (h.los i hi)];exact h.txt i hi k hk
 lo:=Nat.lt_of_lt_of_le h.lo hb.size
 los:=fun i hi => Nat.lt_of_lt_of_le (h.los i hi) hb.size
theorem rows_of {w:World} {q:Option Addr} {n:Nat} {cc:List (List (List UInt8))} (h:SSAt w q n cc) (h0:0 < n) (hne:∀ i,i < n → 0 < (cc.getD i []).length):∃ bq oq bf of_ df,q=some ⟨bq,oq,none⟩∧RowsAt w bq oq n cc bf of_ df:=by
 obtain ⟨_,ps,_,h3,h4⟩:=h;obtain ⟨bq,oq,rfl,hbq,hc⟩:=h4 h0;refine ⟨bq,oq,fun i => (ps.getD i (none,0)).1.elim 0 (·.block),fun i => (ps.getD i (none,0)).1.elim 0 (·.off),fun i => (ps.getD i (none,0)).2,rfl,?_⟩
 have key:∀ i,i < n → ∃ b o,(ps.getD i (none,0)).1=some ⟨b,o,none⟩∧b < w.heap.size ∧ ∀ k,k < (cc.getD i []).length → w.cell? ⟨b,o+k,none⟩=some (.string (str ((cc.getD i []).getD k []))):=fun i hi => (h3 i hi).2 (hne i hi)
 refine ⟨fun i hi => ?_,fun i hi k hk => ?_,hbq,fun i hi => ?_⟩<;>obtain ⟨b,o,e,hb,ht⟩:=key i hi
 ·rw [hc i hi,e];rfl
 ·show w.cell? ⟨(ps.getD i (none,0)).1.elim 0 (·.block),(ps.getD i (none,0)).1.elim 0 (·.off)+k,none⟩=_
  rw [e];exact ht k hk
 ·show (ps.getD i (none,0)).1.elim 0 (·.block) < _
  rw [e];exact hb
set_option maxHeartbeats 4000000 in
theorem linksClassesC (H:LinksC) (a0:Option Addr) (len0 cap0:Nat) (xs0:List NP) (w:World) (ma0:NodesAt w a0 len0 xs0) (lc0:len0≤cap0) (cm0:cap0≤maxLen) (by0:cap0 * 112≤140737488351232) (rm0:∀ x ∈ xs0,WfN x.m∧RoomN x)
 (hT:Path.Tabs w) :
 Calls Tryd.prog 7 #[.slice a0 len0 cap0] w fun e w' => e=.returned (.bool true)∧Below w.heap.size w w':=by
 have HS:=Lib.hid (light11_any a0 len0 cap0 xs0 w ma0 lc0 cm0 fun x hx => (rm0 x hx).2)
 have HAN:Hid (∀ w1,Below w.heap.size w w1 → Calls Tryd.prog 10 #[] w1 fun e w' => e=.returned (.bool true)∧Below w1.heap.size w1 w'):=Lib.hid fun w1 h => ans11_any H w1 (hT.below h)
 have HC:=Lib.hid H;have HA0:=Lib.hid ma0;have HT:=Lib.hid hT;have HL:=Lib.hid ma0.1;have HLC:=Lib.hid (And.intro lc0 cm0)
 have HRM:Hid (∀ x ∈ xs0,x.m.path.length≤140737488351232∧x.m.target.length≤140737488351232∧x.m.leader.length≤140737488351232∧x.m.body.length≤140737488351232):=Lib.hid (fun x hx => by
  have h1:=(rm0 x hx).2;have h2:=(ma0.2.1 x hx).le
  exact ⟨h1.1,h1.2.1,h1.2.2.1,by have:=h1.2.2.2;omega⟩)
 obtain ⟨s,hs⟩:∃ s,light11D (xs0.map NP.m)=s:=⟨_,rfl⟩;rw [hs] at HS;have HE:=Lib.hid hs;clear ma0 lc0 cm0 by0 rm0 hT hs H
 go_enter Tryd.func7,Tryd.ntmps7
 go_wp2_with fail
 refine HS.out.mono ?_
 rintro e w2 ⟨rfl,hb2⟩;have HB2:=Lib.hid hb2;clear HS hb2
 cases s with
 | false =>
   go_wp2_with fail
   refine (HAN.out _ HB2.out).mono ?_
   rintro e w3 ⟨rfl,hb3⟩;have FIN:=Lib.hid (HB2.out.trans (hb3.mono HB2.out.size));clear hb3
   go_wp2
   go_ret
   exact ⟨rfl,FIN.out⟩
 | true =>
   obtain ⟨hf1,_,hgood⟩:=light11D_facts HE.out;rw [List.length_map,HL.out] at hf1;have HG:=Lib.hid hgood;clear hgood;have HM:=Lib.hid (HC.out.classes w2 a0 len0 cap0 xs0 ⟨HA0.out.below HB2.out,HLC.out.1,HLC.out.2,hf1,HRM.out,HG.out⟩ (HT.out.below HB2.out))
   go_wp2_with fail
   refine HM.out.mono ?_
   rintro e w3 ⟨q,d,rfl,hcc,hb3⟩;have HB3:=Lib.hid (HB2.out.trans (hb3.mono HB2.out.size));have hcc0:=hcc;obtain ⟨cn,hcn⟩:∃ cn,(classesD (xs0.map NP.m)).length=cn:=⟨_,rfl⟩;rw [hcn] at hcc0 ⊢;have HCC:=Lib.hid hcc0;have HCN:=Lib.hid hcn
   have hc60:cn≤60:=by
    have:=cls_lenle (t:=xs0.map NP.m);rw [hcn,List.length_map,HL.out] at this;omega
   clear hcc hcc0 hb3 hcn HM
   go_wp2_with fail
   go_loopw [4,5] (fun m i wr => ∃ (i0 S:Nat),i0≤cn∧m=.int .i64 (S:Int)∧i=.int .i64 (i0:Int)∧Hid (sumL (xs0.map NP.m) i0=S)∧Hid (Below w3.heap.size w3 wr)) (fun _ i _ => cn - (RowKit.intOf i).toNat)
   case atStart => exact ⟨0,0,Nat.zero_le _,rfl,rfl,Lib.hid rfl,Lib.hid (Below.refl _ _)⟩
   case round =>
    obtain ⟨i,S,hi,rfl,rfl,HS,hB⟩:=hrel;obtain ⟨wo,rfl⟩:∃ x,x=wr:=⟨_,rfl⟩
    have hS:S≤3600:=by
     have h1:=sumL_le (t:=(xs0.map NP.m)) i (by rw [HCN.out];exact hi)
     rw [HS.out,List.length_map,HL.out] at h1;exact Nat.le_trans h1 (Nat.mul_le_mul (Nat.le_trans hi hc60) hf1)
    by_cases hlt:i < cn
    ·have hltz:(i:Int) < (cn:Int):=by omega
     obtain ⟨bq,oq,bf,of_,df,rfl,hR⟩:=rows_of HCC.out (by omega) (fun j hj => (cls_first HG.out (by rw [← cls_len,HCN.out];exact hj)).2)
     have HRW:=Lib.hid hR;obtain ⟨ci,hci⟩:∃ ci,(classesD (xs0.map NP.m)).getD i []=ci:=⟨_,rfl⟩;obtain ⟨cl,hcl⟩:∃ cl,ci.length=cl:=⟨_,rfl⟩;obtain ⟨F,hF⟩:∃ F,ci.getD 0 []=F:=⟨_,rfl⟩;have HCI:=Lib.hid (And.intro hci hcl);have HF:=Lib.hid hF
     have hcl0:0 < cl:=by
      have h:=(cls_first HG.out (i:=i) (by rw [← cls_len,HCN.out];exact hlt)).2
      rw [hci,hcl] at h;exact h
     have hcl60:cl≤60:=by
      have h:=cls_few (t:=(xs0.map NP.m)) (i:=i) (by rw [HCN.out];exact hlt)
      rw [hci,hcl,List.length_map,HL.out] at h;omega
     have hclz:((cl:Int) == 0)=false:=by rw [beq_eq_false_iff_ne];omega
     have hclz2:(0:Int) < (cl:Int):=by omega
     have hr:=HRW.out.below hB.out;have xi:=hr.out i hlt;rw [hci,hcl] at xi;have d0:=hr.txt i hlt 0 (by rw [hci,hcl];exact hcl0)
     rw [hci,hF,Nat.add_zero] at d0
     by_cases hi0:i=0
     ·have hi0z:¬ ((0:Int) < (i:Int)):=by omega
      have hi0n:¬ (0 < i):=by omega
      clear hr hR hci hcl hF hi0
      go_wp2_with fail
      go_quiet (fail)
      go_wp2_with fail
      go_loopw [4,6] (fun m j wr => ∃ (k:Nat),k≤cl∧m=.int .i64 ((S+k:Nat):Int)∧j=.int .i64 (k:Int)∧Hid (Below w3.heap.size w3 wr)) (fun _ j _ => cl - (RowKit.intOf j).toNat)
      case atStart => exact ⟨0,Nat.zero_le _,rfl,rfl,Lib.hid (below_drewN hB.out _)⟩
      case round =>
       obtain ⟨k,hk,rfl,rfl,hB4⟩:=hrel;obtain ⟨wi,rfl⟩:∃ x,x=wr:=⟨_,rfl⟩;have hr:=HRW.out.below hB4.out;have xi:=hr.out i hlt;rw [HCI.out.1,HCI.out.2] at xi
       by_cases hkl:k < cl
       ·have hklz:(k:Int) < (cl:Int):=by omega
        have dk:=hr.txt i hlt k (by rw [HCI.out.1,HCI.out.2];exact hkl)
        have hin:=cls_in HG.out (i:=i) (by rw [HCN.out];exact hlt) (k:=k) (by rw [HCI.out.1,HCI.out.2];exact hkl)
        rw [HCI.out.1] at hin dk;obtain ⟨pt,hpt⟩:∃ pt,ci.getD k []=pt:=⟨_,rfl⟩;rw [hpt] at dk hin;have HPT:=Lib.hid hpt;have HIN:=Lib.hid hin;have hfi:=rfind_any a0 len0 cap0 xs0 pt wi (HA0.out.below (HB3.out.trans (hB4.out.mono HB3.out.size))) (Nat.le_trans HLC.out.1 HLC.out.2);unfold RFindPost at hfi;rw [hin.1] at hfi;have HFI:=Lib.hid hfi;clear hin hpt hr hfi
        go_wp2_with fail
        refine HFI.out.mono ?_
        rintro e w4 ⟨u,rfl,hu,hui,hb4⟩
        have HU:Hid (u.m.kind=48∧u.m.leader=F):=Lib.hid (by
         have h2:u.m=nodeAt (xs0.map NP.m) pt:=hu;rw [h2,← HF.out]
         exact HIN.out.2)
        have HB4:=Lib.hid (hB4.out.trans (hb4.mono hB4.out.size));clear hu hui hb4 HFI dk xi;unfold NP.cs nodC
        go_upto_region 14 with fail
        obtain ⟨w5,hw5⟩:∃ w5,w4.alloc (.cells #[.string (str u.m.path),.string (str u.m.target),.string (str u.m.leader),.int .u8 (u.m.kind.toNat:Int),.int .i64 u.m.mode,.int .i64 u.m.uid,.int .i64 u.m.gid,.int .i64 u.m.time,.slice u.p u.m.body.length u.c] 45)=w5:=⟨_,rfl⟩;have h45:Below w4.heap.size w4 w5:=by rw [← hw5];exact (Below.refl _ _).alloc (Nat.le_refl _) _
        have hX5:Blk w5 w4.heap.size 45 #[.string (str u.m.path),.string (str u.m.target),.string (str u.m.leader),.int .u8 (u.m.kind.toNat:Int),.int .i64 u.m.mode,.int .i64 u.m.uid,.int .i64 u.m.gid,.int .i64 u.m.time,.slice u.p u.m.body.length u.c]:=by rw [← hw5];exact Blk.new w4 _ _
        have HB5:=Lib.hid (HB4.out.trans (h45.mono HB4.out.size));rw [hw5];have x2:=hX5.cell 2;have x3:=hX5.cell 3;simp only [List.getElem?_toArray,List.getElem?_cons_zero,List.getElem?_cons_succ] at x2 x3;rw [HU.out.2] at x2;rw [HU.out.1] at x3;have hks:((48:UInt8).toNat:Int)=48:=rfl;rw [hks] at x3;have em:=neqS F F;rw [decide_eq_true rfl] at em;have hr:=HRW.out.below HB5.out;have xi:=hr.out i hlt;rw [HCI.out.1,HCI.out.2] at xi;have dk:=hr.txt i hlt k (by rw [HCI.out.1,HCI.out.2];exact hkl)
        have d0:=hr.txt i hlt 0 (by rw [HCI.out.1,HCI.out.2];omega)
        rw [HCI.out.1,HPT.out] at dk;rw [HCI.out.1,HF.out,Nat.add_zero] at d0
        by_cases hk0:k=0
        ·have hk0z:¬ ((0:Int) < (k:Int)):=by omega
         have hk0n:¬ (0 < k):=by omega
         clear hw5 h45 hX5 hks hr hk0
         go_wp2_with fail
         go_quiet (fail)
         go_wp2
         go_roundw
         case rel => exact ⟨k+1,by omega,by go_num,by go_num,Lib.hid (below_drewN HB5.out _)⟩
         case measure => simp [RowKit.intOf];omega
        ·have dp:=hr.txt i hlt (k - 1) (by rw [HCI.out.1,HCI.out.2];omega)
         have hup:=cls_up HG.out (i:=i) (by rw [HCN.out];exact hlt) (k:=k - 1) (by rw [HCI.out.1,HCI.out.2];omega)
         rw [HCI.out.1,Nat.sub_add_cancel (by omega),HPT.out] at hup
         rw [HCI.out.1] at dp;obtain ⟨pp,hpp⟩:∃ pp,ci.getD (k - 1) []=pp:=⟨_,rfl⟩;rw [hpp] at dp hup;have ge:=geB pp pt;have ge2:Op.bytesLess (str pp).toList (str pt).toList=ltB pp pt:=by rw [str_toList,str_toList];rfl
         rw [hup] at ge ge2;have kz0:(0:Int) < (k:Int):=by omega
         have kn0:0 < k:=by omega
         have kz1:(1:Int)≤(k:Int):=by omega
         have kw:IntKind.i64.wrap ((k:Int) - 1)=(k:Int) - 1:=by rw [IntKind.wrap_i64];omega
         have kw0:(0:Int)≤(k:Int) - 1:=by omega
         have kw2:(k:Int) - 1 < (cl:Int):=by omega
         have kw3:((k:Int) - 1).toNat=k - 1:=by omega
         clear hw5 h45 hX5 hks hr hup hpp hk0
         go_wp2_with fail
         go_quiet (fail)
         go_wp2
         go_roundw
         case rel => exact ⟨k+1,by omega,by go_num,by go_num,Lib.hid (below_drewN HB5.out _)⟩
         case measure => simp [RowKit.intOf];omega
       ·have hke:k=cl:=by omega
        have hklz:¬ ((k:Int) < (cl:Int)):=by omega
        clear hr
        go_wp2_with fail
        go_roundw
        case rel => exact ⟨i+1,S+k,by omega,rfl,by go_num,Lib.hid (by rw [sumL_succ (by rw [HCN.out];exact hlt),HS.out,HCI.out.1,HCI.out.2,hke]),hB4⟩
        case measure => simp [RowKit.intOf];omega
     ·have xp:=hr.out (i - 1) (by omega)
      obtain ⟨cp,hcp⟩:∃ cp,((classesD (xs0.map NP.m)).getD (i - 1) []).length=cp:=⟨_,rfl⟩
      have hcp0:0 < cp:=by
       have h:=(cls_first HG.out (i:=i - 1) (by rw [← cls_len,HCN.out];omega)).2
       rw [hcp] at h;exact h
      have hcpz:(0:Int) < (cp:Int):=by omega
      have e0:=hr.txt (i - 1) (by omega) 0 (by rw [hcp];exact hcp0)
      rw [hcp] at xp;have hup:=cls_rise HG.out (i:=i - 1) (by rw [HCN.out];omega)
      rw [Nat.sub_add_cancel (by omega),hci,hF] at hup
      obtain ⟨pq,hpq⟩:∃ pq,((classesD (xs0.map NP.m)).getD (i - 1) []).getD 0 []=pq:=⟨_,rfl⟩;rw [hpq] at e0 hup;rw [Nat.add_zero] at e0;have ge:=geB pq F;have ge2:Op.bytesLess (str pq).toList (str F).toList=ltB pq F:=by rw [str_toList,str_toList];rfl
      rw [hup] at ge ge2;have iz0:(0:Int) < (i:Int):=by omega
      have in0:0 < i:=by omega
      have iz1:(1:Int)≤(i:Int):=by omega
      have iw:IntKind.i64.wrap ((i:Int) - 1)=(i:Int) - 1:=by rw [IntKind.wrap_i64];omega
      have iw0:(0:Int)≤(i:Int) - 1:=by omega
      have iw2:(i:Int) - 1 < (cn:Int):=by omega
      have iw3:((i:Int) - 1).toNat=i - 1:=by omega
      clear hr hR hci hcl hF hi0 hup hpq hcp
      go_wp2_with fail
      go_quiet (fail)
      go_wp2_with fail
      go_loopw [4,6] (fun m j wr => ∃ (k:Nat),k≤cl∧m=.int .i64 ((S+k:Nat):Int)∧j=.int .i64 (k:Int)∧Hid (Below w3.heap.size w3 wr)) (fun _ j _ => cl - (RowKit.intOf j).toNat)
      case atStart => exact ⟨0,Nat.zero_le _,rfl,rfl,Lib.hid (below_drewN hB.out _)⟩
      case round =>
       obtain ⟨k,hk,rfl,rfl,hB4⟩:=hrel;obtain ⟨wi,rfl⟩:∃ x,x=wr:=⟨_,rfl⟩;have hr:=HRW.out.below hB4.out;have xi:=hr.out i hlt;rw [HCI.out.1,HCI.out.2] at xi
       by_cases hkl:k < cl
       ·have hklz:(k:Int) < (cl:Int):=by omega
        have dk:=hr.txt i hlt k (by rw [HCI.out.1,HCI.out.2];exact hkl)
        have hin:=cls_in HG.out (i:=i) (by rw [HCN.out];exact hlt) (k:=k) (by rw [HCI.out.1,HCI.out.2];exact hkl)
        rw [HCI.out.1] at hin dk;obtain ⟨pt,hpt⟩:∃ pt,ci.getD k []=pt:=⟨_,rfl⟩;rw [hpt] at dk hin;have HPT:=Lib.hid hpt;have HIN:=Lib.hid hin;have hfi:=rfind_any a0 len0 cap0 xs0 pt wi (HA0.out.below (HB3.out.trans (hB4.out.mono HB3.out.size))) (Nat.le_trans HLC.out.1 HLC.out.2);unfold RFindPost at hfi;rw [hin.1] at hfi;have HFI:=Lib.hid hfi;clear hin hpt hr hfi
        go_wp2_with fail
        refine HFI.out.mono ?_
        rintro e w4 ⟨u,rfl,hu,hui,hb4⟩
        have HU:Hid (u.m.kind=48∧u.m.leader=F):=Lib.hid (by
         have h2:u.m=nodeAt (xs0.map NP.m) pt:=hu;rw [h2,← HF.out]
         exact HIN.out.2)
        have HB4:=Lib.hid (hB4.out.trans (hb4.mono hB4.out.size));clear hu hui hb4 HFI dk xi;unfold NP.cs nodC
        go_upto_region 14 with fail
        obtain ⟨w5,hw5⟩:∃ w5,w4.alloc (.cells #[.string (str u.m.path),.string (str u.m.target),.string (str u.m.leader),.int .u8 (u.m.kind.toNat:Int),.int .i64 u.m.mode,.int .i64 u.m.uid,.int .i64 u.m.gid,.int .i64 u.m.time,.slice u.p u.m.body.length u.c] 45)=w5:=⟨_,rfl⟩;have h45:Below w4.heap.size w4 w5:=by rw [← hw5];exact (Below.refl _ _).alloc (Nat.le_refl _) _
        have hX5:Blk w5 w4.heap.size 45 #[.string (str u.m.path),.string (str u.m.target),.string (str u.m.leader),.int .u8 (u.m.kind.toNat:Int),.int .i64 u.m.mode,.int .i64 u.m.uid,.int .i64 u.m.gid,.int .i64 u.m.time,.slice u.p u.m.body.length u.c]:=by rw [← hw5];exact Blk.new w4 _ _
        have HB5:=Lib.hid (HB4.out.trans (h45.mono HB4.out.size));rw [hw5];have x2:=hX5.cell 2;have x3:=hX5.cell 3;simp only [List.getElem?_toArray,List.getElem?_cons_zero,List.getElem?_cons_succ] at x2 x3;rw [HU.out.2] at x2;rw [HU.out.1] at x3;have hks:((48:UInt8).toNat:Int)=48:=rfl;rw [hks] at x3;have em:=neqS F F;rw [decide_eq_true rfl] at em;have hr:=HRW.out.below HB5.out;have xi:=hr.out i hlt;rw [HCI.out.1,HCI.out.2] at xi;have dk:=hr.txt i hlt k (by rw [HCI.out.1,HCI.out.2];exact hkl)
        have d0:=hr.txt i hlt 0 (by rw [HCI.out.1,HCI.out.2];omega)
        rw [HCI.out.1,HPT.out] at dk;rw [HCI.out.1,HF.out,Nat.add_zero] at d0
        by_cases hk0:k=0
        ·have hk0z:¬ ((0:Int) < (k:Int)):=by omega
         have hk0n:¬ (0 < k):=by omega
         clear hw5 h45 hX5 hks hr hk0
         go_wp2_with fail
         go_quiet (fail)
         go_wp2
         go_roundw
         case rel => exact ⟨k+1,by omega,by go_num,by go_num,Lib.hid (below_drewN HB5.out _)⟩
         case measure => simp [RowKit.intOf];omega
        ·have dp:=hr.txt i hlt (k - 1) (by rw [HCI.out.1,HCI.out.2];omega)
         have hup:=cls_up HG.out (i:=i) (by rw [HCN.out];exact hlt) (k:=k - 1) (by rw [HCI.out.1,HCI.out.2];omega)
         rw [HCI.out.1,Nat.sub_add_cancel (by omega),HPT.out] at hup
         rw [HCI.out.1] at dp;obtain ⟨pp,hpp⟩:∃ pp,ci.getD (k - 1) []=pp:=⟨_,rfl⟩;rw [hpp] at dp hup;have ge:=geB pp pt;have ge2:Op.bytesLess (str pp).toList (str pt).toList=ltB pp pt:=by rw [str_toList,str_toList];rfl
         rw [hup] at ge ge2;have kz0:(0:Int) < (k:Int):=by omega
         have kn0:0 < k:=by omega
         have kz1:(1:Int)≤(k:Int):=by omega
         have kw:IntKind.i64.wrap ((k:Int) - 1)=(k:Int) - 1:=by rw [IntKind.wrap_i64];omega
         have kw0:(0:Int)≤(k:Int) - 1:=by omega
         have kw2:(k:Int) - 1 < (cl:Int):=by omega
         have kw3:((k:Int) - 1).toNat=k - 1:=by omega
         clear hw5 h45 hX5 hks hr hup hpp hk0
         go_wp2_with fail
         go_quiet (fail)
         go_wp2
         go_roundw
         case rel => exact ⟨k+1,by omega,by go_num,by go_num,Lib.hid (below_drewN HB5.out _)⟩
         case measure => simp [RowKit.intOf];omega
       ·have hke:k=cl:=by omega
        have hklz:¬ ((k:Int) < (cl:Int)):=by omega
        clear hr
        go_wp2_with fail
        go_roundw
        case rel => exact ⟨i+1,S+k,by omega,rfl,by go_num,Lib.hid (by rw [sumL_succ (by rw [HCN.out];exact hlt),HS.out,HCI.out.1,HCI.out.2,hke]),hB4⟩
        case measure => simp [RowKit.intOf];omega
    ·have hie:i=cn:=by omega
     have hiz:¬ ((i:Int) < (cn:Int)):=by omega
     have HTO:Hid (cntF (xs0.map NP.m) len0=S):=Lib.hid (by
      have h1:=cls_total HG.out;rw [HCN.out,← hie,HS.out,List.length_map,HL.out] at h1
      exact h1.symm)
     have HB5:=Lib.hid (HB3.out.trans (hB.out.mono HB3.out.size))
     go_wp2_with fail
     go_loopw [4,9] (fun m j wr => ∃ (k c:Nat),k≤len0∧c≤k∧m=.int .i64 ((S:Int) - (c:Int))∧j=.int .i64 (k:Int)∧Hid (cntF (xs0.map NP.m) k=c)∧Hid (Below w.heap.size w wr)) (fun _ j _ => len0 - (RowKit.intOf j).toNat)
     case atStart => exact ⟨0,0,Nat.zero_le _,Nat.le_refl _,by go_num,rfl,Lib.hid rfl,HB5⟩
     case round =>
      obtain ⟨k,c,hk,hck,rfl,rfl,HK,hB6⟩:=hrel;obtain ⟨wi,rfl⟩:∃ x,x=wr:=⟨_,rfl⟩
      by_cases hkl:k < len0
      ·have hklz:(k:Int) < (len0:Int):=by omega
       obtain ⟨b,o,rfl,hb,hBd,hc⟩:=(HA0.out.below hB6.out).cells9 hkl;have hcs:=cntF_succ (t:=(xs0.map NP.m)) (k:=k) (by rw [List.length_map,HL.out];exact hkl)
       rw [getN_map,HK.out] at hcs;obtain ⟨y,hy⟩:∃ y,xs0.getD k zeroQ=y:=⟨_,rfl⟩;rw [hy] at hc hcs;obtain ⟨c0,c1,c2,c3,c4,c5,c6,c7,c8⟩:=hc;have ek:=kind_ne1 y.m.kind 48 48 rfl;obtain ⟨kn,hkn⟩:∃ kn:Int,(y.m.kind.toNat:Int)=kn:=⟨_,rfl⟩;rw [hkn] at c3 ek;have HCS:=Lib.hid hcs;clear hcs hb hBd hy c0 c1 c2 c4 c5 c6 c7 c8 hkn
       by_cases h48:y.m.kind=48
       ·rw [decide_eq_true h48] at ek
        have HC2:Hid (cntF (xs0.map NP.m) (k+1)=c+1):=Lib.hid (by rw [HCS.out,if_pos h48])
        clear h48
        go_wp2_with fail
        go_roundw
        case rel => exact ⟨k+1,c+1,by omega,by omega,by go_num,by go_num,HC2,hB6⟩
        case measure => simp [RowKit.intOf];omega
       ·rw [decide_eq_false h48] at ek
        have HC2:Hid (cntF (xs0.map NP.m) (k+1)=c):=Lib.hid (by rw [HCS.out,if_neg h48];rfl)
        clear h48
        go_wp2_with fail
        go_roundw
        case rel => exact ⟨k+1,c,by omega,by omega,rfl,by go_num,HC2,hB6⟩
        case measure => simp [RowKit.intOf];omega
      ·have hklz:¬ ((k:Int) < (len0:Int)):=by omega
       have hke:k=len0:=by omega
       have hsc:S=c:=by rw [← HTO.out,← HK.out,hke]
       have hn0:(S:Int) - (c:Int)=0:=by omega
       rw [hn0];clear hsc hn0
       go_wp2_with fail
       refine (HAN.out _ hB6.out).mono ?_
       rintro e w9 ⟨rfl,hb9⟩;have FIN:=Lib.hid (hB6.out.trans (hb9.mono hB6.out.size));clear hb9
       go_wp2
       go_ret
       exact ⟨rfl,FIN.out⟩
end Go.Proofs.YtfhelebejclalaaDoor.Walk
end
