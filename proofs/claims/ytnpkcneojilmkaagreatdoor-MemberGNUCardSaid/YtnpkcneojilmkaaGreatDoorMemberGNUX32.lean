/- Texts of this seat, merged: what the proof reaches. -/
import Derived.Test.YtnpkcneojilmkaaGreatDoorMemberGNUX23
import Derived.Test.YtnpkcneojilmkaaGreatDoorMemberGNUX31
import Derived.Test.YtnpkcneojilmkaaGreatDoorMemberGNUX24
import Derived.Lib.AppendStr
import Derived.Test.YtnpkcneojilmkaaGreatDoorMemberGNUX30
import Derived.Test.YtnpkcneojilmkaaGreatDoorMemberGNUX22
import Derived.BigRegion
import Derived.BigQuiet
import Derived.Deep.QuietTactic
import Derived.Deep.RegionHeldLaw
import Derived.Shelf.Bytes.SlIndexAt
import Derived.Test.YtnpkcneojilmkaaGreatDoorMemberGNUX29
import Derived.Test.YtnpkcneojilmkaaGreatDoorMemberGNUX13
section
namespace Go.Proofs.YtnpkcneojilmkaaGreatDoor.Rec
open Go.ChangeShapes Go.WideShapes Go.ChangeAt Go.RowKit Base Byt Txt Path Go.Lib
set_option linter.unusedVariables false
set_option maxRecDepth 100000
theorem nums_app (a b:List UInt8):nums (a++b)=nums a++nums b:=by simp [nums]
theorem cutD_le {l t:List UInt8} {m:Nat} (h:cutD l=some (t,m)):m≤l.length∧0 < m∧t.length≤l.length:=by
 unfold cutD at h
 split at h
 ·cases h
 ·split at h
  ·cases h
  ·split at h
   ·cases h
   ·cases h
    refine ⟨by omega,by omega,?_⟩
    rw [List.length_take,List.length_drop];omega
theorem recCutP_any (p:Option Addr) (n c:Nat) (bs:List UInt8) (w:World) (h0:0 < n) (hn:bs.length=n) (hc:n≤c) (hm:n≤1000000000000) (h:BAt w p n bs) (hN:Need w) :
 Calls Tryz.prog 107 #[.slice p n c] w fun e w' => e=.returned (cutAns (cutD bs))∧Below w.heap.size w w':=by
 obtain ⟨b,o,rfl,hcell⟩:=h h0;exact recCut_any b o n c bs w hn hc hm h hN
set_option maxHeartbeats 8000000 in
theorem recParse_any (p0:Option Addr) (n0 c0:Nat) (bs:List UInt8) (w:World) (hn:bs.length=n0) (hc:n0≤c0) (hm:n0≤1000000000000) (h:BAt w p0 n0 bs) (hN:Need w) :
 Calls Tryz.prog 81 #[.slice p0 n0 c0] w (RecsPost 5 9 bs w):=by
 have H:=Lib.hid h;have HT:=Lib.hid hN;have HN:=Lib.hid hn;have HN0:=Lib.hid hm;have HC0:=Lib.hid hc;obtain ⟨i0,hi,hz0,hz1,hz2⟩:=info_parts infoRec;have HI:=Lib.hid hi;have HZ0:=Lib.hid hz0;have HZ1:=Lib.hid hz1;have HZ2:=Lib.hid hz2;clear h hn hi hz0 hz1 hz2 hN hm hc
 go_enter Tryz.func81,Tryz.ntmps81
 go_wp2_with fail
 go_loopw [0,4] (fun b o wr => ∃ (l:List UInt8) (p:Option Addr) (n c:Nat) (acc:List (List UInt8 × List UInt8)),b=.slice p n c∧n≤c∧Hid (l.length=n)∧Hid (BAt w p n l)∧Hid (wr.ownsRow w.heap.size 37 2 o acc.length (flatR acc))∧Hid (recsFrom 5 9 l acc=recsD 5 9 bs)∧Hid (acc.length+n≤n0)∧Hid (Below w.heap.size w wr)) (fun b _ _ => match b with | .slice _ n _ => n | _ => 0)
 case atStart => exact ⟨bs,p0,n0,c0,[],rfl,HC0.out,HN,H,Lib.hid (World.ownsRow_nil _ _ _ _),Lib.hid rfl,Lib.hid (by simp),Lib.hid (Below.refl _ _)⟩
 case round =>
  obtain ⟨l,p,n,c,acc,rfl,hcc,hln,hbt,hown,hr,hlen,hB⟩:=hrel
  by_cases hl0:n=0
  ·subst hl0
   have hl:l=[]:=List.length_eq_zero_iff.1 hln.out;have hG:Hid (recsD 5 9 bs=(acc,0)):=Lib.hid (by rw [← hr.out,hl,recsFrom_nil])
   obtain ⟨q,cq,rfl,h1,h2,h3⟩:=recs_own hown.out;have H3:=Lib.hid (And.intro h1 (And.intro h2 h3));clear hl h1 h2 h3
   go_wp2
   go_ret2
   refine ⟨q,cq,by rw [hG.out];rfl,?_,H3.out.2.1,?_,hB.out⟩
   ·rw [hG.out];exact H3.out.1
   ·rw [hG.out];exact H3.out.2.2
  ·have hpos:(0:Int) < (n:Int):=by omega
   have HPOS:Hid (0 < n):=Lib.hid (by omega)
   have HNE:Hid (l≠[]):=Lib.hid (fun e => by have:=hln.out;rw [e] at this;exact hl0 (by simpa using this.symm))
   have hsm:(n:Int)≤1000000000000:=by have:=hlen.out;have:=HN0.out;omega
   have HG:Hid (∀ er,recStep 5 9 l=.error er → recsD 5 9 bs=([],er)):=Lib.hid (fun er he => by rw [← hr.out,recsFrom_step 5 9 l HNE.out,he])
   have HCUT:=Lib.hid (fun w1 h1 h2 => recCutP_any p n c l w1 HPOS.out hln.out hcc (by omega) h1 h2)
   have HRS:=Lib.hid (recStep_cutD 5 9 l);clear hl0
   cases hcut:cutD l with
   | none =>
     rw [hcut] at HCUT HRS;have E:Hid (recsD 5 9 bs=([],5)):=Lib.hid (HG.out 5 HRS.out);clear hcut
     go_wp2_with fail
     refine (HCUT.out _ (hbt.out.below hB.out) (HT.out.below hB.out)).mono ?_
     unfold cutAns;rintro e w1 ⟨rfl,hb1⟩;have HB1:=Lib.hid (hB.out.trans (hb1.mono hB.out.size));clear hb1
     go_wp2
     go_ret2
     exact recs_err 5 9 bs w _ 5 E.out HB1.out
   | some x =>
     obtain ⟨t,m⟩:=x;obtain ⟨hml,hm0,htl⟩:=cutD_le hcut;rw [hcut] at HCUT HRS;have HML:Hid (m≤n∧0 < m):=Lib.hid (by have:=hln.out;omega)
     have hmn:(m:Int)≤(n:Int):=by have:=HML.out;omega
     have hmpos:(0:Int) < (m:Int):=by omega
     have htl2:t.length≤1000000000000:=by have:=hln.out;omega
     have HTL:=Lib.hid htl2;have HQ:=Lib.hid (fun w1 => cutQ_any t w1 HTL.out)
     have HRT:=Lib.hid (fun w1 h1 => recRight_any t w1 HTL.out h1)
     clear hcut hml hm0 htl htl2
     by_cases hq:Lib.indexByte t 61 < 1
     ·have E:Hid (recsD 5 9 bs=([],5)):=Lib.hid (HG.out 5 (by
       rw [HRS.out];simp only
       rw [if_pos hq]))
      by_cases hq0:0≤Lib.indexByte t 61
      ·have hz:Lib.indexByte t 61=0:=by omega
       have HQ2:Hid (∀ w,Calls Tryz.prog 108 #[.string (str t),.string ⟨#[61]⟩] w fun e w' => e=.returned (.tuple #[.string ⟨#[]⟩,.string (str (t.drop 1)),.bool true]) ∧ ∃ n,w'=w.drewN n):=Lib.hid (fun w1 => by
        have:=HQ.out w1;unfold cutQ at this;rw [if_pos hq0,hz] at this
        exact this)
       clear hq hq0 hz
       go_wp2_with fail
       refine (HCUT.out _ (hbt.out.below hB.out) (HT.out.below hB.out)).mono ?_
       unfold cutAns;rintro e w1 ⟨rfl,hb1⟩;have HB1:=Lib.hid (hB.out.trans (hb1.mono hB.out.size));clear hb1
       go_wp2_with fail
       refine (HQ2.out _).mono ?_
       rintro e w2 ⟨rfl,nd,rfl⟩;have HB2:=Lib.hid (below_drewN HB1.out nd)
       go_wp2
       go_ret2
       exact recs_err 5 9 bs w _ 5 E.out HB2.out
      ·have HQ2:Hid (∀ w,Calls Tryz.prog 108 #[.string (str t),.string ⟨#[61]⟩] w fun e w' => e=.returned (.tuple #[.string (str t),.string (str []),.bool false]) ∧ ∃ n,w'=w.drewN n):=Lib.hid (fun w1 => by
        have:=HQ.out w1;unfold cutQ at this;rw [if_neg hq0] at this
        exact this)
       clear hq hq0
       go_wp2_with fail
       refine (HCUT.out _ (hbt.out.below hB.out) (HT.out.below hB.out)).mono ?_
       unfold cutAns;rintro e w1 ⟨rfl,hb1⟩;have HB1:=Lib.hid (hB.out.trans (hb1.mono hB.out.size));clear hb1
       go_wp2_with fail
       refine (HQ2.out _).mono ?_
       rintro e w2 ⟨rfl,nd,rfl⟩;have HB2:=Lib.hid (below_drewN HB1.out nd)
       go_wp2
       go_ret2
       exact recs_err 5 9 bs w _ 5 E.out HB2.out
     ·obtain ⟨k,hk⟩:∃ k:Nat,Lib.indexByte t 61=k:=⟨(Lib.indexByte t 61).toNat,by omega⟩
      obtain ⟨kk,hkk⟩:∃ kk,t.take k=kk:=⟨_,rfl⟩;obtain ⟨vv,hvv⟩:∃ vv,t.drop (k+1)=vv:=⟨_,rfl⟩;have hkl:=(List.getElem?_eq_some_iff.1 (Lib.indexByte_some hk).1).1
      have hkne:(str kk).toList.isEmpty=false:=by
       rw [str_empty,decide_eq_false_iff_not,← hkk];intro e;have:=congrArg List.length e;rw [List.length_take,List.length_nil] at this;omega
      have HQ2:Hid (∀ w,Calls Tryz.prog 108 #[.string (str t),.string ⟨#[61]⟩] w fun e w' => e=.returned (.tuple #[.string (str kk),.string (str vv),.bool true]) ∧ ∃ n,w'=w.drewN n):=Lib.hid (fun w1 => by
       have:=HQ.out w1;unfold cutQ at this;rw [if_pos (by omega),hk,Int.toNat_natCast] at this
       simp only [hkk,hvv] at this
       exact this)
      cases ht:textD t with
      | false =>
        rw [ht] at HRT
        have E:Hid (recsD 5 9 bs=([],9)):=Lib.hid (HG.out 9 (by
         rw [HRS.out];simp only
         rw [if_neg hq,if_pos ht]))
        clear hq hk hkk hvv ht hkl
        go_wp2_with fail
        refine (HCUT.out _ (hbt.out.below hB.out) (HT.out.below hB.out)).mono ?_
        unfold cutAns;rintro e w1 ⟨rfl,hb1⟩;have HB1:=Lib.hid (hB.out.trans (hb1.mono hB.out.size));clear hb1
        go_wp2_with fail
        refine (HQ2.out _).mono ?_
        rintro e w2 ⟨rfl,nd,rfl⟩;have HB2:=Lib.hid (below_drewN HB1.out nd)
        go_wp2_with fail
        refine (HRT.out _ (HT.out.below HB2.out).tabs).mono ?_
        rintro e w3 ⟨rfl,hb3⟩;have HB3:=Lib.hid (HB2.out.trans (hb3.mono HB2.out.size));clear hb3
        go_wp2
        go_ret2
        exact recs_err 5 9 bs w _ 9 E.out HB3.out
      | true =>
        rw [ht] at HRT
        have HST:Hid (recsFrom 5 9 (l.drop m) (acc++[(kk,vv)])=recsD 5 9 bs):=Lib.hid (by
         rw [← hr.out,recsFrom_step 5 9 l HNE.out,HRS.out];simp only;rw [if_neg hq,if_neg (by rw [ht];simp),hk,Int.toNat_natCast]
         simp only [hkk,hvv])
        have HBT2:Hid (BAt w (if c=m then p else p.map (·.add m)) (n - m) (l.drop m)):=Lib.hid (hbt.out.drop HML.out.1 hcc hln.out)
        have HLD:Hid ((l.drop m).length=n - m):=Lib.hid (by rw [List.length_drop,hln.out])
        clear hq hk hkk hvv ht hkl
        go_wp2_with fail
        refine (HCUT.out _ (hbt.out.below hB.out) (HT.out.below hB.out)).mono ?_
        unfold cutAns;rintro e w1 ⟨rfl,hb1⟩;have HB1:=Lib.hid (hB.out.trans (hb1.mono hB.out.size));have HO1:=Lib.hid (row_below hown.out hb1);clear hb1
        go_wp2_with fail
        refine (HQ2.out _).mono ?_
        rintro e w2 ⟨rfl,nd,rfl⟩;have HB2:=Lib.hid (below_drewN HB1.out nd);have HO2:=Lib.hid (row_below HO1.out (below_drewN (Below.refl w1.heap.size w1) nd))
        go_wp2_with fail
        refine (HRT.out _ (HT.out.below HB2.out).tabs).mono ?_
        rintro e w3 ⟨rfl,hb3⟩;have HB3:=Lib.hid (HB2.out.trans (hb3.mono HB2.out.size));have HO3:=Lib.hid (row_below HO2.out hb3);clear hb3;have HOWN:Hid (World.ownsRow (w3.alloc (.cells #[.string (str kk),.string (str vv)] 37)) w.heap.size 37 2 u4 acc.length (flatR acc)):=Lib.hid (HO3.out.alloc _);have HBD:Hid (Below w.heap.size w (w3.alloc (.cells #[.string (str kk),.string (str vv)] 37))):=Lib.hid (HB3.out.alloc HB3.out.size _)
        have HCL:Hid (∀ j u,([Value.string (str kk),.string (str vv)]:List Value)[j]? = some u → (w3.alloc (.cells #[.string (str kk),.string (str vv)] 37)).cell? ((⟨w3.heap.size,0,none⟩:Addr).add j)=some u):=Lib.hid (fun j u hj => by
         obtain ⟨g0,g1⟩:=cells2 w3 37 (.string (str kk)) (.string (str vv))
         match j,hj with
         | 0,hj => cases hj;exact g0
         | 1,hj => cases hj;exact g1
         | j+2,hj => simp at hj)
        have HAL:Hid (acc.length+1≤1000000000001):=Lib.hid (by have:=hlen.out;have:=HN0.out;omega)
        have HSZ1:Hid (w.heap.size≤(w3.alloc (.cells #[.string (str kk),.string (str vv)] 37)).heap.size):=Lib.hid HBD.out.size
        go_wp2_with (at_builtin;refine wpList_append_own _ rfl _ _ 106 rfl w.heap.size 37 i0 (.agg #[.string ⟨#[]⟩,.string ⟨#[]⟩]) 2 32 Tryz.underlying106 HI.out HZ0.out HZ1.out HZ2.out rfl (by decide) _ acc.length (flatR acc) rfl HOWN.out ⟨w3.heap.size,0,none⟩ 1 1 [.string (str kk),.string (str vv)] rfl rfl HCL.out (by
         intro u hu;rcases List.mem_cons.1 hu with rfl | hu
         ·rfl
         ·rcases List.mem_cons.1 hu with rfl | hu
          ·rfl
          ·(cases hu)) (by have:=HAL.out;unfold maxLen;omega) (by have:=HAL.out;omega) HSZ1.out ?_)
        intro v' w4 hown' hgrow _
        have HOW1:Hid (w4.ownsRow w.heap.size 37 2 v' (acc++[(kk,vv)]).length (flatR (acc++[(kk,vv)]))):=Lib.hid (by
         rw [flatR_snoc,List.length_append];exact hown')
        have HBW:Hid (Below w.heap.size w w4):=Lib.hid (HBD.out.grown hgrow HBD.out.size (fun b hb => by
         rcases HOWN.out.2 with ⟨rfl,_⟩ | ⟨g,cap,cur,rfl,hb2,_⟩
         ·cases hb
         ·cases hb;exact hb2))
        clear hown' hgrow
        go_wp2_with fail
        go_roundw
        case rel => exact ⟨l.drop m,_,n - m,c - m,acc++[(kk,vv)],rfl,by omega,HLD,HBT2,HOW1,HST,Lib.hid (by have h2:=hlen.out;have:=HML.out;rw [List.length_append];simp only [List.length_cons,List.length_nil];omega),HBW⟩
        case measure => have:=HML.out;simp;omega
end Go.Proofs.YtnpkcneojilmkaaGreatDoor.Rec
end
section
namespace Go.Proofs.YtnpkcneojilmkaaGreatDoor.Mem
open Go.ChangeShapes Go.WideShapes Go.ChangeAt Go.RowKit Base Byt Txt Bk Mk Block Hp Head Attr Rec Go.Lib Go.Shelf
set_option linter.unusedVariables false
set_option maxRecDepth 100000
theorem cutP_any (p:Option Addr) (n b2:Nat) (bs:List UInt8) (w:World) (hn:bs.length=n) (hm:n≤140737488351232) (h:BAt w p n bs) (h2:w.cell? ⟨b2,0,none⟩=some (.int .u8 0)) :
 Calls Tryz.prog 80 #[.slice p n n,.slice (some ⟨b2,0,none⟩) 1 1] w fun e w' => ∃ v2 v3,e=.returned (.tuple #[.slice p (untilB bs).length n,v2,v3])∧Kept noneB w w':=by
 rcases Nat.eq_zero_or_pos n with h0 | h0
 ·subst h0
  obtain rfl:bs=[]:=List.eq_nil_of_length_eq_zero hn;rcases p with _ | x
  ·refine (Any.bytes_Cut_of Tryz.laysCut none (some ⟨b2,0,none⟩) 0 0 1 1 (-1) w (Nat.le_refl _) (by omega) (by omega) (by omega) ((Any.bytes_Index_one_nil Tryz.laysCut.index b2 0 1 0 w h2).mono fun e w' he => ⟨he.1,0,he.2⟩)).mono ?_
   rintro e w' ⟨rfl,q,rfl⟩;unfold Lib.cutV;rw [if_neg (by omega)]
   exact ⟨_,_,rfl,(Kept.refl _ _).drewN _⟩
  ·refine (Any.bytes_Cut_of Tryz.laysCut (some x) (some ⟨b2,0,none⟩) 0 0 1 1 (-1) w (Nat.le_refl _) (by omega) (by omega) (by omega) ((Any.bytes_Index_one_at Tryz.laysCut.index x 0 0 b2 0 1 [] 0 w rfl (fun i hi => absurd hi (by omega)) h2).mono fun e w' he => ⟨he.1,0,he.2⟩)).mono ?_
   rintro e w' ⟨rfl,q,rfl⟩;unfold Lib.cutV;rw [if_neg (by omega)]
   exact ⟨_,_,rfl,(Kept.refl _ _).drewN _⟩
 ·obtain ⟨b,o,rfl,_⟩:=h h0
  exact cut_any b o n n b2 bs w hn (Nat.le_refl _) hm h h2
section
variable {w0 w w':World} {K:RK} {a:Nat} {s:RS} {mb:Option Nat} {v:Value} {xs:List MP} {q:Option Addr} {n c:Nat}
theorem wait_agg (s:RS) (q:Option Addr) (n c:Nat) (k:UInt8):∃ x p m d,(waitF s q n c k).getD (.agg #[.string ⟨#[]⟩,.slice none 0 0])=.agg #[.string x,.slice p m d]:=by
 unfold waitF
 by_cases h1:k=120
 ·rw [if_pos h1]
  by_cases h2:s.hasX=true
  ·rw [if_pos h2];exact ⟨_,_,_,_,rfl⟩
  ·rw [if_neg h2];exact ⟨_,_,_,_,rfl⟩
 ·rw [if_neg h1]
  by_cases h2:k=76
  ·rw [if_pos h2]
   cases s.name<;>exact ⟨_,_,_,_,rfl⟩
  ·rw [if_neg h2]
   by_cases h3:k=75
   ·rw [if_pos h3]
    cases s.link<;>exact ⟨_,_,_,_,rfl⟩
   ·rw [if_neg h3];exact ⟨_,_,_,_,rfl⟩
theorem body_ok (w:World) (g a t:Nat) (S:Sv) (h:Block.Src w g S a t) (ho:S.off g) (k:Nat) (hk:k≤1048576) (X:List UInt8) (hX:(S.bs.drop a).take k=X) (hl:a+padN k≤S.n) :
 Calls Tryz.prog 79 #[.pointer (some ⟨g,0,none⟩),.int .i64 (k:Int)] w fun e w' => ∃ p t',e=.returned (.tuple #[.slice p k k,.int .i64 0])∧BAt w' p k X∧(∀ x,p=some x → w.heap.size≤x.block)∧Block.Src w' g S (a+padN k) t'∧Kept (oneB g) w w':=by
 refine (body_any w g a t S h ho k (by omega)).mono ?_
 rintro e w' (⟨_,p,rfl,h2,h3,⟨t',h4⟩,h5⟩ | ⟨h1,_⟩)
 ·exact ⟨p,t',rfl,by rw [← hX];exact h2,h3,h4,h5⟩
 ·omega
theorem body_no (w:World) (g a t:Nat) (S:Sv) (h:Block.Src w g S a t) (ho:S.off g) (k:Nat) (hk:k≤1048576) (hl:S.n < a+padN k) :
 Calls Tryz.prog 79 #[.pointer (some ⟨g,0,none⟩),.int .i64 (k:Int)] w fun e w' => ∃ t',e=.returned (.tuple #[.slice none 0 0,.int .i64 2])∧Block.Src w' g S S.n t'∧Kept (oneB g) w w':=by
 refine (body_any w g a t S h ho k (by omega)).mono ?_
 rintro e w' (⟨h1,_⟩ | ⟨_,rfl,⟨t',h4⟩,h5⟩)
 ·omega
 ·exact ⟨t',rfl,h4,h5⟩
def Left (w0:World) (K:RK) (a:Nat) (s:RS) (w':World):Prop:=∃ mb v xs q n c,Rd w0 w' K a s mb v xs q n c
set_option maxHeartbeats 2000000 in
theorem ext_waits (hr:Rd w0 w K a s mb v xs q n c) (h:HeadV) (hw:(waitF s q n c h.kind).isSome=true) :
 Calls Tryz.prog 55 #[.pointer (some ⟨K.r,0,none⟩),.agg (headC h)] w fun e w' => e=.returned (.int .i64 5)∧Below w.heap.size w w':=by
 have HR:=Lib.hid hr;obtain ⟨kn,hkn⟩:∃ kn:Int,(h.kind.toNat:Int)=kn:=⟨_,rfl⟩;obtain ⟨W1,hW1⟩:∃ W1,w.alloc (.cells (headC h) 41)=W1:=⟨_,rfl⟩;have hB1:Below w.heap.size w W1:=by rw [← hW1];exact (Below.refl _ w).alloc (Nat.le_refl _) _
 have b1:Blk W1 w.heap.size 41 (headC h):=by rw [← hW1];exact Blk.new w _ _
 have R1:=hr.below hB1;have hB2:Below w.heap.size w (W1.alloc (.cells #[.string ⟨#[]⟩,.slice none 0 0] 131)):=hB1.alloc hB1.size _;have R2:=hr.below hB2;have l1:=look_ext (R1.idle ((Kept.refl noneB _).drew)).map h.kind kn hkn;have l2:=look_ext (R2.idle ((Kept.refl noneB _).drew)).map h.kind kn hkn;obtain ⟨ex,ep,em,ed,hv⟩:=wait_agg s q n c h.kind;rw [hv,hw] at l1 l2;have x2:=R1.c2;have k2:=b1.cell 2;simp only [headC,List.getElem?_toArray,List.getElem?_cons_zero,List.getElem?_cons_succ,hkn] at k2;have y2:=R2.c2;have j2:=(b1.alloc (.cells #[.string ⟨#[]⟩,.slice none 0 0] 131)).cell 2
 simp only [headC,List.getElem?_toArray,List.getElem?_cons_zero,List.getElem?_cons_succ,hkn] at j2;have HB1:=Lib.hid hB1;have HX:=Lib.hid b1;have HKN:=Lib.hid hkn;clear hr hw hkn hv R1 R2 b1 hB1 hB2
 go_enter Tryz.func55,Tryz.ntmps55
 go_upto_region 1 with fail
 clear hW1
 go_cut [5,6] from 13 to 22 (fun s5 s6 wx => s5=.pointer (some ⟨W1.heap.size,0,none⟩)∧s6=.bool true∧wx=(W1.alloc (.cells #[.string ex,.slice ep em ed] 131)).drew)
 case first =>
  go_region
  all_goals (go_wp2;go_meet;exact ⟨rfl,rfl,rfl⟩)
 case rest =>
  obtain ⟨rfl,rfl,rfl⟩:=hcut;clear l1 l2 x2 k2 y2 j2;have hB2:Below w.heap.size w (W1.alloc (.cells #[.string ex,.slice ep em ed] 131)).drew:=((HB1.out.alloc HB1.out.size _)).drew;have HX2:Hid (Blk (W1.alloc (.cells #[.string ex,.slice ep em ed] 131)).drew w.heap.size 41 (headC h)):=Lib.hid ((HX.out.alloc _).drew);obtain ⟨W2,hW2⟩:∃ W2,(W1.alloc (.cells #[.string ex,.slice ep em ed] 131)).drew=W2:=⟨_,rfl⟩;rw [hW2] at hB2 HX2 ⊢;clear hW2;have HB2:=Lib.hid hB2;have HR2:=Lib.hid (HR.out.below hB2);clear hB2 HB1 HX
  go_wp2
  go_ret
  exact ⟨rfl,HB2.out⟩
set_option maxHeartbeats 2000000 in
theorem ext_large (hr:Rd w0 w K a s mb v xs q n c) (h:HeadV) (hw:waitF s q n c h.kind=none) (hz:1048576 < h.size) :
 Calls Tryz.prog 55 #[.pointer (some ⟨K.r,0,none⟩),.agg (headC h)] w fun e w' => e=.returned (.int .i64 10)∧Below w.heap.size w w':=by
 have HR:=Lib.hid hr;obtain ⟨kn,hkn⟩:∃ kn:Int,(h.kind.toNat:Int)=kn:=⟨_,rfl⟩;obtain ⟨W1,hW1⟩:∃ W1,w.alloc (.cells (headC h) 41)=W1:=⟨_,rfl⟩;have hB1:Below w.heap.size w W1:=by rw [← hW1];exact (Below.refl _ w).alloc (Nat.le_refl _) _
 have b1:Blk W1 w.heap.size 41 (headC h):=by rw [← hW1];exact Blk.new w _ _
 have R1:=hr.below hB1;have hB2:Below w.heap.size w (W1.alloc (.cells #[.string ⟨#[]⟩,.slice none 0 0] 131)):=hB1.alloc hB1.size _;have R2:=hr.below hB2;have l1:=look_ext (R1.idle ((Kept.refl noneB _).drew)).map h.kind kn hkn;have l2:=look_ext (R2.idle ((Kept.refl noneB _).drew)).map h.kind kn hkn;rw [hw] at l1 l2;simp only [Option.getD_none,Option.isSome_none] at l1 l2;have x2:=R1.c2;have k2:=b1.cell 2;simp only [headC,List.getElem?_toArray,List.getElem?_cons_zero,List.getElem?_cons_succ,hkn] at k2;have y2:=R2.c2;have j2:=(b1.alloc (.cells #[.string ⟨#[]⟩,.slice none 0 0] 131)).cell 2
 simp only [headC,List.getElem?_toArray,List.getElem?_cons_zero,List.getElem?_cons_succ,hkn] at j2;have HB1:=Lib.hid hB1;have HX:=Lib.hid b1;have HKN:=Lib.hid hkn;clear hr hw hkn R1 R2 b1 hB1 hB2
 go_enter Tryz.func55,Tryz.ntmps55
 go_upto_region 1 with fail
 clear hW1
 go_cut [5,6] from 13 to 22 (fun s5 s6 wx => s5=.pointer (some ⟨W1.heap.size,0,none⟩)∧s6=.bool false∧wx=(W1.alloc (.cells #[.string ⟨#[]⟩,.slice none 0 0] 131)).drew)
 case first =>
  go_region
  all_goals (go_wp2;go_meet;exact ⟨rfl,rfl,rfl⟩)
 case rest =>
  obtain ⟨rfl,rfl,rfl⟩:=hcut;clear l1 l2 x2 k2 y2 j2;have hB2:Below w.heap.size w (W1.alloc (.cells #[.string ⟨#[]⟩,.slice none 0 0] 131)).drew:=((HB1.out.alloc HB1.out.size _)).drew;have HX2:Hid (Blk (W1.alloc (.cells #[.string ⟨#[]⟩,.slice none 0 0] 131)).drew w.heap.size 41 (headC h)):=Lib.hid ((HX.out.alloc _).drew);obtain ⟨W2,hW2⟩:∃ W2,(W1.alloc (.cells #[.string ⟨#[]⟩,.slice none 0 0] 131)).drew=W2:=⟨_,rfl⟩;rw [hW2] at hB2 HX2 ⊢;clear hW2;have HB2:=Lib.hid hB2;have HR2:=Lib.hid (HR.out.below hB2);clear hB2 HB1 HX;have z7:=HX2.out.cell 7;simp only [headC,List.getElem?_toArray,List.getElem?_cons_zero,List.getElem?_cons_succ] at z7
  go_wp2
  go_ret
  exact ⟨rfl,HB2.out⟩
set_option maxHeartbeats 2000000 in
theorem ext_short (hr:Rd w0 w K a s mb v xs q n c) (h:HeadV) (hw:waitF s q n c h.kind=none) (k:Nat) (hk0:h.size=(k:Int)) (hz:k≤1048576) (hl:K.S.n < a+padN k) :
 Calls Tryz.prog 55 #[.pointer (some ⟨K.r,0,none⟩),.agg (headC h)] w fun e w' => e=.returned (.int .i64 2)∧Below w0.heap.size w0 w':=by
 have HBR:=Lib.hid hl;have HKL:=Lib.hid hz;have HSZ:=Lib.hid hk0;have hlarge:¬ (1048576:Int) < (k:Int):=by omega
 clear hl hz hk0;have HR:=Lib.hid hr;obtain ⟨kn,hkn⟩:∃ kn:Int,(h.kind.toNat:Int)=kn:=⟨_,rfl⟩;obtain ⟨W1,hW1⟩:∃ W1,w.alloc (.cells (headC h) 41)=W1:=⟨_,rfl⟩;have hB1:Below w.heap.size w W1:=by rw [← hW1];exact (Below.refl _ w).alloc (Nat.le_refl _) _
 have b1:Blk W1 w.heap.size 41 (headC h):=by rw [← hW1];exact Blk.new w _ _
 have R1:=hr.below hB1;have hB2:Below w.heap.size w (W1.alloc (.cells #[.string ⟨#[]⟩,.slice none 0 0] 131)):=hB1.alloc hB1.size _;have R2:=hr.below hB2;have l1:=look_ext (R1.idle ((Kept.refl noneB _).drew)).map h.kind kn hkn;have l2:=look_ext (R2.idle ((Kept.refl noneB _).drew)).map h.kind kn hkn;rw [hw] at l1 l2;simp only [Option.getD_none,Option.isSome_none] at l1 l2;have x2:=R1.c2;have k2:=b1.cell 2;simp only [headC,List.getElem?_toArray,List.getElem?_cons_zero,List.getElem?_cons_succ,hkn] at k2;have y2:=R2.c2;have j2:=(b1.alloc (.cells #[.string ⟨#[]⟩,.slice none 0 0] 131)).cell 2
 simp only [headC,List.getElem?_toArray,List.getElem?_cons_zero,List.getElem?_cons_succ,hkn] at j2;have HB1:=Lib.hid hB1;have HX:=Lib.hid b1;have HKN:=Lib.hid hkn;clear hr hw hkn R1 R2 b1 hB1 hB2
 go_enter Tryz.func55,Tryz.ntmps55
 go_upto_region 1 with fail
 clear hW1
 go_cut [5,6] from 13 to 22 (fun s5 s6 wx => s5=.pointer (some ⟨W1.heap.size,0,none⟩)∧s6=.bool false∧wx=(W1.alloc (.cells #[.string ⟨#[]⟩,.slice none 0 0] 131)).drew)
 case first =>
  go_region
  all_goals (go_wp2;go_meet;exact ⟨rfl,rfl,rfl⟩)
 case rest =>
  obtain ⟨rfl,rfl,rfl⟩:=hcut;clear l1 l2 x2 k2 y2 j2;have hB2:Below w.heap.size w (W1.alloc (.cells #[.string ⟨#[]⟩,.slice none 0 0] 131)).drew:=((HB1.out.alloc HB1.out.size _)).drew;have HX2:Hid (Blk (W1.alloc (.cells #[.string ⟨#[]⟩,.slice none 0 0] 131)).drew w.heap.size 41 (headC h)):=Lib.hid ((HX.out.alloc _).drew);obtain ⟨W2,hW2⟩:∃ W2,(W1.alloc (.cells #[.string ⟨#[]⟩,.slice none 0 0] 131)).drew=W2:=⟨_,rfl⟩;rw [hW2] at hB2 HX2 ⊢;clear hW2;have HB2:=Lib.hid hB2;have HR2:=Lib.hid (HR.out.below hB2);clear hB2 HB1 HX;have x0:=HR2.out.c0;have z7:=HX2.out.cell 7
  simp only [headC,List.getElem?_toArray,List.getElem?_cons_zero,List.getElem?_cons_succ,HSZ.out] at z7;have hRd:=HR2.out.idle ((Kept.refl noneB W2).drew);obtain ⟨t,hs⟩:=hRd.src
  have hne:w.heap.size≠K.g:=by
   obtain ⟨t',hs'⟩:=HR.out.src;have:=hs'.lt;omega
  have HRD:=Lib.hid hRd;have HNE:=Lib.hid hne;have hB:=body_no W2.drew K.g a t K.S hs hRd.off k HKL.out HBR.out;clear hs hRd hne
  go_upto_region 6 with fail
  go_region_held_law (fun w' => w'.cell? ⟨K.r,0,none⟩=some (.pointer (some ⟨K.g,0,none⟩))∧w'.cell? ⟨w.heap.size,7,none⟩=some (.int .i64 (k:Int))) (first | exact ⟨x0,z7⟩ | exact hS3)
   (first
    | (go_at_call 79
       refine hB.mono ?_
       rintro e w3 ⟨t',rfl,h4,h5⟩;have H3:=Lib.hid (HRD.out.moved h5 ⟨t',h4⟩);have HX3:Hid (Blk w3 w.heap.size 41 (headC h)):=Lib.hid ((HX2.out.drew).keptS h5 HNE.out);have HB3:=Lib.hid h5;have hS3:w3.cell? ⟨K.r,0,none⟩=some (.pointer (some ⟨K.g,0,none⟩))∧w3.cell? ⟨w.heap.size,7,none⟩=some (.int .i64 (k:Int)):=⟨H3.out.c0,by have:=HX3.out.cell 7;simp only [headC,List.getElem?_toArray,List.getElem?_cons_zero,List.getElem?_cons_succ,HSZ.out] at this;exact this⟩
       clear h4 h5))
  clear hB hS3 x0 z7
  go_wp2
  go_ret
  exact ⟨rfl,H3.out.bel⟩
theorem put_name (s:RS) (q:Option Addr) (n c:Nat) (T:List UInt8):(fun y => if y=76 then some (Value.agg #[.string (str T),.slice none 0 0]) else waitF s q n c y)=waitF { s with name:=some T } q n c:=by
 funext y
 unfold waitF
 by_cases h:y=76
 ·subst h;rfl
 ·simp [h]
theorem put_link (s:RS) (q:Option Addr) (n c:Nat) (T:List UInt8):(fun y => if y=75 then some (Value.agg #[.string (str T),.slice none 0 0]) else waitF s q n c y)=waitF { s with link:=some T } q n c:=by
 funext y
 unfold waitF
 by_cases h:y=75
 ·subst h;rfl
 ·simp [h]
theorem put_own (s:RS) (q q':Option Addr) (n c n' c':Nat) (rs:RecL):(fun y => if y=120 then some (Value.agg #[.string ⟨#[]⟩,.slice q' n' c']) else waitF s q n c y)=waitF { s with hasX:=true,own:=rs } q' n' c':=by
 funext y
 unfold waitF
 by_cases h:y=120
 ·subst h;rfl
 ·simp [h]
set_option maxHeartbeats 4000000 in
theorem ext_name (hr:Rd w0 w K a s mb v xs q n c) (h:HeadV) (hw:waitF s q n c h.kind=none) (k:Nat) (hk0:h.size=(k:Int)) (hz:k≤1048576) (X:List UInt8) (hX:(K.S.bs.drop a).take k=X) (hl:a+padN k≤K.S.n) (hkd:h.kind=76) :
 Calls Tryz.prog 55 #[.pointer (some ⟨K.r,0,none⟩),.agg (headC h)] w fun e w' => e=.returned (.int .i64 0)∧Left w0 K (a+padN k) { s with name:=some (untilB X) } w':=by
 have HXL:Hid (X.length=k):=Lib.hid (by
  obtain ⟨t,hs⟩:=hr.src;have:=padN_ge k;have:=hs.len
  rw [← hX,List.length_take,List.length_drop];omega)
 have HBR:=Lib.hid (And.intro hX hl);have HKL:=Lib.hid hz;have HSZ:=Lib.hid hk0;have hlarge:¬ (1048576:Int) < (k:Int):=by omega
 clear hl hX hk0 hz;have HKD:=Lib.hid hkd;clear hkd;have HR:=Lib.hid hr;obtain ⟨kn,hkn⟩:∃ kn:Int,(h.kind.toNat:Int)=kn:=⟨_,rfl⟩;obtain ⟨W1,hW1⟩:∃ W1,w.alloc (.cells (headC h) 41)=W1:=⟨_,rfl⟩;have hB1:Below w.heap.size w W1:=by rw [← hW1];exact (Below.refl _ w).alloc (Nat.le_refl _) _
 have b1:Blk W1 w.heap.size 41 (headC h):=by rw [← hW1];exact Blk.new w _ _
 have R1:=hr.below hB1;have hB2:Below w.heap.size w (W1.alloc (.cells #[.string ⟨#[]⟩,.slice none 0 0] 131)):=hB1.alloc hB1.size _;have R2:=hr.below hB2;have l1:=look_ext (R1.idle ((Kept.refl noneB _).drew)).map h.kind kn hkn;have l2:=look_ext (R2.idle ((Kept.refl noneB _).drew)).map h.kind kn hkn;rw [hw] at l1 l2;simp only [Option.getD_none,Option.isSome_none] at l1 l2;have x2:=R1.c2;have k2:=b1.cell 2;simp only [headC,List.getElem?_toArray,List.getElem?_cons_zero,List.getElem?_cons_succ,hkn] at k2;have y2:=R2.c2;have j2:=(b1.alloc (.cells #[.string ⟨#[]⟩,.slice none 0 0] 131)).cell 2
 simp only [headC,List.getElem?_toArray,List.getElem?_cons_zero,List.getElem?_cons_succ,hkn] at j2;have HB1:=Lib.hid hB1;have HX:=Lib.hid b1;have HKN:=Lib.hid hkn;clear hr hw hkn R1 R2 b1 hB1 hB2
 go_enter Tryz.func55,Tryz.ntmps55
 go_upto_region 1 with fail
 clear hW1
 go_cut [5,6] from 13 to 22 (fun s5 s6 wx => s5=.pointer (some ⟨W1.heap.size,0,none⟩)∧s6=.bool false∧wx=(W1.alloc (.cells #[.string ⟨#[]⟩,.slice none 0 0] 131)).drew)
 case first =>
  go_region
  all_goals (go_wp2;go_meet;exact ⟨rfl,rfl,rfl⟩)
 case rest =>
  obtain ⟨rfl,rfl,rfl⟩:=hcut;clear l1 l2 x2 k2 y2 j2;have hB2:Below w.heap.size w (W1.alloc (.cells #[.string ⟨#[]⟩,.slice none 0 0] 131)).drew:=((HB1.out.alloc HB1.out.size _)).drew;have HX2:Hid (Blk (W1.alloc (.cells #[.string ⟨#[]⟩,.slice none 0 0] 131)).drew w.heap.size 41 (headC h)):=Lib.hid ((HX.out.alloc _).drew);obtain ⟨W2,hW2⟩:∃ W2,(W1.alloc (.cells #[.string ⟨#[]⟩,.slice none 0 0] 131)).drew=W2:=⟨_,rfl⟩;rw [hW2] at hB2 HX2 ⊢;clear hW2;have HB2:=Lib.hid hB2;have HR2:=Lib.hid (HR.out.below hB2);clear hB2 HB1 HX;have x0:=HR2.out.c0;have z7:=HX2.out.cell 7
  simp only [headC,List.getElem?_toArray,List.getElem?_cons_zero,List.getElem?_cons_succ,HSZ.out] at z7;have hRd:=HR2.out.idle ((Kept.refl noneB W2).drew);obtain ⟨t,hs⟩:=hRd.src
  have hne:w.heap.size≠K.g:=by
   obtain ⟨t',hs'⟩:=HR.out.src;have:=hs'.lt;omega
  have HRD:=Lib.hid hRd;have HNE:=Lib.hid hne;have hB:=body_ok W2.drew K.g a t K.S hs hRd.off k HKL.out X HBR.out.1 HBR.out.2;clear hs hRd hne
  go_upto_region 6 with fail
  go_region_held_law (fun w' => w'.cell? ⟨K.r,0,none⟩=some (.pointer (some ⟨K.g,0,none⟩))∧w'.cell? ⟨w.heap.size,7,none⟩=some (.int .i64 (k:Int))) (first | exact ⟨x0,z7⟩ | exact hS3)
   (first
    | (go_at_call 79
       refine hB.mono ?_
       rintro e w3 ⟨p,t',rfl,h2,h3,h4,h5⟩;have H3:=Lib.hid (HRD.out.moved h5 ⟨t',h4⟩);have HX3:Hid (Blk w3 w.heap.size 41 (headC h)):=Lib.hid ((HX2.out.drew).keptS h5 HNE.out);have HB3:=Lib.hid (And.intro h2 h3);have hS3:w3.cell? ⟨K.r,0,none⟩=some (.pointer (some ⟨K.g,0,none⟩))∧w3.cell? ⟨w.heap.size,7,none⟩=some (.int .i64 (k:Int)):=⟨H3.out.c0,by have:=HX3.out.cell 7;simp only [headC,List.getElem?_toArray,List.getElem?_cons_zero,List.getElem?_cons_succ,HSZ.out] at this;exact this⟩
       clear h2 h3 h4 h5))
  clear hB hS3 x0 z7;have k3:=HX3.out.cell 2;simp only [headC,List.getElem?_toArray,List.getElem?_cons_zero,List.getElem?_cons_succ,HKN.out] at k3;obtain rfl:kn=76:=by rw [← HKN.out,HKD.out];rfl
  go_upto_region 10 with fail
  go_wp2_with fail
  refine (cutP_any p k w3.heap.size X _ HXL.out (by have:=HKL.out;omega) (HB3.out.1.alloc _) (Blk.cell (Blk.new w3 5 #[.int .u8 0]) 0)).mono ?_
  rintro e w4 ⟨v2,v3,rfl,hk4⟩;have hb4:Below w3.heap.size w3 w4:=(Kept.trans ((Kept.refl noneB w3).alloc _) hk4).below (Nat.le_refl _) (fun _ h => h.elim)
  have H4:=Lib.hid (H3.out.below hb4);have HX4:Hid (Blk w4 w.heap.size 41 (headC h)):=Lib.hid (HX3.out.below hb4 HX3.out.lt)
  have hB4:BAt w4 p (untilB X).length (untilB X):=by
   have h1:=(HB3.out.1.below hb4).take (k:=(untilB X).length) (by rw [← HXL.out];exact (until_le X).1)
   rwa [(until_le X).2] at h1
  have HB4:=Lib.hid hB4;clear hk4 hb4 hB4 k3
  go_upto_region 11 with fail
  have k4:=HX4.out.cell 2;simp only [headC,List.getElem?_toArray,List.getElem?_cons_zero,List.getElem?_cons_succ,HKN.out] at k4;have x4:=H4.out.c2;have cv4:(convert 24 9 (.slice p (untilB X).length k)).run Tryz.prog w4=.ok (.string (str (untilB X))) w4:=conv_at HB4.out rfl _ _ _ Tryz.underlying24 Tryz.underlying5 Tryz.underlying9 _;have cv4d:(convert 24 9 (.slice p (untilB X).length k)).run Tryz.prog w4.drew=.ok (.string (str (untilB X))) w4.drew:=conv_at (HB4.out.below ((Below.refl _ _).drew)) rfl _ _ _ Tryz.underlying24 Tryz.underlying5 Tryz.underlying9 _
  go_still_tail 9,(by kernel_rfl)
  refine wpList_putK (K:=u8K) rfl (.tmp 58) (.tmp 60) (.tmp 63) rfl Tryz.underlying72 Tryz.underlying5 K.mw (H4.out.idle ((Kept.refl noneB w4).drew)).map rfl 76 rfl (.agg #[.string (str (untilB X)),.slice none 0 0]) rfl ?_
  intro w5 hm5 hk5 hs5;have HM:=Lib.hid (And.intro hm5 (And.intro hk5 hs5));clear hm5 hk5 hs5
  go_wp2
  go_ret
  exact ⟨rfl,mb,v,xs,q,n,c,(H4.out.idle ((Kept.refl noneB w4).drew)).waits HM.out.2.1.out (by rw [← put_name];exact HM.out.1.out) (H4.out.idle ((Kept.refl noneB w4).drew)).own rfl rfl H4.out.own0 H4.out.ol (fun t ht => by cases ht;have:=(until_le X).1;rw [HXL.out] at this;have:=HKL.out;omega) H4.out.ll⟩
set_option maxHeartbeats 4000000 in
theorem ext_link (hr:Rd w0 w K a s mb v xs q n c) (h:HeadV) (hw:waitF s q n c h.kind=none) (k:Nat) (hk0:h.size=(k:Int)) (hz:k≤1048576) (X:List UInt8) (hX:(K.S.bs.drop a).take k=X) (hl:a+padN k≤K.S.n) (hkd:h.kind=75) :
 Calls Tryz.prog 55 #[.pointer (some ⟨K.r,0,none⟩),.agg (headC h)] w fun e w' => e=.returned (.int .i64 0)∧Left w0 K (a+padN k) { s with link:=some (untilB X) } w':=by
 have HXL:Hid (X.length=k):=Lib.hid (by
  obtain ⟨t,hs⟩:=hr.src;have:=padN_ge k;have:=hs.len
  rw [← hX,List.length_take,List.length_drop];omega)
 have HBR:=Lib.hid (And.intro hX hl);have HKL:=Lib.hid hz;have HSZ:=Lib.hid hk0;have hlarge:¬ (1048576:Int) < (k:Int):=by omega
 clear hl hX hk0 hz;have HKD:=Lib.hid hkd;clear hkd;have HR:=Lib.hid hr;obtain ⟨kn,hkn⟩:∃ kn:Int,(h.kind.toNat:Int)=kn:=⟨_,rfl⟩;obtain ⟨W1,hW1⟩:∃ W1,w.alloc (.cells (headC h) 41)=W1:=⟨_,rfl⟩;have hB1:Below w.heap.size w W1:=by rw [← hW1];exact (Below.refl _ w).alloc (Nat.le_refl _) _
 have b1:Blk W1 w.heap.size 41 (headC h):=by rw [← hW1];exact Blk.new w _ _
 have R1:=hr.below hB1;have hB2:Below w.heap.size w (W1.alloc (.cells #[.string ⟨#[]⟩,.slice none 0 0] 131)):=hB1.alloc hB1.size _;have R2:=hr.below hB2;have l1:=look_ext (R1.idle ((Kept.refl noneB _).drew)).map h.kind kn hkn;have l2:=look_ext (R2.idle ((Kept.refl noneB _).drew)).map h.kind kn hkn;rw [hw] at l1 l2;simp only [Option.getD_none,Option.isSome_none] at l1 l2;have x2:=R1.c2;have k2:=b1.cell 2;simp only [headC,List.getElem?_toArray,List.getElem?_cons_zero,List.getElem?_cons_succ,hkn] at k2;have y2:=R2.c2;have j2:=(b1.alloc (.cells #[.string ⟨#[]⟩,.slice none 0 0] 131)).cell 2
 simp only [headC,List.getElem?_toArray,List.getElem?_cons_zero,List.getElem?_cons_succ,hkn] at j2;have HB1:=Lib.hid hB1;have HX:=Lib.hid b1;have HKN:=Lib.hid hkn;clear hr hw hkn R1 R2 b1 hB1 hB2
 go_enter Tryz.func55,Tryz.ntmps55
 go_upto_region 1 with fail
 clear hW1
 go_cut [5,6] from 13 to 22 (fun s5 s6 wx => s5=.pointer (some ⟨W1.heap.size,0,none⟩)∧s6=.bool false∧wx=(W1.alloc (.cells #[.string ⟨#[]⟩,.slice none 0 0] 131)).drew)
 case first =>
  go_region
  all_goals (go_wp2;go_meet;exact ⟨rfl,rfl,rfl⟩)
 case rest =>
  obtain ⟨rfl,rfl,rfl⟩:=hcut;clear l1 l2 x2 k2 y2 j2;have hB2:Below w.heap.size w (W1.alloc (.cells #[.string ⟨#[]⟩,.slice none 0 0] 131)).drew:=((HB1.out.alloc HB1.out.size _)).drew;have HX2:Hid (Blk (W1.alloc (.cells #[.string ⟨#[]⟩,.slice none 0 0] 131)).drew w.heap.size 41 (headC h)):=Lib.hid ((HX.out.alloc _).drew);obtain ⟨W2,hW2⟩:∃ W2,(W1.alloc (.cells #[.string ⟨#[]⟩,.slice none 0 0] 131)).drew=W2:=⟨_,rfl⟩;rw [hW2] at hB2 HX2 ⊢;clear hW2;have HB2:=Lib.hid hB2;have HR2:=Lib.hid (HR.out.below hB2);clear hB2 HB1 HX;have x0:=HR2.out.c0;have z7:=HX2.out.cell 7
  simp only [headC,List.getElem?_toArray,List.getElem?_cons_zero,List.getElem?_cons_succ,HSZ.out] at z7;have hRd:=HR2.out.idle ((Kept.refl noneB W2).drew);obtain ⟨t,hs⟩:=hRd.src
  have hne:w.heap.size≠K.g:=by
   obtain ⟨t',hs'⟩:=HR.out.src;have:=hs'.lt;omega
  have HRD:=Lib.hid hRd;have HNE:=Lib.hid hne;have hB:=body_ok W2.drew K.g a t K.S hs hRd.off k HKL.out X HBR.out.1 HBR.out.2;clear hs hRd hne
  go_upto_region 6 with fail
  go_region_held_law (fun w' => w'.cell? ⟨K.r,0,none⟩=some (.pointer (some ⟨K.g,0,none⟩))∧w'.cell? ⟨w.heap.size,7,none⟩=some (.int .i64 (k:Int))) (first | exact ⟨x0,z7⟩ | exact hS3)
   (first
    | (go_at_call 79
       refine hB.mono ?_
       rintro e w3 ⟨p,t',rfl,h2,h3,h4,h5⟩;have H3:=Lib.hid (HRD.out.moved h5 ⟨t',h4⟩);have HX3:Hid (Blk w3 w.heap.size 41 (headC h)):=Lib.hid ((HX2.out.drew).keptS h5 HNE.out);have HB3:=Lib.hid (And.intro h2 h3);have hS3:w3.cell? ⟨K.r,0,none⟩=some (.pointer (some ⟨K.g,0,none⟩))∧w3.cell? ⟨w.heap.size,7,none⟩=some (.int .i64 (k:Int)):=⟨H3.out.c0,by have:=HX3.out.cell 7;simp only [headC,List.getElem?_toArray,List.getElem?_cons_zero,List.getElem?_cons_succ,HSZ.out] at this;exact this⟩
       clear h2 h3 h4 h5))
  clear hB hS3 x0 z7;have k3:=HX3.out.cell 2;simp only [headC,List.getElem?_toArray,List.getElem?_cons_zero,List.getElem?_cons_succ,HKN.out] at k3;obtain rfl:kn=75:=by rw [← HKN.out,HKD.out];rfl
  go_upto_region 10 with fail
  go_wp2_with fail
  refine (cutP_any p k w3.heap.size X _ HXL.out (by have:=HKL.out;omega) (HB3.out.1.alloc _) (Blk.cell (Blk.new w3 5 #[.int .u8 0]) 0)).mono ?_
  rintro e w4 ⟨v2,v3,rfl,hk4⟩;have hb4:Below w3.heap.size w3 w4:=(Kept.trans ((Kept.refl noneB w3).alloc _) hk4).below (Nat.le_refl _) (fun _ h => h.elim)
  have H4:=Lib.hid (H3.out.below hb4);have HX4:Hid (Blk w4 w.heap.size 41 (headC h)):=Lib.hid (HX3.out.below hb4 HX3.out.lt)
  have hB4:BAt w4 p (untilB X).length (untilB X):=by
   have h1:=(HB3.out.1.below hb4).take (k:=(untilB X).length) (by rw [← HXL.out];exact (until_le X).1)
   rwa [(until_le X).2] at h1
  have HB4:=Lib.hid hB4;clear hk4 hb4 hB4 k3
  go_upto_region 11 with fail
  have k4:=HX4.out.cell 2;simp only [headC,List.getElem?_toArray,List.getElem?_cons_zero,List.getElem?_cons_succ,HKN.out] at k4;have x4:=H4.out.c2;have cv4:(convert 24 9 (.slice p (untilB X).length k)).run Tryz.prog w4=.ok (.string (str (untilB X))) w4:=conv_at HB4.out rfl _ _ _ Tryz.underlying24 Tryz.underlying5 Tryz.underlying9 _;have cv4d:(convert 24 9 (.slice p (untilB X).length k)).run Tryz.prog w4.drew=.ok (.string (str (untilB X))) w4.drew:=conv_at (HB4.out.below ((Below.refl _ _).drew)) rfl _ _ _ Tryz.underlying24 Tryz.underlying5 Tryz.underlying9 _
  go_still_tail 9,(by kernel_rfl)
  refine wpList_putK (K:=u8K) rfl (.tmp 58) (.tmp 60) (.tmp 63) rfl Tryz.underlying72 Tryz.underlying5 K.mw (H4.out.idle ((Kept.refl noneB w4).drew)).map rfl 75 rfl (.agg #[.string (str (untilB X)),.slice none 0 0]) rfl ?_
  intro w5 hm5 hk5 hs5;have HM:=Lib.hid (And.intro hm5 (And.intro hk5 hs5));clear hm5 hk5 hs5
  go_wp2
  go_ret
  exact ⟨rfl,mb,v,xs,q,n,c,(H4.out.idle ((Kept.refl noneB w4).drew)).waits HM.out.2.1.out (by rw [← put_link];exact HM.out.1.out) (H4.out.idle ((Kept.refl noneB w4).drew)).own rfl rfl H4.out.own0 H4.out.ol H4.out.nl (fun t ht => by cases ht;have:=(until_le X).1;rw [HXL.out] at this;have:=HKL.out;omega)⟩
end
end Go.Proofs.YtnpkcneojilmkaaGreatDoor.Mem
end
section
namespace Go.Proofs.YtnpkcneojilmkaaGreatDoor.Mem
open Go.ChangeShapes Go.WideShapes Go.ChangeAt Go.RowKit Base Byt Txt Bk Mk Block Hp Head Attr Rec Go.Lib Go.Shelf
set_option linter.unusedVariables false
set_option maxRecDepth 100000
section
variable {w0 w w':World} {K:RK} {a:Nat} {s:RS} {mb:Option Nat} {v:Value} {xs:List MP} {q:Option Addr} {n c:Nat}
set_option maxHeartbeats 4000000 in
theorem ext_recbad (hr:Rd w0 w K a s mb v xs q n c) (h:HeadV) (hw:waitF s q n c h.kind=none) (k:Nat) (hk0:h.size=(k:Int)) (hz:k≤1048576) (X:List UInt8) (hX:(K.S.bs.drop a).take k=X) (hl:a+padN k≤K.S.n) (E:Int) (hE:(recsD 5 9 X).2=E) (hE0:E≠0) (hnk:(h.kind.toNat:Int)≠76∧(h.kind.toNat:Int)≠75) (hN:Need w0) :
 Calls Tryz.prog 55 #[.pointer (some ⟨K.r,0,none⟩),.agg (headC h)] w fun e w' => e=.returned (.int .i64 E)∧Below w0.heap.size w0 w':=by
 have HXL:Hid (X.length=k):=Lib.hid (by
  obtain ⟨t,hs⟩:=hr.src;have:=padN_ge k;have:=hs.len
  rw [← hX,List.length_take,List.length_drop];omega)
 have HBR:=Lib.hid (And.intro hX hl);have HKL:=Lib.hid hz;have HSZ:=Lib.hid hk0;have hlarge:¬ (1048576:Int) < (k:Int):=by omega
 clear hl hX hk0 hz;have HEE:=Lib.hid hE;have HE0:=Lib.hid hE0;have HNK:=Lib.hid hnk;have HND:=Lib.hid hN;clear hE hE0 hnk hN;have HR:=Lib.hid hr;obtain ⟨kn,hkn⟩:∃ kn:Int,(h.kind.toNat:Int)=kn:=⟨_,rfl⟩;obtain ⟨W1,hW1⟩:∃ W1,w.alloc (.cells (headC h) 41)=W1:=⟨_,rfl⟩;have hB1:Below w.heap.size w W1:=by rw [← hW1];exact (Below.refl _ w).alloc (Nat.le_refl _) _
 have b1:Blk W1 w.heap.size 41 (headC h):=by rw [← hW1];exact Blk.new w _ _
 have R1:=hr.below hB1;have hB2:Below w.heap.size w (W1.alloc (.cells #[.string ⟨#[]⟩,.slice none 0 0] 131)):=hB1.alloc hB1.size _;have R2:=hr.below hB2;have l1:=look_ext (R1.idle ((Kept.refl noneB _).drew)).map h.kind kn hkn;have l2:=look_ext (R2.idle ((Kept.refl noneB _).drew)).map h.kind kn hkn;rw [hw] at l1 l2;simp only [Option.getD_none,Option.isSome_none] at l1 l2;have x2:=R1.c2;have k2:=b1.cell 2;simp only [headC,List.getElem?_toArray,List.getElem?_cons_zero,List.getElem?_cons_succ,hkn] at k2;have y2:=R2.c2;have j2:=(b1.alloc (.cells #[.string ⟨#[]⟩,.slice none 0 0] 131)).cell 2
 simp only [headC,List.getElem?_toArray,List.getElem?_cons_zero,List.getElem?_cons_succ,hkn] at j2;have HB1:=Lib.hid hB1;have HX:=Lib.hid b1;have HKN:=Lib.hid hkn;clear hr hw hkn R1 R2 b1 hB1 hB2
 go_enter Tryz.func55,Tryz.ntmps55
 go_upto_region 1 with fail
 clear hW1
 go_cut [5,6] from 13 to 22 (fun s5 s6 wx => s5=.pointer (some ⟨W1.heap.size,0,none⟩)∧s6=.bool false∧wx=(W1.alloc (.cells #[.string ⟨#[]⟩,.slice none 0 0] 131)).drew)
 case first =>
  go_region
  all_goals (go_wp2;go_meet;exact ⟨rfl,rfl,rfl⟩)
 case rest =>
  obtain ⟨rfl,rfl,rfl⟩:=hcut;clear l1 l2 x2 k2 y2 j2;have hB2:Below w.heap.size w (W1.alloc (.cells #[.string ⟨#[]⟩,.slice none 0 0] 131)).drew:=((HB1.out.alloc HB1.out.size _)).drew;have HX2:Hid (Blk (W1.alloc (.cells #[.string ⟨#[]⟩,.slice none 0 0] 131)).drew w.heap.size 41 (headC h)):=Lib.hid ((HX.out.alloc _).drew);obtain ⟨W2,hW2⟩:∃ W2,(W1.alloc (.cells #[.string ⟨#[]⟩,.slice none 0 0] 131)).drew=W2:=⟨_,rfl⟩;rw [hW2] at hB2 HX2 ⊢;clear hW2;have HB2:=Lib.hid hB2;have HR2:=Lib.hid (HR.out.below hB2);clear hB2 HB1 HX;have x0:=HR2.out.c0;have z7:=HX2.out.cell 7
  simp only [headC,List.getElem?_toArray,List.getElem?_cons_zero,List.getElem?_cons_succ,HSZ.out] at z7;have hRd:=HR2.out.idle ((Kept.refl noneB W2).drew);obtain ⟨t,hs⟩:=hRd.src
  have hne:w.heap.size≠K.g:=by
   obtain ⟨t',hs'⟩:=HR.out.src;have:=hs'.lt;omega
  have HRD:=Lib.hid hRd;have HNE:=Lib.hid hne;have hB:=body_ok W2.drew K.g a t K.S hs hRd.off k HKL.out X HBR.out.1 HBR.out.2;clear hs hRd hne
  go_upto_region 6 with fail
  go_region_held_law (fun w' => w'.cell? ⟨K.r,0,none⟩=some (.pointer (some ⟨K.g,0,none⟩))∧w'.cell? ⟨w.heap.size,7,none⟩=some (.int .i64 (k:Int))) (first | exact ⟨x0,z7⟩ | exact hS3)
   (first
    | (go_at_call 79
       refine hB.mono ?_
       rintro e w3 ⟨p,t',rfl,h2,h3,h4,h5⟩;have H3:=Lib.hid (HRD.out.moved h5 ⟨t',h4⟩);have HX3:Hid (Blk w3 w.heap.size 41 (headC h)):=Lib.hid ((HX2.out.drew).keptS h5 HNE.out);have HB3:=Lib.hid (And.intro h2 h3);have hS3:w3.cell? ⟨K.r,0,none⟩=some (.pointer (some ⟨K.g,0,none⟩))∧w3.cell? ⟨w.heap.size,7,none⟩=some (.int .i64 (k:Int)):=⟨H3.out.c0,by have:=HX3.out.cell 7;simp only [headC,List.getElem?_toArray,List.getElem?_cons_zero,List.getElem?_cons_succ,HSZ.out] at this;exact this⟩
       clear h2 h3 h4 h5))
  clear hB hS3 x0 z7;have k3:=HX3.out.cell 2;simp only [headC,List.getElem?_toArray,List.getElem?_cons_zero,List.getElem?_cons_succ,HKN.out] at k3;have e1:(kn == 76)=false:=by have:=HNK.out.1;rw [HKN.out] at this;simpa using this
  have e2:(kn == 75)=false:=by have:=HNK.out.2;rw [HKN.out] at this;simpa using this
  go_upto_region 13 with fail
  go_wp2_with fail
  refine (recParse_any p k k X w3 HXL.out (Nat.le_refl _) (by have:=HKL.out;omega) HB3.out.1 (H3.out.need HND.out)).mono ?_
  rintro e w4 ⟨p4,c4,rfl,_,_,hr4,hb4⟩;obtain ⟨⟨rs,er⟩,hrs⟩:∃ x,recsD 5 9 X=x:=⟨_,rfl⟩;have hlen:=recsD_len 5 9 X;rw [hrs] at hr4 hlen;simp only [hrs];rw [HXL.out] at hlen;have HRS:Hid (recsD 5 9 X=(rs,er)):=Lib.hid hrs;obtain ⟨rl,hrl⟩:∃ rl,rs.length=rl:=⟨_,rfl⟩;simp only [hrl] at hr4 ⊢;have H4:=Lib.hid (H3.out.below hb4);have HX4:Hid (Blk w4 w.heap.size 41 (headC h)):=Lib.hid (HX3.out.below hb4 HX3.out.lt);have HR4:=Lib.hid hr4;have HLN:=Lib.hid hlen;have HRLN:=Lib.hid hrl;clear hr4 hlen hb4 hrs hrl k3;obtain rfl:er=E:=by have:=HEE.out;rw [HRS.out] at this;exact this
  have hne0:(er != 0)=true:=by simpa using HE0.out
  go_wp2
  go_ret
  exact ⟨rfl,H4.out.bel⟩
set_option maxHeartbeats 4000000 in
theorem ext_glob (hr:Rd w0 w K a s mb v xs q n c) (h:HeadV) (hw:waitF s q n c h.kind=none) (k:Nat) (hk0:h.size=(k:Int)) (hz:k≤1048576) (X:List UInt8) (hX:(K.S.bs.drop a).take k=X) (hl:a+padN k≤K.S.n) (R:RecL) (hR:recsD 5 9 X=(R,0)) (hkd:h.kind=103) (hN:Need w0) :
 Calls Tryz.prog 55 #[.pointer (some ⟨K.r,0,none⟩),.agg (headC h)] w fun e w' => e=.returned (.int .i64 0)∧Left w0 K (a+padN k) { s with glob:=s.glob++R } w':=by
 have HXL:Hid (X.length=k):=Lib.hid (by
  obtain ⟨t,hs⟩:=hr.src;have:=padN_ge k;have:=hs.len
  rw [← hX,List.length_take,List.length_drop];omega)
 have HBR:=Lib.hid (And.intro hX hl);have HKL:=Lib.hid hz;have HSZ:=Lib.hid hk0;have hlarge:¬ (1048576:Int) < (k:Int):=by omega
 clear hl hX hk0 hz;have HEE:=Lib.hid hR;have HKD:=Lib.hid hkd;have HND:=Lib.hid hN;clear hR hkd hN;have HR:=Lib.hid hr;obtain ⟨kn,hkn⟩:∃ kn:Int,(h.kind.toNat:Int)=kn:=⟨_,rfl⟩;obtain ⟨W1,hW1⟩:∃ W1,w.alloc (.cells (headC h) 41)=W1:=⟨_,rfl⟩;have hB1:Below w.heap.size w W1:=by rw [← hW1];exact (Below.refl _ w).alloc (Nat.le_refl _) _
 have b1:Blk W1 w.heap.size 41 (headC h):=by rw [← hW1];exact Blk.new w _ _
 have R1:=hr.below hB1;have hB2:Below w.heap.size w (W1.alloc (.cells #[.string ⟨#[]⟩,.slice none 0 0] 131)):=hB1.alloc hB1.size _;have R2:=hr.below hB2;have l1:=look_ext (R1.idle ((Kept.refl noneB _).drew)).map h.kind kn hkn;have l2:=look_ext (R2.idle ((Kept.refl noneB _).drew)).map h.kind kn hkn;rw [hw] at l1 l2;simp only [Option.getD_none,Option.isSome_none] at l1 l2;have x2:=R1.c2;have k2:=b1.cell 2;simp only [headC,List.getElem?_toArray,List.getElem?_cons_zero,List.getElem?_cons_succ,hkn] at k2;have y2:=R2.c2;have j2:=(b1.alloc (.cells #[.string ⟨#[]⟩,.slice none 0 0] 131)).cell 2
 simp only [headC,List.getElem?_toArray,List.getElem?_cons_zero,List.getElem?_cons_succ,hkn] at j2;have HB1:=Lib.hid hB1;have HX:=Lib.hid b1;have HKN:=Lib.hid hkn;clear hr hw hkn R1 R2 b1 hB1 hB2
 go_enter Tryz.func55,Tryz.ntmps55
 go_upto_region 1 with fail
 clear hW1
 go_cut [5,6] from 13 to 22 (fun s5 s6 wx => s5=.pointer (some ⟨W1.heap.size,0,none⟩)∧s6=.bool false∧wx=(W1.alloc (.cells #[.string ⟨#[]⟩,.slice none 0 0] 131)).drew)
 case first =>
  go_region
  all_goals (go_wp2;go_meet;exact ⟨rfl,rfl,rfl⟩)
 case rest =>
  obtain ⟨rfl,rfl,rfl⟩:=hcut;clear l1 l2 x2 k2 y2 j2;have hB2:Below w.heap.size w (W1.alloc (.cells #[.string ⟨#[]⟩,.slice none 0 0] 131)).drew:=((HB1.out.alloc HB1.out.size _)).drew;have HX2:Hid (Blk (W1.alloc (.cells #[.string ⟨#[]⟩,.slice none 0 0] 131)).drew w.heap.size 41 (headC h)):=Lib.hid ((HX.out.alloc _).drew);obtain ⟨W2,hW2⟩:∃ W2,(W1.alloc (.cells #[.string ⟨#[]⟩,.slice none 0 0] 131)).drew=W2:=⟨_,rfl⟩;rw [hW2] at hB2 HX2 ⊢;clear hW2;have HB2:=Lib.hid hB2;have HR2:=Lib.hid (HR.out.below hB2);clear hB2 HB1 HX;have x0:=HR2.out.c0;have z7:=HX2.out.cell 7
  simp only [headC,List.getElem?_toArray,List.getElem?_cons_zero,List.getElem?_cons_succ,HSZ.out] at z7;have hRd:=HR2.out.idle ((Kept.refl noneB W2).drew);obtain ⟨t,hs⟩:=hRd.src
  have hne:w.heap.size≠K.g:=by
   obtain ⟨t',hs'⟩:=HR.out.src;have:=hs'.lt;omega
  have HRD:=Lib.hid hRd;have HNE:=Lib.hid hne;have hB:=body_ok W2.drew K.g a t K.S hs hRd.off k HKL.out X HBR.out.1 HBR.out.2;clear hs hRd hne
  go_upto_region 6 with fail
  go_region_held_law (fun w' => w'.cell? ⟨K.r,0,none⟩=some (.pointer (some ⟨K.g,0,none⟩))∧w'.cell? ⟨w.heap.size,7,none⟩=some (.int .i64 (k:Int))) (first | exact ⟨x0,z7⟩ | exact hS3)
   (first
    | (go_at_call 79
       refine hB.mono ?_
       rintro e w3 ⟨p,t',rfl,h2,h3,h4,h5⟩;have H3:=Lib.hid (HRD.out.moved h5 ⟨t',h4⟩);have HX3:Hid (Blk w3 w.heap.size 41 (headC h)):=Lib.hid ((HX2.out.drew).keptS h5 HNE.out);have HB3:=Lib.hid (And.intro h2 h3);have hS3:w3.cell? ⟨K.r,0,none⟩=some (.pointer (some ⟨K.g,0,none⟩))∧w3.cell? ⟨w.heap.size,7,none⟩=some (.int .i64 (k:Int)):=⟨H3.out.c0,by have:=HX3.out.cell 7;simp only [headC,List.getElem?_toArray,List.getElem?_cons_zero,List.getElem?_cons_succ,HSZ.out] at this;exact this⟩
       clear h2 h3 h4 h5))
  clear hB hS3 x0 z7;have k3:=HX3.out.cell 2;simp only [headC,List.getElem?_toArray,List.getElem?_cons_zero,List.getElem?_cons_succ,HKN.out] at k3;obtain rfl:kn=103:=by rw [← HKN.out,HKD.out];rfl
  go_upto_region 13 with fail
  go_wp2_with fail
  refine (recParse_any p k k X w3 HXL.out (Nat.le_refl _) (by have:=HKL.out;omega) HB3.out.1 (H3.out.need HND.out)).mono ?_
  rintro e w4 ⟨p4,c4,rfl,_,_,hr4,hb4⟩;obtain ⟨⟨rs,er⟩,hrs⟩:∃ x,recsD 5 9 X=x:=⟨_,rfl⟩;have hlen:=recsD_len 5 9 X;rw [hrs] at hr4 hlen;simp only [hrs];rw [HXL.out] at hlen;have HRS:Hid (recsD 5 9 X=(rs,er)):=Lib.hid hrs;obtain ⟨rl,hrl⟩:∃ rl,rs.length=rl:=⟨_,rfl⟩;simp only [hrl] at hr4 ⊢;have H4:=Lib.hid (H3.out.below hb4);have HX4:Hid (Blk w4 w.heap.size 41 (headC h)):=Lib.hid (HX3.out.below hb4 HX3.out.lt);have HR4:=Lib.hid hr4;have HLN:=Lib.hid hlen;have HRLN:=Lib.hid hrl;clear hr4 hlen hb4 hrs hrl k3;obtain rfl:er=0:=by have:=HEE.out;rw [HRS.out] at this;exact congrArg Prod.snd this
  obtain rfl:rs=R:=by have:=HEE.out;rw [HRS.out] at this;exact congrArg Prod.fst this
  have k4:=HX4.out.cell 2;simp only [headC,List.getElem?_toArray,List.getElem?_cons_zero,List.getElem?_cons_succ,HKN.out] at k4;have x1:=H4.out.c1
  go_wp2_with fail
  refine (show Calls _ _ _ _ (GlobPost _ K.gs mb (lastD s.glob) rs) from global_any K.gs mb (lastD s.glob) p4 rl _ rs _ H4.out.st (by have:=HLN.out.2;rw [HRLN.out] at this;have:=HKL.out;omega) HR4.out).mono ?_
  rintro e w5 ⟨rfl,B,hs5,hk5,hB5⟩;have F:=Lib.hid (H4.out.globs hs5 hk5 hB5 (fun r hr => by have:=HLN.out.1 r hr;have:=HKL.out;omega))
  clear hs5 hk5 hB5 k4 x1
  go_wp2
  go_ret
  exact ⟨rfl,some B,v,xs,q,n,c,F.out⟩
set_option maxHeartbeats 4000000 in
theorem ext_own (hr:Rd w0 w K a s mb v xs q n c) (h:HeadV) (hw:waitF s q n c h.kind=none) (k:Nat) (hk0:h.size=(k:Int)) (hz:k≤1048576) (X:List UInt8) (hX:(K.S.bs.drop a).take k=X) (hl:a+padN k≤K.S.n) (R:RecL) (hR:recsD 5 9 X=(R,0)) (hkd:h.kind=120) (hN:Need w0) :
 Calls Tryz.prog 55 #[.pointer (some ⟨K.r,0,none⟩),.agg (headC h)] w fun e w' => e=.returned (.int .i64 0)∧Left w0 K (a+padN k) { s with hasX:=true,own:=R } w':=by
 have HXL:Hid (X.length=k):=Lib.hid (by
  obtain ⟨t,hs⟩:=hr.src;have:=padN_ge k;have:=hs.len
  rw [← hX,List.length_take,List.length_drop];omega)
 have HBR:=Lib.hid (And.intro hX hl);have HKL:=Lib.hid hz;have HSZ:=Lib.hid hk0;have hlarge:¬ (1048576:Int) < (k:Int):=by omega
 clear hl hX hk0 hz;have HEE:=Lib.hid hR;have HKD:=Lib.hid hkd;have HND:=Lib.hid hN;clear hR hkd hN;have HR:=Lib.hid hr;obtain ⟨kn,hkn⟩:∃ kn:Int,(h.kind.toNat:Int)=kn:=⟨_,rfl⟩;obtain ⟨W1,hW1⟩:∃ W1,w.alloc (.cells (headC h) 41)=W1:=⟨_,rfl⟩;have hB1:Below w.heap.size w W1:=by rw [← hW1];exact (Below.refl _ w).alloc (Nat.le_refl _) _
 have b1:Blk W1 w.heap.size 41 (headC h):=by rw [← hW1];exact Blk.new w _ _
 have R1:=hr.below hB1;have hB2:Below w.heap.size w (W1.alloc (.cells #[.string ⟨#[]⟩,.slice none 0 0] 131)):=hB1.alloc hB1.size _;have R2:=hr.below hB2;have l1:=look_ext (R1.idle ((Kept.refl noneB _).drew)).map h.kind kn hkn;have l2:=look_ext (R2.idle ((Kept.refl noneB _).drew)).map h.kind kn hkn;rw [hw] at l1 l2;simp only [Option.getD_none,Option.isSome_none] at l1 l2;have x2:=R1.c2;have k2:=b1.cell 2;simp only [headC,List.getElem?_toArray,List.getElem?_cons_zero,List.getElem?_cons_succ,hkn] at k2;have y2:=R2.c2;have j2:=(b1.alloc (.cells #[.string ⟨#[]⟩,.slice none 0 0] 131)).cell 2
 simp only [headC,List.getElem?_toArray,List.getElem?_cons_zero,List.getElem?_cons_succ,hkn] at j2;have HB1:=Lib.hid hB1;have HX:=Lib.hid b1;have HKN:=Lib.hid hkn;clear hr hw hkn R1 R2 b1 hB1 hB2
 go_enter Tryz.func55,Tryz.ntmps55
 go_upto_region 1 with fail
 clear hW1
 go_cut [5,6] from 13 to 22 (fun s5 s6 wx => s5=.pointer (some ⟨W1.heap.size,0,none⟩)∧s6=.bool false∧wx=(W1.alloc (.cells #[.string ⟨#[]⟩,.slice none 0 0] 131)).drew)
 case first =>
  go_region
  all_goals (go_wp2;go_meet;exact ⟨rfl,rfl,rfl⟩)
 case rest =>
  obtain ⟨rfl,rfl,rfl⟩:=hcut;clear l1 l2 x2 k2 y2 j2;have hB2:Below w.heap.size w (W1.alloc (.cells #[.string ⟨#[]⟩,.slice none 0 0] 131)).drew:=((HB1.out.alloc HB1.out.size _)).drew;have HX2:Hid (Blk (W1.alloc (.cells #[.string ⟨#[]⟩,.slice none 0 0] 131)).drew w.heap.size 41 (headC h)):=Lib.hid ((HX.out.alloc _).drew);obtain ⟨W2,hW2⟩:∃ W2,(W1.alloc (.cells #[.string ⟨#[]⟩,.slice none 0 0] 131)).drew=W2:=⟨_,rfl⟩;rw [hW2] at hB2 HX2 ⊢;clear hW2;have HB2:=Lib.hid hB2;have HR2:=Lib.hid (HR.out.below hB2);clear hB2 HB1 HX;have x0:=HR2.out.c0;have z7:=HX2.out.cell 7
  simp only [headC,List.getElem?_toArray,List.getElem?_cons_zero,List.getElem?_cons_succ,HSZ.out] at z7;have hRd:=HR2.out.idle ((Kept.refl noneB W2).drew);obtain ⟨t,hs⟩:=hRd.src
  have hne:w.heap.size≠K.g:=by
   obtain ⟨t',hs'⟩:=HR.out.src;have:=hs'.lt;omega
  have HRD:=Lib.hid hRd;have HNE:=Lib.hid hne;have hB:=body_ok W2.drew K.g a t K.S hs hRd.off k HKL.out X HBR.out.1 HBR.out.2;clear hs hRd hne
  go_upto_region 6 with fail
  go_region_held_law (fun w' => w'.cell? ⟨K.r,0,none⟩=some (.pointer (some ⟨K.g,0,none⟩))∧w'.cell? ⟨w.heap.size,7,none⟩=some (.int .i64 (k:Int))) (first | exact ⟨x0,z7⟩ | exact hS3)
   (first
    | (go_at_call 79
       refine hB.mono ?_
       rintro e w3 ⟨p,t',rfl,h2,h3,h4,h5⟩;have H3:=Lib.hid (HRD.out.moved h5 ⟨t',h4⟩);have HX3:Hid (Blk w3 w.heap.size 41 (headC h)):=Lib.hid ((HX2.out.drew).keptS h5 HNE.out);have HB3:=Lib.hid (And.intro h2 h3);have hS3:w3.cell? ⟨K.r,0,none⟩=some (.pointer (some ⟨K.g,0,none⟩))∧w3.cell? ⟨w.heap.size,7,none⟩=some (.int .i64 (k:Int)):=⟨H3.out.c0,by have:=HX3.out.cell 7;simp only [headC,List.getElem?_toArray,List.getElem?_cons_zero,List.getElem?_cons_succ,HSZ.out] at this;exact this⟩
       clear h2 h3 h4 h5))
  clear hB hS3 x0 z7;have k3:=HX3.out.cell 2;simp only [headC,List.getElem?_toArray,List.getElem?_cons_zero,List.getElem?_cons_succ,HKN.out] at k3;obtain rfl:kn=120:=by rw [← HKN.out,HKD.out];rfl
  go_upto_region 13 with fail
  go_wp2_with fail
  refine (recParse_any p k k X w3 HXL.out (Nat.le_refl _) (by have:=HKL.out;omega) HB3.out.1 (H3.out.need HND.out)).mono ?_
  rintro e w4 ⟨p4,c4,rfl,_,_,hr4,hb4⟩;obtain ⟨⟨rs,er⟩,hrs⟩:∃ x,recsD 5 9 X=x:=⟨_,rfl⟩;have hlen:=recsD_len 5 9 X;rw [hrs] at hr4 hlen;simp only [hrs];rw [HXL.out] at hlen;have HRS:Hid (recsD 5 9 X=(rs,er)):=Lib.hid hrs;obtain ⟨rl,hrl⟩:∃ rl,rs.length=rl:=⟨_,rfl⟩;simp only [hrl] at hr4 ⊢;have H4:=Lib.hid (H3.out.below hb4);have HX4:Hid (Blk w4 w.heap.size 41 (headC h)):=Lib.hid (HX3.out.below hb4 HX3.out.lt);have HR4:=Lib.hid hr4;have HLN:=Lib.hid hlen;have HRLN:=Lib.hid hrl;clear hr4 hlen hb4 hrs hrl k3;obtain rfl:er=0:=by have:=HEE.out;rw [HRS.out] at this;exact congrArg Prod.snd this
  obtain rfl:rs=R:=by have:=HEE.out;rw [HRS.out] at this;exact congrArg Prod.fst this
  have k4:=HX4.out.cell 2;simp only [headC,List.getElem?_toArray,List.getElem?_cons_zero,List.getElem?_cons_succ,HKN.out] at k4
  go_upto_region 19 with fail
  have x4:=H4.out.c2
  go_still_tail 8,(by kernel_rfl)
  refine wpList_putK (K:=u8K) rfl (.tmp 84) (.tmp 86) (.tmp 88) rfl Tryz.underlying72 Tryz.underlying5 K.mw (H4.out.idle ((Kept.refl noneB w4).drew)).map rfl 120 rfl (.agg #[.string ⟨#[]⟩,.slice p4 rl c4]) rfl ?_
  intro w5 hm5 hk5 hs5;have HM:=Lib.hid (And.intro hm5 (And.intro hk5 hs5));clear hm5 hk5 hs5
  go_wp2
  go_ret
  exact ⟨rfl,mb,v,xs,p4,rl,c4,(H4.out.idle ((Kept.refl noneB w4).drew)).waits HM.out.2.1.out (by rw [← put_own s q p4 n c rl c4 rs];exact HM.out.1.out) (recsAt_kept HR4.out ((Kept.refl noneB w4).drew) (fun _ _ _ => id)) rfl rfl (fun h => by cases h) ⟨fun r hr => by have:=HLN.out.1 r hr;have:=HKL.out;omega,by show rs.length≤1048576;have:=HLN.out.2;have:=HKL.out;omega⟩ H4.out.nl H4.out.ll⟩
end
end Go.Proofs.YtnpkcneojilmkaaGreatDoor.Mem
end
section
namespace Go.Proofs.YtnpkcneojilmkaaGreatDoor.Mem
open Go.ChangeShapes Go.WideShapes Go.ChangeAt Go.RowKit Base Byt Txt Bk Mk Block Hp Head Attr Rec Go.Lib Go.Shelf
set_option linter.unusedVariables false
set_option maxRecDepth 100000
section
variable {w0 w w':World} {K:RK} {a:Nat} {s:RS} {mb:Option Nat} {v:Value} {xs:List MP} {q:Option Addr} {n c:Nat}
def StepPost (w0:World) (K:RK) (a:Nat) (st:Step) (e:Ending) (w':World):Prop:=
 match st with
 | .fault er => e=.returned (.int .i64 er)∧Below w0.heap.size w0 w'
 | .done => False
 | .next k s' => e=.returned (.int .i64 0)∧Left w0 K (a+k) s' w'
theorem wait_some (s:RS) (q:Option Addr) (n c:Nat) (k:UInt8):(waitF s q n c k).isSome=true ↔ (k=120∧s.hasX=true) ∨ (k=76∧s.name.isSome=true) ∨ (k=75∧s.link.isSome=true):=by
 unfold waitF
 by_cases h1:k=120
 ·subst h1
  cases s.hasX<;>simp
 ·by_cases h2:k=76
  ·subst h2
   cases s.name<;>simp
  ·by_cases h3:k=75
   ·subst h3
    cases s.link<;>simp
   ·simp [h1,h2,h3]
theorem ext_any (hr:Rd w0 w K (a+512) s mb v xs q n c) (h:HeadV) (h0:0≤h.size) (hk:isExt h.kind=true) (hN:Need w0) :
 Calls Tryz.prog 55 #[.pointer (some ⟨K.r,0,none⟩),.agg (headC h)] w (StepPost w0 K a (extD (K.S.bs.drop a) h s)):=by
 obtain ⟨t,hs⟩:=hr.src;have hlen:=hs.len;have hle:=hs.le;have hLL:(K.S.bs.drop a).length=K.S.n - a:=by rw [List.length_drop,hlen]
 unfold extD
 by_cases h1:(h.kind=120∧s.hasX=true) ∨ (h.kind=76∧s.name.isSome=true) ∨ (h.kind=75∧s.link.isSome=true)
 ·rw [if_pos h1]
  refine (ext_waits hr h ((wait_some s q n c h.kind).2 h1)).mono ?_
  rintro e w' ⟨rfl,hb⟩;exact ⟨rfl,hr.bel.trans (hb.mono hr.bel.size)⟩
 ·rw [if_neg h1]
  have hw:waitF s q n c h.kind=none:=by
   cases hx:waitF s q n c h.kind with
   | none => rfl
   | some y => exact absurd ((wait_some s q n c h.kind).1 (by rw [hx];rfl)) h1
  by_cases h2:1048576 < h.size
  ·rw [if_pos h2]
   refine (ext_large hr h hw h2).mono ?_
   rintro e w' ⟨rfl,hb⟩;exact ⟨rfl,hr.bel.trans (hb.mono hr.bel.size)⟩
  ·rw [if_neg h2]
   obtain ⟨k,hk0⟩:∃ k:Nat,h.size=(k:Int):=⟨h.size.toNat,by omega⟩
   have hkl:k≤1048576:=by omega
   have hbk:blocksOf k=padN k:=rfl;unfold bodyN;rw [hk0,Int.toNat_natCast,hLL]
   by_cases h3:K.S.n < a+512+padN k
   ·rw [if_pos (by rw [hbk];omega)]
    refine (ext_short hr h hw k hk0 hkl h3).mono ?_
    rintro e w' ⟨rfl,hb⟩;exact ⟨rfl,hb⟩
   ·rw [if_neg (by rw [hbk];omega)]
    simp only;obtain ⟨X,hX⟩:∃ X,(K.S.bs.drop (a+512)).take k=X:=⟨_,rfl⟩;rw [List.drop_drop,hX,hbk];have hl:a+512+padN k≤K.S.n:=by omega
    by_cases k1:h.kind=76
    ·rw [if_pos k1]
     refine (ext_name hr h hw k hk0 hkl X hX hl k1).mono ?_
     rintro e w' ⟨rfl,hb⟩;rw [Nat.add_assoc] at hb;exact ⟨rfl,hb⟩
    ·rw [if_neg k1]
     by_cases k2:h.kind=75
     ·rw [if_pos k2]
      refine (ext_link hr h hw k hk0 hkl X hX hl k2).mono ?_
      rintro e w' ⟨rfl,hb⟩;rw [Nat.add_assoc] at hb;exact ⟨rfl,hb⟩
     ·rw [if_neg k2]
      by_cases h4:(recsD 5 9 X).2≠0
      ·rw [if_pos h4]
       refine (ext_recbad hr h hw k hk0 hkl X hX hl _ rfl h4 ⟨fun e => k1 ((u8_lit h.kind 76 (by decide)).1 e),fun e => k2 ((u8_lit h.kind 75 (by decide)).1 e)⟩ hN).mono ?_
       rintro e w' ⟨rfl,hb⟩;exact ⟨rfl,hb⟩
      ·rw [if_neg h4]
       have h5:recsD 5 9 X=((recsD 5 9 X).1,0):=Prod.ext rfl (Classical.byContradiction h4)
       by_cases k3:h.kind=103
       ·rw [if_pos k3]
        refine (ext_glob hr h hw k hk0 hkl X hX hl _ h5 k3 hN).mono ?_
        rintro e w' ⟨rfl,hb⟩;rw [Nat.add_assoc] at hb;exact ⟨rfl,hb⟩
       ·rw [if_neg k3]
        have k4:h.kind=120:=by
         unfold isExt at hk
         simpa [k1,k2,k3] using hk
        refine (ext_own hr h hw k hk0 hkl X hX hl _ h5 k4 hN).mono ?_
        rintro e w' ⟨rfl,hb⟩;rw [Nat.add_assoc] at hb;exact ⟨rfl,hb⟩
end
end Go.Proofs.YtnpkcneojilmkaaGreatDoor.Mem
end
section
namespace Go.Proofs.YtnpkcneojilmkaaGreatDoor.Mem
open Go.ChangeShapes Go.WideShapes Go.ChangeAt Go.RowKit Base Byt Txt Bk Mk Block Hp Head Attr Rec Path Go.Lib Go.Shelf
set_option linter.unusedVariables false
set_option maxRecDepth 100000
section
variable {w0 w w':World} {K:RK} {a:Nat} {s:RS} {mb:Option Nat} {v:Value} {xs:List MP} {q:Option Addr} {n c:Nat}
def ownV (s:RS) (q:Option Addr) (n c:Nat):Option Addr × Nat × Nat:=if s.hasX=true then (q,n,c) else (none,0,0)
theorem look120 (h:MapK u8K w K.mw (waitF s q n c)) {q':Option Addr} {n' c':Nat} (ho:ownV s q n c=(q',n',c')) :
 (Instr.lookup 72 (.map (some K.mw)) (.int .u8 120) false).run Tryz.prog w=.ok (.agg #[.string ⟨#[]⟩,.slice q' n' c']) w:=by
 have:=h.look Tryz.underlying72 Tryz.underlying5 extZero 120;have e:waitF s q n c 120=if s.hasX=true then some (.agg #[.string ⟨#[]⟩,.slice q n c]) else none:=by unfold waitF;rw [if_pos rfl]
 rw [e] at this;unfold ownV at ho
 cases hx:s.hasX with
 | true =>
   rw [hx,if_pos rfl] at ho this
   cases ho
   exact this
 | false =>
   rw [hx,if_neg (by decide)] at ho this
   cases ho
   exact this
theorem Rd.ownAt (h:Rd w0 w K a s mb v xs q n c) {q':Option Addr} {n' c':Nat} (ho:ownV s q n c=(q',n',c')):RecsAt w q' n' s.own∧n'≤1048576:=by
 unfold ownV at ho
 cases hx:s.hasX with
 | true =>
   rw [hx,if_pos rfl] at ho
   cases ho
   refine ⟨h.own,?_⟩;have h1:=h.own.1;have h2:=h.ol.2;omega
 | false =>
   rw [hx,if_neg (by decide)] at ho
   cases ho
   rw [h.own0 hx];exact ⟨⟨rfl,fun h => absurd h (by omega)⟩,by omega⟩
theorem ext_field (w:World) (x:ByteArray) (p:Option Addr) (m d:Nat):(Instr.field 131 (.agg #[.string x,.slice p m d]) 1).run Tryz.prog w=.ok (.slice p m d) w:=by
 kernel_rfl
theorem renD_bd (h:HeadV) (hr:Rd w0 w K a s mb v xs q n c) (h1:h.name.length≤1048576) (h2:h.link.length≤1048576):(renD h s).name.length≤1048576∧(renD h s).link.length≤1048576:=by
 unfold renD;constructor
 ·show (s.name.getD h.name).length≤_
  cases hx:s.name with
  | none => exact h1
  | some t => exact hr.nl t hx
 ·show (s.link.getD h.link).length≤_
  cases hx:s.link with
  | none => exact h2
  | some t => exact hr.ll t hx
theorem apply_bd (h:HeadV) (hr:Rd w0 w K a s mb v xs q n c) (h0:0≤h.size) (h1:h.name.length≤1048576) (h2:h.link.length≤1048576) :
 0≤(applyD (lastD s.glob) s.own (renD h s)).1.size∧(applyD (lastD s.glob) s.own (renD h s)).1.name.length≤1048576∧(applyD (lastD s.glob) s.own (renD h s)).1.link.length≤1048576:=
 applyV_bd 1048576 (fun i _ => glob_len hr.gl hr.ol.1 _) h0 (renD_bd h hr h1 h2).1 (renD_bd h hr h1 h2).2
theorem apply_rd (h:HeadV) (hr:Rd w0 w K a s mb v xs q n c) {q':Option Addr} {n' c':Nat} (ho:ownV s q n c=(q',n',c')) (H:HeadV) :
 Calls Tryz.prog 83 #[.pointer (some ⟨K.gs,0,none⟩),.agg (headC H),.slice q' n' c'] w fun e w' => e=.returned (headA (applyD (lastD s.glob) s.own H))∧Below w.heap.size w w':=by
 obtain ⟨h1,h2⟩:=hr.ownAt ho;exact apply_any _ _ _ _ _ _ _ _ hr.st.ptr (by omega) h1 (fun i _ => Nat.le_trans (glob_len hr.gl hr.ol.1 _) (by decide))
theorem fromD_size {h:HeadV} (h0:(fromD h).2=0):h.size≤1048576:=by
 unfold fromD at h0
 split at h0
 ·rename_i h1;exact absurd h0 h1
 ·split at h0
  ·exact absurd h0 (by decide)
  ·split at h0
   ·rename_i h1;exact absurd h0 h1
   ·split at h0
    ·rename_i h1;exact absurd h0 h1
    ·rename_i h1
     unfold sizeD at h1
     split at h1
     ·exact absurd (by decide) h1
     ·split at h1
      ·exact absurd (by decide) h1
      ·omega
end
end Go.Proofs.YtnpkcneojilmkaaGreatDoor.Mem
end
section
namespace Go.Proofs.YtnpkcneojilmkaaGreatDoor.Mem
open Go.ChangeShapes Go.WideShapes Go.ChangeAt Go.RowKit Go.Shelf Base Byt Txt Bk Mk Hp Head Attr Rec Go.Proofs.YtnpkcneojilmkaaGreatDoor.Mp Go.Lib
set_option linter.unusedVariables false
set_option maxRecDepth 100000
theorem ld_head (w:World) (g:Nat) (h:HeadV) (hb:Blk w g 41 (headC h)):(Instr.loadAt 41 (.pointer (some ⟨g,0,none⟩))).run Tryz.prog w=.ok (.agg (headC h)) w:=by
 have c0:=hb.cell;unfold headC at c0 ⊢
 go_simp
theorem wp_storeHH {o:Oper} {a:Act} {w:World} {K:Act → World → Prop} {Q:Exit → Act → World → Prop} (p x:Operand) (ho:o.op=.store 41 p x) (g:Nat) (hp:a.eval p=.pointer (some ⟨g,0,none⟩)) (h z:HeadV) (hx:a.eval x=.agg (headC h)) (hz:Blk w g 41 (headC z))
 (hK:∀ w',Blk w' g 41 (headC h) → Kept (oneB g) w w' → K (a.put o.dst undef) w'):Oper.wp Tryz.prog o a w K Q:=by
 have h9:=blk9 hz;have f0:=hz.frozen;have c0:=hz.cell;unfold headC at c0
 have k9:Kept (oneB g) w (((((((((w.setCell ⟨g,0,none⟩ (.string (str h.name))).setCell ⟨g,1,none⟩ (.string (str h.link))).setCell ⟨g,2,none⟩ (.int .u8 (h.kind.toNat:Int))).setCell ⟨g,3,none⟩ (.int .i64 h.mode)).setCell ⟨g,4,none⟩ (.int .i64 h.uid)).setCell ⟨g,5,none⟩ (.int .i64 h.gid)).setCell ⟨g,6,none⟩ (.int .i64 h.time)).setCell ⟨g,7,none⟩ (.int .i64 h.size)).setCell ⟨g,8,none⟩ (.bool h.gnu)):=
  (((((((((Kept.refl (oneB g) w).setCell (a:=⟨g,0,none⟩) (.inr rfl) _).setCell (a:=⟨g,1,none⟩) (.inr rfl) _).setCell (a:=⟨g,2,none⟩) (.inr rfl) _).setCell (a:=⟨g,3,none⟩) (.inr rfl) _).setCell (a:=⟨g,4,none⟩) (.inr rfl) _).setCell (a:=⟨g,5,none⟩) (.inr rfl) _).setCell (a:=⟨g,6,none⟩) (.inr rfl) _).setCell (a:=⟨g,7,none⟩) (.inr rfl) _).setCell (a:=⟨g,8,none⟩) (.inr rfl) _
 clear hz
 have hr:(execOp a.eval o).run Tryz.prog w=.ok .skip (((((((((w.setCell ⟨g,0,none⟩ (.string (str h.name))).setCell ⟨g,1,none⟩ (.string (str h.link))).setCell ⟨g,2,none⟩ (.int .u8 (h.kind.toNat:Int))).setCell ⟨g,3,none⟩ (.int .i64 h.mode)).setCell ⟨g,4,none⟩ (.int .i64 h.uid)).setCell ⟨g,5,none⟩ (.int .i64 h.gid)).setCell ⟨g,6,none⟩ (.int .i64 h.time)).setCell ⟨g,7,none⟩ (.int .i64 h.size)).setCell ⟨g,8,none⟩ (.bool h.gnu)):=by
  unfold headC at hx;generalize a.eval=ev at hp hx;simp [go_sem,execOp,ho,hp,hx,c0,f0,Result.andThen]
 unfold Oper.wp;rw [hr,Oper.upon_skip];exact hK _ (h9 _ _ _ _ _ _ _ _ _) k9
noncomputable def add5Ops:Array Oper:=regionAt Tryz.f56 5
def add5V (r gs mw bx:Nat) (h h':HeadV) (oq:Option Addr) (on oc:Nat) (ah:HeadV) (ae:Int):Nat → Value
 | 0 => .pointer (some ⟨r,0,none⟩) | 1 => .pointer (some ⟨r,0,none⟩) | 2 => .pointer (some ⟨r,1,none⟩) | 3 => .pointer (some ⟨gs,0,none⟩) | 4 => .pointer (some ⟨r,0,none⟩) | 5 => .agg (headC h) | 6 => .agg (headC h') | 7 => .pointer (some ⟨r,0,none⟩) | 8 => .pointer (some ⟨r,0,none⟩) | 9 => .pointer (some ⟨r,2,none⟩) | 10 => .map (some mw) | 11 => .agg #[.string ⟨#[]⟩,.slice oq on oc] | 12 => .slice oq on oc | 13 => .tuple #[.agg (headC ah),.int .i64 ae] | 14 => .tuple #[.agg (headC ah),.int .i64 ae] | 15 => .agg (headC ah) | 16 => .int .i64 ae | 18 => .int .i64 ae | _ => undef
theorem add5_size:add5Ops.size=19:=rfl
theorem add5_apart:apartG add5Ops 73=true:=by kernel_rfl
theorem add5_dst0:dstAt add5Ops 0=some 18:=rfl
theorem add5_op0:∃ o,add5Ops[0]? = some o∧o.op=.move (.tmp 0)∧o.dst=some 18:=⟨_,rfl,rfl,rfl⟩
theorem add5_dst1:dstAt add5Ops 1=some 19:=rfl
theorem add5_op1:∃ o,add5Ops[1]? = some o∧o.op=.nilCheck (.tmp 18)∧o.dst=some 19:=⟨_,rfl,rfl,rfl⟩
theorem add5_dst2:dstAt add5Ops 2=some 20:=rfl
theorem add5_op2:∃ o,add5Ops[2]? = some o∧o.op=.fieldAddr 74 (.tmp 19) 1∧o.dst=some 20:=⟨_,rfl,rfl,rfl⟩
theorem add5_dst3:dstAt add5Ops 3=some 21:=rfl
theorem add5_op3:∃ o,add5Ops[3]? = some o∧o.op=.load 71 (.tmp 20)∧o.dst=some 21:=⟨_,rfl,rfl,rfl⟩
theorem add5_dst4:dstAt add5Ops 4=some 22:=rfl
theorem add5_op4:∃ o,add5Ops[4]? = some o∧o.op=.move (.tmp 0)∧o.dst=some 22:=⟨_,rfl,rfl,rfl⟩
theorem add5_dst5:dstAt add5Ops 5=some 23:=rfl
theorem add5_op5:∃ o,add5Ops[5]? = some o∧o.op=.load 41 (.tmp 3)∧o.dst=some 23:=⟨_,rfl,rfl,rfl⟩
theorem add5_dst6:dstAt add5Ops 6=some 24:=rfl
theorem add5_op6:∃ o,add5Ops[6]? = some o∧o.op=.call { callee:=.value (.func 84),args:=#[.tmp 22,.tmp 23],argTypes:=#[67,41] }∧o.dst=some 24:=⟨_,rfl,rfl,rfl⟩
theorem add5_dst7:dstAt add5Ops 7=some 25:=rfl
theorem add5_op7:∃ o,add5Ops[7]? = some o∧o.op=.move (.tmp 0)∧o.dst=some 25:=⟨_,rfl,rfl,rfl⟩
theorem add5_dst8:dstAt add5Ops 8=some 26:=rfl
theorem add5_op8:∃ o,add5Ops[8]? = some o∧o.op=.nilCheck (.tmp 25)∧o.dst=some 26:=⟨_,rfl,rfl,rfl⟩
theorem add5_dst9:dstAt add5Ops 9=some 27:=rfl
theorem add5_op9:∃ o,add5Ops[9]? = some o∧o.op=.fieldAddr 74 (.tmp 26) 2∧o.dst=some 27:=⟨_,rfl,rfl,rfl⟩
theorem add5_dst10:dstAt add5Ops 10=some 28:=rfl
theorem add5_op10:∃ o,add5Ops[10]? = some o∧o.op=.load 72 (.tmp 27)∧o.dst=some 28:=⟨_,rfl,rfl,rfl⟩
theorem add5_dst11:dstAt add5Ops 11=some 29:=rfl
theorem add5_op11:∃ o,add5Ops[11]? = some o∧o.op=.lookup 72 (.tmp 28) (.const (.int .u8 120)) false∧o.dst=some 29:=⟨_,rfl,rfl,rfl⟩
theorem add5_dst12:dstAt add5Ops 12=some 30:=rfl
theorem add5_op12:∃ o,add5Ops[12]? = some o∧o.op=.field 131 (.tmp 29) 1∧o.dst=some 30:=⟨_,rfl,rfl,rfl⟩
theorem add5_dst13:dstAt add5Ops 13=some 31:=rfl
theorem add5_op13:∃ o,add5Ops[13]? = some o∧o.op=.call { callee:=.value (.func 83),args:=#[.tmp 21,.tmp 24,.tmp 30],argTypes:=#[71,41,106] }∧o.dst=some 31:=⟨_,rfl,rfl,rfl⟩
theorem add5_dst14:dstAt add5Ops 14=some 17:=rfl
theorem add5_op14:∃ o,add5Ops[14]? = some o∧o.op=.move (.tmp 31)∧o.dst=some 17:=⟨_,rfl,rfl,rfl⟩
theorem add5_dst15:dstAt add5Ops 15=some 32:=rfl
theorem add5_op15:∃ o,add5Ops[15]? = some o∧o.op=.extract (.tmp 17) 0∧o.dst=some 32:=⟨_,rfl,rfl,rfl⟩
theorem add5_dst16:dstAt add5Ops 16=some 33:=rfl
theorem add5_op16:∃ o,add5Ops[16]? = some o∧o.op=.extract (.tmp 17) 1∧o.dst=some 33:=⟨_,rfl,rfl,rfl⟩
theorem add5_dst17:dstAt add5Ops 17=none:=rfl
theorem add5_op17:∃ o,add5Ops[17]? = some o∧o.op=.store 41 (.tmp 3) (.tmp 32)∧o.dst=none:=⟨_,rfl,rfl,rfl⟩
theorem add5_dst18:dstAt add5Ops 18=some 5:=rfl
theorem add5_op18:∃ o,add5Ops[18]? = some o∧o.op=.assign (.tmp 33)∧o.dst=some 5:=⟨_,rfl,rfl,rfl⟩
structure W5 (w:World) (bx:Nat) (h ah:HeadV) (listed:Array Bool) (w':World):Prop where
 bel:Below w.heap.size w w'
 bf:listed.getD 17 false=false → Blk w' bx 41 (headC h)
 aft:listed.getD 17 false=true → Blk w' bx 41 (headC ah) ∧ ∀ j,j < 16 → listed.getD j false=true
theorem W5.keep {w w':World} {bx:Nat} {h ah:HeadV} {listed:Array Bool} (hW:W5 w bx h ah listed w') {j:Nat} (hlt:j < listed.size) (hj:j≠17):W5 w bx h ah (listed.setIfInBounds j true) w':=by
 have e:(listed.setIfInBounds j true).getD 17 false=listed.getD 17 false:=by rw [listed_get hlt,if_neg (Ne.symm hj)]
 refine ⟨hW.bel,fun hx => hW.bf (by rw [← e];exact hx),fun hx => ⟨(hW.aft (by rw [← e];exact hx)).1,fun i hi => ?_⟩⟩
 rw [listed_get hlt]
 split
 ·rfl
 ·exact (hW.aft (by rw [← e];exact hx)).2 i hi
theorem W5.not {w w':World} {bx:Nat} {h ah:HeadV} {listed:Array Bool} (hW:W5 w bx h ah listed w') {j:Nat} (hj:j < 16) (hlf:listed.getD j false=false):listed.getD 17 false=false:=by
 cases hx:listed.getD 17 false with
 | false => rfl
 | true => rw [(hW.aft hx).2 j hj] at hlf;cases hlf
theorem W5.call {w w' w2:World} {bx:Nat} {h ah:HeadV} {listed:Array Bool} (hW:W5 w bx h ah listed w') {j:Nat} (hlt:j < listed.size) (hj:j < 16) (hlf:listed.getD j false=false) (hb:Below w'.heap.size w' w2):W5 w bx h ah (listed.setIfInBounds j true) w2:=by
 have hn:=hW.not hj hlf;have e:(listed.setIfInBounds j true).getD 17 false=false:=by rw [listed_get hlt,if_neg (by omega)];exact hn
 refine ⟨hW.bel.trans (hb.mono hW.bel.size),fun _ => (hW.bf hn).below hb (hW.bf hn).lt,fun hx => ?_⟩
 rw [e] at hx
 cases hx
set_option maxHeartbeats 4000000 in
theorem add5_region {Q':Exit → Act → World → Prop} {a0:Act} {w w1:World} (r gs mw bx:Nat) (h h':HeadV) (oq:Option Addr) (on oc:Nat) (ah:HeadV) (ae:Int)
 (hsz:73≤a0.tmps.size) (h0:a0.eval (.tmp 0)=.pointer (some ⟨r,0,none⟩)) (h3:a0.eval (.tmp 3)=.pointer (some ⟨bx,0,none⟩)) (hbx:w.heap.size≤bx) (hb1:Below w.heap.size w w1) (hbox:Blk w1 bx 41 (headC h))
 (hS:∀ wi,Below w.heap.size w wi → (wi.cell? ⟨r,1,none⟩=some (.pointer (some ⟨gs,0,none⟩))∧wi.cell? ⟨r,2,none⟩=some (.map (some mw)))∧(Instr.lookup 72 (.map (some mw)) (.int .u8 120) false).run Tryz.prog wi=.ok (.agg #[.string ⟨#[]⟩,.slice oq on oc]) wi)
 (hren:∀ wi,Below w.heap.size w wi → Calls Tryz.prog 84 #[.pointer (some ⟨r,0,none⟩),.agg (headC h)] wi fun e w' => e=.returned (.agg (headC h'))∧Below wi.heap.size wi w')
 (happ:∀ wi,Below w.heap.size w wi → Calls Tryz.prog 83 #[.pointer (some ⟨gs,0,none⟩),.agg (headC h'),.slice oq on oc] wi fun e w' => e=.returned (.tuple #[.agg (headC ah),.int .i64 ae])∧Below wi.heap.size wi w')
 (hQ:∀ w',Below w.heap.size w w' → Blk w' bx 41 (headC ah) → Q' .normal ((((((((((((((((((a0.put (some 18) (.pointer (some ⟨r,0,none⟩))).put (some 19) (.pointer (some ⟨r,0,none⟩))).put (some 20) (.pointer (some ⟨r,1,none⟩))).put (some 21) (.pointer (some ⟨gs,0,none⟩))).put (some 22) (.pointer (some ⟨r,0,none⟩))).put (some 23) (.agg (headC h))).put (some 24) (.agg (headC h'))).put (some 25) (.pointer (some ⟨r,0,none⟩))).put (some 26) (.pointer (some ⟨r,0,none⟩))).put (some 27) (.pointer (some ⟨r,2,none⟩))).put (some 28) (.map (some mw))).put (some 29) (.agg #[.string ⟨#[]⟩,.slice oq on oc])).put (some 30) (.slice oq on oc)).put (some 31) (.tuple #[.agg (headC ah),.int .i64 ae])).put (some 17) (.tuple #[.agg (headC ah),.int .i64 ae])).put (some 32) (.agg (headC ah))).put (some 33) (.int .i64 ae)).put (some 5) (.int .i64 ae)) w') :
 wpAny Tryz.prog .any add5Ops Q' add5Ops.size (Array.replicate add5Ops.size false) a0 w1.drew:=by
 have no:∀ j,(Array.replicate add5Ops.size false).getD j false=false:=fun j => by
  rw [Array.getD_eq_getD_getElem?,Array.getElem?_replicate]
  split<;>rfl
 refine wpAny_ghost (Γ:=Unit) (fun _ => add5V r gs mw bx h h' oq on oc ah ae) () a0 (fun _ listed w' => W5 w bx h ah listed w') 73 add5_apart hsz ?_ ?_ ?_
 ·intro γ listed a w' j o hRI ho hun hdep
  have hlt:=lt_of_unlisted hun;have hW:=hRI.wd
  have hj:j < 19:=by
   have:=(Array.getElem?_eq_some_iff.1 ho).1
   rwa [add5_size] at this
  have same:∀ {j':Nat} {o':Oper},add5Ops[j']? = some o' → j=j' → o'=o:=fun {j' o'} h' e => by subst e;exact Option.some.inj (h'.symm.trans ho)
  have hlf:=getD_flip hun;have hne:∀ i,listed.getD i false=true → i≠j:=fun i hi e => by rw [e,hlf] at hi;cases hi
  rcases (show j=0 ∨ j=1 ∨ j=2 ∨ j=3 ∨ j=4 ∨ j=5 ∨ j=6 ∨ j=7 ∨ j=8 ∨ j=9 ∨ j=10 ∨ j=11 ∨ j=12 ∨ j=13 ∨ j=14 ∨ j=15 ∨ j=16 ∨ j=17 ∨ j=18 by omega) with rfl | rfl | rfl | rfl | rfl | rfl | rfl | rfl | rfl | rfl | rfl | rfl | rfl | rfl | rfl | rfl | rfl | rfl | rfl
  ·obtain ⟨o',ho',hop,hdst⟩:=add5_op0
   obtain rfl:=same ho' rfl;have e0:a.eval (.tmp 0)=.pointer (some ⟨r,0,none⟩):=(hRI.old (t:=0) (by kernel_rfl)).trans h0
   exact wp_move _ _ (Or.inl hop) e0 ⟨γ,fun _ _ => rfl,rfl,hW.keep hlt (by decide)⟩
  ·obtain ⟨o',ho',hop,hdst⟩:=add5_op1
   obtain rfl:=same ho' rfl;have e0:a.eval (.tmp 18)=.pointer (some ⟨r,0,none⟩):=(hRI.get ho hdep (i:=0) (d:=18) (by kernel_rfl) rfl)
   refine wp_run _ ?_ ⟨γ,fun _ _ => rfl,rfl,hW.keep hlt (by decide)⟩
   generalize a.eval=ev at e0 ⊢;simp [go_sem,execOp,hop,e0,add5V]
  ·obtain ⟨o',ho',hop,hdst⟩:=add5_op2
   obtain rfl:=same ho' rfl;have e0:a.eval (.tmp 19)=.pointer (some ⟨r,0,none⟩):=(hRI.get ho hdep (i:=1) (d:=19) (by kernel_rfl) rfl)
   refine wp_run _ ?_ ⟨γ,fun _ _ => rfl,rfl,hW.keep hlt (by decide)⟩
   generalize a.eval=ev at e0 ⊢;simp [go_sem,execOp,hop,e0,add5V]
  ·obtain ⟨o',ho',hop,hdst⟩:=add5_op3
   obtain rfl:=same ho' rfl;have e0:a.eval (.tmp 20)=.pointer (some ⟨r,1,none⟩):=(hRI.get ho hdep (i:=2) (d:=20) (by kernel_rfl) rfl)
   have q:=(hS w' hW.bel).1.1;refine wp_run _ ?_ ⟨γ,fun _ _ => rfl,rfl,hW.keep hlt (by decide)⟩
   generalize a.eval=ev at e0 ⊢;simp [go_sem,execOp,hop,e0,q,add5V]
  ·obtain ⟨o',ho',hop,hdst⟩:=add5_op4
   obtain rfl:=same ho' rfl;have e0:a.eval (.tmp 0)=.pointer (some ⟨r,0,none⟩):=(hRI.old (t:=0) (by kernel_rfl)).trans h0
   exact wp_move _ _ (Or.inl hop) e0 ⟨γ,fun _ _ => rfl,rfl,hW.keep hlt (by decide)⟩
  ·obtain ⟨o',ho',hop,hdst⟩:=add5_op5
   obtain rfl:=same ho' rfl;have e0:a.eval (.tmp 3)=.pointer (some ⟨bx,0,none⟩):=(hRI.old (t:=3) (by kernel_rfl)).trans h3
   refine wp_run _ ?_ ⟨γ,fun _ _ => rfl,rfl,hW.keep hlt (by decide)⟩
   have q:=ld_head w' bx h (hW.bf (hW.not (by omega) hlf))
   simp [execOp,hop,e0,q,Result.andThen,add5V]
  ·obtain ⟨o',ho',hop,hdst⟩:=add5_op6
   obtain rfl:=same ho' rfl;have e0:a.eval (.tmp 22)=.pointer (some ⟨r,0,none⟩):=(hRI.get ho hdep (i:=4) (d:=22) (by kernel_rfl) rfl)
   have e1:a.eval (.tmp 23)=.agg (headC h):=(hRI.get ho hdep (i:=5) (d:=23) (by kernel_rfl) rfl)
   refine wp_call _ _ _ hop #[.pointer (some ⟨r,0,none⟩),.agg (headC h)] (by simp [e0,e1]) (enters_of Tryz.func84 (by kernel_rfl) rfl) _ _ (hren w' hW.bel) (fun w2 hb => ⟨γ,fun _ _ => rfl,rfl,hW.call hlt (by omega) hlf hb⟩)
  ·obtain ⟨o',ho',hop,hdst⟩:=add5_op7
   obtain rfl:=same ho' rfl;have e0:a.eval (.tmp 0)=.pointer (some ⟨r,0,none⟩):=(hRI.old (t:=0) (by kernel_rfl)).trans h0
   exact wp_move _ _ (Or.inl hop) e0 ⟨γ,fun _ _ => rfl,rfl,hW.keep hlt (by decide)⟩
  ·obtain ⟨o',ho',hop,hdst⟩:=add5_op8
   obtain rfl:=same ho' rfl;have e0:a.eval (.tmp 25)=.pointer (some ⟨r,0,none⟩):=(hRI.get ho hdep (i:=7) (d:=25) (by kernel_rfl) rfl)
   refine wp_run _ ?_ ⟨γ,fun _ _ => rfl,rfl,hW.keep hlt (by decide)⟩
   generalize a.eval=ev at e0 ⊢;simp [go_sem,execOp,hop,e0,add5V]
  ·obtain ⟨o',ho',hop,hdst⟩:=add5_op9
   obtain rfl:=same ho' rfl;have e0:a.eval (.tmp 26)=.pointer (some ⟨r,0,none⟩):=(hRI.get ho hdep (i:=8) (d:=26) (by kernel_rfl) rfl)
   refine wp_run _ ?_ ⟨γ,fun _ _ => rfl,rfl,hW.keep hlt (by decide)⟩
   generalize a.eval=ev at e0 ⊢;simp [go_sem,execOp,hop,e0,add5V]
  ·obtain ⟨o',ho',hop,hdst⟩:=add5_op10
   obtain rfl:=same ho' rfl;have e0:a.eval (.tmp 27)=.pointer (some ⟨r,2,none⟩):=(hRI.get ho hdep (i:=9) (d:=27) (by kernel_rfl) rfl)
   have q:=(hS w' hW.bel).1.2;refine wp_run _ ?_ ⟨γ,fun _ _ => rfl,rfl,hW.keep hlt (by decide)⟩
   generalize a.eval=ev at e0 ⊢;simp [go_sem,execOp,hop,e0,q,add5V]
  ·obtain ⟨o',ho',hop,hdst⟩:=add5_op11
   obtain rfl:=same ho' rfl;have e0:a.eval (.tmp 28)=.map (some mw):=(hRI.get ho hdep (i:=10) (d:=28) (by kernel_rfl) rfl)
   exact wp_look _ _ _ hop _ _ _ e0 (evalC a _) (hS w' hW.bel).2 ⟨γ,fun _ _ => rfl,rfl,hW.keep hlt (by decide)⟩
  ·obtain ⟨o',ho',hop,hdst⟩:=add5_op12
   obtain rfl:=same ho' rfl;have e0:a.eval (.tmp 29)=.agg #[.string ⟨#[]⟩,.slice oq on oc]:=(hRI.get ho hdep (i:=11) (d:=29) (by kernel_rfl) rfl)
   refine wp_run _ ?_ ⟨γ,fun _ _ => rfl,rfl,hW.keep hlt (by decide)⟩
   have q:=ext_field w' ⟨#[]⟩ oq on oc;simp [execOp,hop,e0,q,Result.andThen,add5V]
  ·obtain ⟨o',ho',hop,hdst⟩:=add5_op13
   obtain rfl:=same ho' rfl;have e0:a.eval (.tmp 21)=.pointer (some ⟨gs,0,none⟩):=(hRI.get ho hdep (i:=3) (d:=21) (by kernel_rfl) rfl)
   have e1:a.eval (.tmp 24)=.agg (headC h'):=(hRI.get ho hdep (i:=6) (d:=24) (by kernel_rfl) rfl)
   have e2:a.eval (.tmp 30)=.slice oq on oc:=(hRI.get ho hdep (i:=12) (d:=30) (by kernel_rfl) rfl)
   refine wp_call _ _ _ hop #[.pointer (some ⟨gs,0,none⟩),.agg (headC h'),.slice oq on oc] (by simp [e0,e1,e2]) (enters_of Tryz.func83 (by kernel_rfl) rfl) _ _ (happ w' hW.bel) (fun w2 hb => ⟨γ,fun _ _ => rfl,rfl,hW.call hlt (by omega) hlf hb⟩)
  ·obtain ⟨o',ho',hop,hdst⟩:=add5_op14
   obtain rfl:=same ho' rfl;have e0:a.eval (.tmp 31)=.tuple #[.agg (headC ah),.int .i64 ae]:=(hRI.get ho hdep (i:=13) (d:=31) (by kernel_rfl) rfl)
   exact wp_move _ _ (Or.inl hop) e0 ⟨γ,fun _ _ => rfl,rfl,hW.keep hlt (by decide)⟩
  ·obtain ⟨o',ho',hop,hdst⟩:=add5_op15
   obtain rfl:=same ho' rfl;have e0:a.eval (.tmp 17)=.tuple #[.agg (headC ah),.int .i64 ae]:=(hRI.get ho hdep (i:=14) (d:=17) (by kernel_rfl) rfl)
   refine wp_run _ ?_ ⟨γ,fun _ _ => rfl,rfl,hW.keep hlt (by decide)⟩
   generalize a.eval=ev at e0 ⊢;simp [go_sem,execOp,hop,e0,add5V]
  ·obtain ⟨o',ho',hop,hdst⟩:=add5_op16
   obtain rfl:=same ho' rfl;have e0:a.eval (.tmp 17)=.tuple #[.agg (headC ah),.int .i64 ae]:=(hRI.get ho hdep (i:=14) (d:=17) (by kernel_rfl) rfl)
   refine wp_run _ ?_ ⟨γ,fun _ _ => rfl,rfl,hW.keep hlt (by decide)⟩
   generalize a.eval=ev at e0 ⊢;simp [go_sem,execOp,hop,e0,add5V]
  ·obtain ⟨o',ho',hop,hdst⟩:=add5_op17
   obtain rfl:=same ho' rfl;have e0:a.eval (.tmp 3)=.pointer (some ⟨bx,0,none⟩):=(hRI.old (t:=3) (by kernel_rfl)).trans h3
   have e1:a.eval (.tmp 32)=.agg (headC ah):=(hRI.get ho hdep (i:=15) (d:=32) (by kernel_rfl) rfl)
   have all:∀ j,j < 16 → listed.getD j false=true:=fun j hj => by
    rcases (show j=0 ∨ j=1 ∨ j=2 ∨ j=3 ∨ j=4 ∨ j=5 ∨ j=6 ∨ j=7 ∨ j=8 ∨ j=9 ∨ j=10 ∨ j=11 ∨ j=12 ∨ j=13 ∨ j=14 ∨ j=15 by omega) with rfl | rfl | rfl | rfl | rfl | rfl | rfl | rfl | rfl | rfl | rfl | rfl | rfl | rfl | rfl | rfl<;>exact dep_listed ho hdep (by kernel_rfl)
   refine wp_storeHH _ _ hop bx e0 ah h e1 (hW.bf hlf) (fun w2 hb2 hk => ⟨γ,fun _ _ => rfl,rfl,⟨hW.bel.trans (hk.below hW.bel.size (fun k hk => by rw [show k=bx from hk];exact hbx)),fun hx => ?_,fun _ => ⟨hb2,fun j hj => ?_⟩⟩⟩)
   ·rw [listed_get hlt,if_pos rfl] at hx
    cases hx
   ·rw [listed_get hlt]
    split
    ·rfl
    ·exact all j hj
  ·obtain ⟨o',ho',hop,hdst⟩:=add5_op18
   obtain rfl:=same ho' rfl;have e0:a.eval (.tmp 33)=.int .i64 ae:=(hRI.get ho hdep (i:=16) (d:=33) (by kernel_rfl) rfl)
   exact wp_move _ _ (Or.inr hop) e0 ⟨γ,fun _ _ => rfl,rfl,hW.keep hlt (by decide)⟩
 ·intro γ listed a w' hRI hall
  have all:∀ j,j < 19 → listed.getD j false=true:=fun j hj => hall j (by rw [add5_size];exact hj)
  have hW:=hRI.wd;rw [done_putAllG 73 add5_apart hsz hRI hall,add5_size];simp only [putAll,add5_dst0,add5_dst1,add5_dst2,add5_dst3,add5_dst4,add5_dst5,add5_dst6,add5_dst7,add5_dst8,add5_dst9,add5_dst10,add5_dst11,add5_dst12,add5_dst13,add5_dst14,add5_dst15,add5_dst16,add5_dst17,add5_dst18,put_none,add5V];exact hQ w' hW.bel (hW.aft (all 17 (by omega))).1
 ·exact ⟨hb1.drew,fun _ => hbox.drew,fun hx => by rw [no] at hx;cases hx⟩
end Go.Proofs.YtnpkcneojilmkaaGreatDoor.Mem
end
section
namespace Go.Proofs.YtnpkcneojilmkaaGreatDoor.Mem
open Go.ChangeShapes Go.WideShapes Go.ChangeAt Go.RowKit Go.Shelf Base Byt Txt Bk Mk Block Hp Head Attr Rec Go.Proofs.YtnpkcneojilmkaaGreatDoor.Mp Go.Lib
set_option linter.unusedVariables false
set_option maxRecDepth 100000
theorem ld_mem (w:World) (g:Nat) (y:MP) (hb:Blk w g 26 y.cs):(Instr.loadAt 26 (.pointer (some ⟨g,0,none⟩))).run Tryz.prog w=.ok (.agg y.cs) w:=by
 have c0:=hb.cell;unfold MP.cs memC at c0 ⊢
 go_simp
theorem bs_mem (w:World) (a b:ByteArray) (k m u i t:Int) (p:Option Addr) (n c:Nat):(Instr.buildSlice 32 1 #[(0,.agg #[.string a,.string b,.int .u8 k,.int .i64 m,.int .i64 u,.int .i64 i,.int .i64 t,.slice p n c])]).run Tryz.prog w =
 .ok (.slice (some ⟨w.heap.size,0,none⟩) 1 1) (w.alloc (.cells #[.string a,.string b,.int .u8 k,.int .i64 m,.int .i64 u,.int .i64 i,.int .i64 t,.slice p n c] 26)):=by kernel_rfl
theorem bs_memY (w:World) (y:MP):(Instr.buildSlice 32 1 #[(0,.agg y.cs)]).run Tryz.prog w=.ok (.slice (some ⟨w.heap.size,0,none⟩) 1 1) (w.alloc (.cells y.cs 26)):=bs_mem w _ _ _ _ _ _ _ _ _ _
theorem wp_append_member {w:World} {o:Oper} {b:Act} {Kk:Act → World → Prop} {Q:Exit → Act → World → Prop} (x y:Operand)
 (ho:o.op=.call { callee:=.builtin .append,args:=#[x,y],argTypes:=#[32,32] })
 (base:Nat) (v:Value) (xs:List MP) (hs:b.eval x=v) (hown:w.ownsRow base 26 8 v xs.length (flatM xs))
 (g:Nat) (d:Nat) (z:MP) (hx:b.eval y=.slice (some ⟨g,0,none⟩) 1 d) (hb:Blk w g 26 z.cs) (hsum:xs.length≤1000000) (hbase:base≤w.heap.size)
 (h:∀ v' w',w'.ownsRow base 26 8 v' (xs++[z]).length (flatM (xs++[z])) → w.grownBy w' v.ownBlock → NewOr w v v' → Kk (b.put o.dst v') w'):Oper.wp Tryz.prog o b w Kk Q:=by
 obtain ⟨i0,hi,hz0,hz1,hz2⟩:=info_parts infoMem
 obtain ⟨v',w',hr,h2,h3,h4⟩:=run_append_newS (P:=Tryz.prog) base 32 o.type 26 i0 _ 8 96 Tryz.underlying32 hi hz0 hz1 hz2 rfl (by decide) v xs.length (flatM xs) hown ⟨g,0,none⟩ 1 d z.cs.toList rfl (by
  intro j u hj;rw [WideShapes.add_plain,Nat.zero_add,hb.cell,← Array.getElem?_toList]
  exact hj) (fun u hu => flatM_one [z] u (by simpa [flatM] using hu)) (by unfold maxLen;omega) (by omega) hbase
 have hr2:(execOp b.eval o).run Tryz.prog w=.ok (.value v') w':=by simp [execOp,ho,resolve,invoke,builtin,hs,hx,hr,Result.andThen]
 unfold Oper.wp;rw [hr2,Oper.upon_value];rw [← flatM_snoc,show xs.length+1=(xs++[z]).length by simp] at h2
 exact h v' w' h2 h3 h4
def AppDone (base:Nat) (v:Value) (xs:List MP) (y:MP) (w1 wB:World) (va:Value):Prop:=
 ∃ wA,Below w1.heap.size w1 wA∧wB.ownsRow base 26 8 va (xs++[y]).length (flatM (xs++[y]))∧wA.grownBy wB v.ownBlock∧NewOr wA v va
noncomputable def add14Ops:Array Oper:=regionAt Tryz.f56 14
structure add14G where
 gb:Nat
 va:Value
def add14V (r bm:Nat) (v:Value) (y:MP) (γ:add14G):Nat → Value
 | 0 => .pointer (some ⟨r,0,none⟩) | 1 => .pointer (some ⟨r,0,none⟩) | 2 => .pointer (some ⟨r,0,none⟩) | 3 => .pointer (some ⟨r,3,none⟩) | 4 => v | 5 => .agg y.cs | 6 => .slice (some ⟨γ.gb,0,none⟩) 1 1 | 7 => γ.va | 8 => .pointer (some ⟨r,0,none⟩) | 9 => .pointer (some ⟨r,3,none⟩) | _ => undef
theorem add14_size:add14Ops.size=11:=rfl
theorem add14_apart:apartG add14Ops 73=true:=by kernel_rfl
theorem add14_dst0:dstAt add14Ops 0=some 59:=rfl
theorem add14_op0:∃ o,add14Ops[0]? = some o∧o.op=.move (.tmp 0)∧o.dst=some 59:=⟨_,rfl,rfl,rfl⟩
theorem add14_dst1:dstAt add14Ops 1=some 60:=rfl
theorem add14_op1:∃ o,add14Ops[1]? = some o∧o.op=.move (.tmp 0)∧o.dst=some 60:=⟨_,rfl,rfl,rfl⟩
theorem add14_dst2:dstAt add14Ops 2=some 61:=rfl
theorem add14_op2:∃ o,add14Ops[2]? = some o∧o.op=.nilCheck (.tmp 60)∧o.dst=some 61:=⟨_,rfl,rfl,rfl⟩
theorem add14_dst3:dstAt add14Ops 3=some 62:=rfl
theorem add14_op3:∃ o,add14Ops[3]? = some o∧o.op=.fieldAddr 74 (.tmp 61) 3∧o.dst=some 62:=⟨_,rfl,rfl,rfl⟩
theorem add14_dst4:dstAt add14Ops 4=some 63:=rfl
theorem add14_op4:∃ o,add14Ops[4]? = some o∧o.op=.load 32 (.tmp 62)∧o.dst=some 63:=⟨_,rfl,rfl,rfl⟩
theorem add14_dst5:dstAt add14Ops 5=some 64:=rfl
theorem add14_op5:∃ o,add14Ops[5]? = some o∧o.op=.load 26 (.tmp 6)∧o.dst=some 64:=⟨_,rfl,rfl,rfl⟩
theorem add14_dst6:dstAt add14Ops 6=some 65:=rfl
theorem add14_op6:∃ o,add14Ops[6]? = some o∧o.op=.buildSlice 32 1 #[(0,.tmp 64)]∧o.dst=some 65:=⟨_,rfl,rfl,rfl⟩
theorem add14_dst7:dstAt add14Ops 7=some 66:=rfl
theorem add14_op7:∃ o,add14Ops[7]? = some o∧o.op=.call { callee:=.builtin .append,args:=#[.tmp 63,.tmp 65],argTypes:=#[32,32] }∧o.dst=some 66:=⟨_,rfl,rfl,rfl⟩
theorem add14_dst8:dstAt add14Ops 8=some 67:=rfl
theorem add14_op8:∃ o,add14Ops[8]? = some o∧o.op=.nilCheck (.tmp 59)∧o.dst=some 67:=⟨_,rfl,rfl,rfl⟩
theorem add14_dst9:dstAt add14Ops 9=some 68:=rfl
theorem add14_op9:∃ o,add14Ops[9]? = some o∧o.op=.fieldAddr 74 (.tmp 67) 3∧o.dst=some 68:=⟨_,rfl,rfl,rfl⟩
theorem add14_dst10:dstAt add14Ops 10=none:=rfl
theorem add14_op10:∃ o,add14Ops[10]? = some o∧o.op=.store 32 (.tmp 68) (.tmp 66)∧o.dst=none:=⟨_,rfl,rfl,rfl⟩
theorem add14V_gb (r bm:Nat) (v:Value) (y:MP) (γ:add14G) (x:Nat) {i:Nat} (h:i≠6):add14V r bm v y { γ with gb:=x } i=add14V r bm v y γ i:=by
 unfold add14V
 split<;>first | rfl | (exfalso;omega)
theorem add14V_va (r bm:Nat) (v:Value) (y:MP) (γ:add14G) (x:Value) {i:Nat} (h:i≠7):add14V r bm v y { γ with va:=x } i=add14V r bm v y γ i:=by
 unfold add14V
 split<;>first | rfl | (exfalso;omega)
structure W14 (base r:Nat) (v:Value) (xs:List MP) (y:MP) (w1:World) (γ:add14G) (listed:Array Bool) (w':World):Prop where
 pre:listed.getD 7 false=false → Below w1.heap.size w1 w'
 bs:listed.getD 6 false=true → listed.getD 7 false=false → Blk w' γ.gb 26 y.cs
 ap:listed.getD 7 false=true → listed.getD 10 false=false → AppDone base v xs y w1 w' γ.va
 st:listed.getD 10 false=true → ∃ wB,AppDone base v xs y w1 wB γ.va∧w'=wB.setCell ⟨r,3,none⟩ γ.va
 c7:listed.getD 7 false=true → listed.getD 4 false=true∧listed.getD 6 false=true
 c6:listed.getD 6 false=true → listed.getD 5 false=true
 c10:listed.getD 10 false=true → listed.getD 7 false=true
theorem W14.keep {base r:Nat} {v:Value} {xs:List MP} {y:MP} {w1 w':World} {γ:add14G} {listed:Array Bool} (hW:W14 base r v xs y w1 γ listed w') {j:Nat} (hlt:j < listed.size) (hj:j≠6∧j≠7∧j≠10):W14 base r v xs y w1 γ (listed.setIfInBounds j true) w':=by
 have e6:(listed.setIfInBounds j true).getD 6 false=listed.getD 6 false:=by rw [listed_get hlt,if_neg (by omega)]
 have e7:(listed.setIfInBounds j true).getD 7 false=listed.getD 7 false:=by rw [listed_get hlt,if_neg (by omega)]
 have e10:(listed.setIfInBounds j true).getD 10 false=listed.getD 10 false:=by rw [listed_get hlt,if_neg (by omega)]
 have up:∀ i,listed.getD i false=true → (listed.setIfInBounds j true).getD i false=true:=fun i hi => by
  rw [listed_get hlt]
  split
  ·rfl
  ·exact hi
 exact ⟨by rw [e7];exact hW.pre,by rw [e6,e7];exact hW.bs,by rw [e7,e10];exact hW.ap,by rw [e10];exact hW.st,fun h => ⟨up _ (hW.c7 (by rw [← e7];exact h)).1,up _ (hW.c7 (by rw [← e7];exact h)).2⟩,fun h => up _ (hW.c6 (by rw [← e6];exact h)),by rw [e7,e10];exact hW.c10⟩
theorem W14.not7 {base r:Nat} {v:Value} {xs:List MP} {y:MP} {w1 w':World} {γ:add14G} {listed:Array Bool} (hW:W14 base r v xs y w1 γ listed w') {j:Nat} (hj:j=4 ∨ j=5 ∨ j=6) (hlf:listed.getD j false=false):listed.getD 7 false=false:=by
 cases hx:listed.getD 7 false with
 | false => rfl
 | true =>
   obtain ⟨h4,h6⟩:=hW.c7 hx;rcases hj with rfl | rfl | rfl
   ·rw [h4] at hlf;cases hlf
   ·rw [hW.c6 h6] at hlf;cases hlf
   ·rw [h6] at hlf;cases hlf
set_option maxHeartbeats 4000000 in
theorem add14_region {Q':Exit → Act → World → Prop} {a0:Act} {w1:World} (base r bm:Nat) (v:Value) (xs:List MP) (y:MP) (cs:Array Value)
 (hsz:73≤a0.tmps.size) (h0:a0.eval (.tmp 0)=.pointer (some ⟨r,0,none⟩)) (h6:a0.eval (.tmp 6)=.pointer (some ⟨bm,0,none⟩)) (hbm:Blk w1 bm 26 y.cs) (hbr:Blk w1 r 74 cs) (hc3:cs[3]? = some v) (hrv:v.ownBlock≠some r)
 (hrow:w1.ownsRow base 26 8 v xs.length (flatM xs)) (hbase:base≤w1.heap.size) (hxs:xs.length≤1000000)
 (hQ:∀ (γ:add14G) wB,AppDone base v xs y w1 wB γ.va → Q' .normal ((((((((((a0.put (some 59) (.pointer (some ⟨r,0,none⟩))).put (some 60) (.pointer (some ⟨r,0,none⟩))).put (some 61) (.pointer (some ⟨r,0,none⟩))).put (some 62) (.pointer (some ⟨r,3,none⟩))).put (some 63) (v)).put (some 64) (.agg y.cs)).put (some 65) (.slice (some ⟨γ.gb,0,none⟩) 1 1)).put (some 66) (γ.va)).put (some 67) (.pointer (some ⟨r,0,none⟩))).put (some 68) (.pointer (some ⟨r,3,none⟩))) (wB.setCell ⟨r,3,none⟩ γ.va)) :
 wpAny Tryz.prog .any add14Ops Q' add14Ops.size (Array.replicate add14Ops.size false) a0 w1.drew:=by
 have no:∀ j,(Array.replicate add14Ops.size false).getD j false=false:=fun j => by
  rw [Array.getD_eq_getD_getElem?,Array.getElem?_replicate]
  split<;>rfl
 refine wpAny_ghost (Γ:=add14G) (add14V r bm v y) { gb:=0,va:=undef } a0 (fun γ listed w' => W14 base r v xs y w1 γ listed w') 73 add14_apart hsz ?_ ?_ ?_
 ·intro γ listed a w' j o hRI ho hun hdep
  have hlt:=lt_of_unlisted hun;have hW:=hRI.wd
  have hj:j < 11:=by
   have:=(Array.getElem?_eq_some_iff.1 ho).1
   rwa [add14_size] at this
  have same:∀ {j':Nat} {o':Oper},add14Ops[j']? = some o' → j=j' → o'=o:=fun {j' o'} h' e => by subst e;exact Option.some.inj (h'.symm.trans ho)
  have hlf:=getD_flip hun;have hne:∀ i,listed.getD i false=true → i≠j:=fun i hi e => by rw [e,hlf] at hi;cases hi
  rcases (show j=0 ∨ j=1 ∨ j=2 ∨ j=3 ∨ j=4 ∨ j=5 ∨ j=6 ∨ j=7 ∨ j=8 ∨ j=9 ∨ j=10 by omega) with rfl | rfl | rfl | rfl | rfl | rfl | rfl | rfl | rfl | rfl | rfl
  ·obtain ⟨o',ho',hop,hdst⟩:=add14_op0
   obtain rfl:=same ho' rfl;have e0:a.eval (.tmp 0)=.pointer (some ⟨r,0,none⟩):=(hRI.old (t:=0) (by kernel_rfl)).trans h0
   exact wp_move _ _ (Or.inl hop) e0 ⟨γ,fun _ _ => rfl,rfl,hW.keep hlt (by decide)⟩
  ·obtain ⟨o',ho',hop,hdst⟩:=add14_op1
   obtain rfl:=same ho' rfl;have e0:a.eval (.tmp 0)=.pointer (some ⟨r,0,none⟩):=(hRI.old (t:=0) (by kernel_rfl)).trans h0
   exact wp_move _ _ (Or.inl hop) e0 ⟨γ,fun _ _ => rfl,rfl,hW.keep hlt (by decide)⟩
  ·obtain ⟨o',ho',hop,hdst⟩:=add14_op2
   obtain rfl:=same ho' rfl;have e0:a.eval (.tmp 60)=.pointer (some ⟨r,0,none⟩):=(hRI.get ho hdep (i:=1) (d:=60) (by kernel_rfl) rfl)
   refine wp_run _ ?_ ⟨γ,fun _ _ => rfl,rfl,hW.keep hlt (by decide)⟩
   generalize a.eval=ev at e0 ⊢;simp [go_sem,execOp,hop,e0,add14V]
  ·obtain ⟨o',ho',hop,hdst⟩:=add14_op3
   obtain rfl:=same ho' rfl;have e0:a.eval (.tmp 61)=.pointer (some ⟨r,0,none⟩):=(hRI.get ho hdep (i:=2) (d:=61) (by kernel_rfl) rfl)
   refine wp_run _ ?_ ⟨γ,fun _ _ => rfl,rfl,hW.keep hlt (by decide)⟩
   generalize a.eval=ev at e0 ⊢;simp [go_sem,execOp,hop,e0,add14V]
  ·obtain ⟨o',ho',hop,hdst⟩:=add14_op4
   obtain rfl:=same ho' rfl;have e0:a.eval (.tmp 62)=.pointer (some ⟨r,3,none⟩):=(hRI.get ho hdep (i:=3) (d:=62) (by kernel_rfl) rfl)
   have hn:=hW.not7 (.inl rfl) hlf;have q:=(hbr.below (hW.pre hn) hbr.lt).cell 3;rw [hc3] at q;refine wp_run _ ?_ ⟨γ,fun _ _ => rfl,rfl,hW.keep hlt (by decide)⟩
   generalize a.eval=ev at e0 ⊢;simp [go_sem,execOp,hop,e0,q,add14V]
  ·obtain ⟨o',ho',hop,hdst⟩:=add14_op5
   obtain rfl:=same ho' rfl;have e0:a.eval (.tmp 6)=.pointer (some ⟨bm,0,none⟩):=(hRI.old (t:=6) (by kernel_rfl)).trans h6
   have hn:=hW.not7 (.inr (.inl rfl)) hlf;refine wp_run _ ?_ ⟨γ,fun _ _ => rfl,rfl,hW.keep hlt (by decide)⟩
   have q:=ld_mem w' bm y (hbm.below (hW.pre hn) hbm.lt);simp [execOp,hop,e0,q,Result.andThen,add14V]
  ·obtain ⟨o',ho',hop,hdst⟩:=add14_op6
   obtain rfl:=same ho' rfl;have e0:a.eval (.tmp 64)=.agg y.cs:=(hRI.get ho hdep (i:=5) (d:=64) (by kernel_rfl) rfl)
   have hn:=hW.not7 (.inr (.inr rfl)) hlf;have q:=bs_memY w' y;have hr:(execOp a.eval o').run Tryz.prog w'=.ok (.value (.slice (some ⟨w'.heap.size,0,none⟩) 1 1)) (w'.alloc (.cells y.cs 26)):=by simp [execOp,hop,e0,q,Result.andThen]
   unfold Oper.wp;rw [hr,Oper.upon_value];have e7:(listed.setIfInBounds 6 true).getD 7 false=listed.getD 7 false:=by rw [listed_get hlt,if_neg (by decide)]
   have e10:(listed.setIfInBounds 6 true).getD 10 false=listed.getD 10 false:=by rw [listed_get hlt,if_neg (by decide)]
   refine ⟨{ γ with gb:=w'.heap.size },fun i hi => add14V_gb _ _ _ _ _ _ (hne i hi),rfl,⟨fun _ => (hW.pre hn).alloc (hW.pre hn).size _,fun _ _ => Blk.new w' _ _,fun hx => ?_,fun hx => ?_,fun hx => ?_,fun _ => (by rw [listed_get hlt,if_neg (by decide)];exact dep_listed ho hdep (by kernel_rfl)),fun hx => ?_⟩⟩
   ·rw [e7,hn] at hx;cases hx
   ·rw [e10] at hx;have:=hW.c10 hx;rw [hn] at this;cases this
   ·rw [e7,hn] at hx;cases hx
   ·rw [e10] at hx;have:=hW.c10 hx;rw [hn] at this;cases this
  ·obtain ⟨o',ho',hop,hdst⟩:=add14_op7
   obtain rfl:=same ho' rfl;have e0:a.eval (.tmp 63)=v:=(hRI.get ho hdep (i:=4) (d:=63) (by kernel_rfl) rfl)
   have e1:a.eval (.tmp 65)=.slice (some ⟨γ.gb,0,none⟩) 1 1:=(hRI.get ho hdep (i:=6) (d:=65) (by kernel_rfl) rfl)
   have l6:listed.getD 6 false=true:=dep_listed ho hdep (by kernel_rfl)
   have hp:=hW.pre hlf;have hbs:=hW.bs l6 hlf;have l4:listed.getD 4 false=true:=dep_listed ho hdep (by kernel_rfl)
   have n10:listed.getD 10 false=false:=by
    cases hx:listed.getD 10 false with
    | false => rfl
    | true => have:=hW.c10 hx;rw [hlf] at this;cases this
   have e10:(listed.setIfInBounds 7 true).getD 10 false=false:=by rw [listed_get hlt,if_neg (by decide)];exact n10
   have e7:(listed.setIfInBounds 7 true).getD 7 false=true:=by rw [listed_get hlt,if_pos rfl]
   refine wp_append_member _ _ hop base v xs e0 (row_below hrow hp) γ.gb 1 y e1 hbs hxs (Nat.le_trans hbase hp.size) (fun v' w2 h1 h2 h3 => ⟨{ γ with va:=v' },fun i hi => add14V_va _ _ _ _ _ _ (hne i hi),rfl,⟨fun hx => ?_,fun _ hx => ?_,fun _ _ => ⟨w',hp,h1,h2,h3⟩,fun hx => ?_,fun _ => ⟨?_,?_⟩,fun _ => ?_,fun hx => ?_⟩⟩)
   ·rw [e7] at hx;cases hx
   ·rw [e7] at hx;cases hx
   ·rw [e10] at hx;cases hx
   ·rw [listed_get hlt,if_neg (by decide)];exact l4
   ·rw [listed_get hlt,if_neg (by decide)];exact l6
   ·rw [listed_get hlt,if_neg (by decide)];exact hW.c6 l6
   ·rw [e10] at hx;cases hx
  ·obtain ⟨o',ho',hop,hdst⟩:=add14_op8
   obtain rfl:=same ho' rfl;have e0:a.eval (.tmp 59)=.pointer (some ⟨r,0,none⟩):=(hRI.get ho hdep (i:=0) (d:=59) (by kernel_rfl) rfl)
   refine wp_run _ ?_ ⟨γ,fun _ _ => rfl,rfl,hW.keep hlt (by decide)⟩
   generalize a.eval=ev at e0 ⊢;simp [go_sem,execOp,hop,e0,add14V]
  ·obtain ⟨o',ho',hop,hdst⟩:=add14_op9
   obtain rfl:=same ho' rfl;have e0:a.eval (.tmp 67)=.pointer (some ⟨r,0,none⟩):=(hRI.get ho hdep (i:=8) (d:=67) (by kernel_rfl) rfl)
   refine wp_run _ ?_ ⟨γ,fun _ _ => rfl,rfl,hW.keep hlt (by decide)⟩
   generalize a.eval=ev at e0 ⊢;simp [go_sem,execOp,hop,e0,add14V]
  ·obtain ⟨o',ho',hop,hdst⟩:=add14_op10
   obtain rfl:=same ho' rfl;have e0:a.eval (.tmp 68)=.pointer (some ⟨r,3,none⟩):=(hRI.get ho hdep (i:=9) (d:=68) (by kernel_rfl) rfl)
   have e1:a.eval (.tmp 66)=γ.va:=(hRI.get ho hdep (i:=7) (d:=66) (by kernel_rfl) rfl)
   have l7:listed.getD 7 false=true:=dep_listed ho hdep (by kernel_rfl)
   have hA:=hW.ap l7 hlf;obtain ⟨wA,g1,g2,g3,g4⟩:=hA;have hb2:Blk w' r 74 cs:=(g3.block r (hbr.below g1 hbr.lt).lt (fun e => hrv e.symm)).trans (hbr.below g1 hbr.lt)
   have c0:=hb2.cell 3;rw [hc3] at c0;have f0:=hb2.frozen 3
   obtain ⟨pv,lv,cv,hva⟩:∃ p l c,γ.va=.slice p l c:=by
    rcases g2.2 with ⟨h,_⟩ | ⟨_,_,_,h,_⟩
    ·exact ⟨_,_,_,h⟩
    ·exact ⟨_,_,_,h⟩
   have hr:(execOp a.eval o').run Tryz.prog w'=.ok .skip (w'.setCell ⟨r,3,none⟩ γ.va):=by
    rw [hva] at e1 ⊢;generalize a.eval=ev at e0 e1 ⊢;simp [go_sem,execOp,hop,e0,e1,c0,f0,Result.andThen]
   unfold Oper.wp;rw [hr,Oper.upon_skip];have e7:(listed.setIfInBounds 10 true).getD 7 false=true:=by rw [listed_get hlt,if_neg (by decide)];exact l7
   have e10:(listed.setIfInBounds 10 true).getD 10 false=true:=by rw [listed_get hlt,if_pos rfl]
   refine ⟨γ,fun _ _ => rfl,rfl,⟨fun hx => ?_,fun _ hx => ?_,fun _ hx => ?_,fun _ => ⟨w',⟨wA,g1,g2,g3,g4⟩,rfl⟩,fun _ => ?_,fun hx => ?_,fun _ => e7⟩⟩
   ·rw [e7] at hx;cases hx
   ·rw [e7] at hx;cases hx
   ·rw [e10] at hx;cases hx
   ·obtain ⟨k4,k6⟩:=hW.c7 l7
    exact ⟨by rw [listed_get hlt,if_neg (by decide)];exact k4,by rw [listed_get hlt,if_neg (by decide)];exact k6⟩
   ·rw [listed_get hlt,if_neg (by decide)] at hx ⊢;exact hW.c6 hx
 ·intro γ listed a w' hRI hall
  have all:∀ j,j < 11 → listed.getD j false=true:=fun j hj => hall j (by rw [add14_size];exact hj)
  obtain ⟨wB,hA,rfl⟩:=hRI.wd.st (all 10 (by omega))
  rw [done_putAllG 73 add14_apart hsz hRI hall,add14_size];simp only [putAll,add14_dst0,add14_dst1,add14_dst2,add14_dst3,add14_dst4,add14_dst5,add14_dst6,add14_dst7,add14_dst8,add14_dst9,add14_dst10,put_none,add14V];exact hQ γ wB hA
 ·exact ⟨fun _ => (Below.refl _ _).drew,fun hx => (by rw [no] at hx;cases hx),fun hx => (by rw [no] at hx;cases hx),fun hx => (by rw [no] at hx;cases hx),fun hx => (by rw [no] at hx;cases hx),fun hx => (by rw [no] at hx;cases hx),fun hx => (by rw [no] at hx;cases hx)⟩
end Go.Proofs.YtnpkcneojilmkaaGreatDoor.Mem
end
section
namespace Go.Proofs.YtnpkcneojilmkaaGreatDoor.Mem
open Go.ChangeShapes Go.WideShapes Go.ChangeAt Go.RowKit Base Byt Txt Bk Mk Block Hp Head Attr Rec Path Go.Lib Go.Shelf
set_option linter.unusedVariables false
set_option maxRecDepth 100000
section
variable {w0 w w':World} {K:RK} {a:Nat} {s:RS} {mb:Option Nat} {v:Value} {xs:List MP} {q:Option Addr} {n c:Nat}
set_option maxHeartbeats 2000000 in
theorem add_full (hr:Rd w0 w K a s mb v xs q n c) (h:HeadV) (hf:s.out.length=4096) :
 Calls Tryz.prog 56 #[.pointer (some ⟨K.r,0,none⟩),.agg (headC h)] w fun e w' => e=.returned (.int .i64 10)∧Below w0.heap.size w0 w':=by
 obtain ⟨vp,vc,hv,_,_,_⟩:=mems_own hr.row hr.bodies;subst hv;have hxl:xs.length=s.out.length:=by have:=congrArg List.length hr.out;simpa using this
 obtain ⟨W1,hW1⟩:∃ W1,w.alloc (.cells (headC h) 41)=W1:=⟨_,rfl⟩;have hB1:Below w.heap.size w W1:=by rw [← hW1];exact (Below.refl _ w).alloc (Nat.le_refl _) _
 have hX1:Blk W1 w.heap.size 41 (headC h):=by rw [← hW1];exact Blk.new w _ _
 have hR1:=hr.below hB1;have x3:=hR1.c3;have HR:=Lib.hid hr;have HB1:=Lib.hid hB1;have HX1:=Lib.hid hX1;have HR1:=Lib.hid hR1;have HXN:=Lib.hid hxl;clear hr hB1 hX1 hR1;rw [hf] at hxl;rw [hxl] at x3;clear hxl
 go_enter Tryz.func56,Tryz.ntmps56
 go_upto_region 1 with fail
 clear hW1
 go_wp2
 go_ret
 exact ⟨rfl,HR1.out.bel⟩
set_option maxHeartbeats 2000000 in
theorem add_odd (hr:Rd w0 w K a s mb v xs q n c) (h:HeadV) (hf:s.out.length < 4096) (hk:knownD h.kind=false) :
 Calls Tryz.prog 56 #[.pointer (some ⟨K.r,0,none⟩),.agg (headC h)] w fun e w' => e=.returned (.int .i64 8)∧Below w0.heap.size w0 w':=by
 obtain ⟨vp,vc,hv,_,_,_⟩:=mems_own hr.row hr.bodies;subst hv;have hxl:xs.length=s.out.length:=by have:=congrArg List.length hr.out;simpa using this
 obtain ⟨W1,hW1⟩:∃ W1,w.alloc (.cells (headC h) 41)=W1:=⟨_,rfl⟩;have hB1:Below w.heap.size w W1:=by rw [← hW1];exact (Below.refl _ w).alloc (Nat.le_refl _) _
 have hX1:Blk W1 w.heap.size 41 (headC h):=by rw [← hW1];exact Blk.new w _ _
 have hR1:=hr.below hB1;have x3:=hR1.c3;have HR:=Lib.hid hr;have HB1:=Lib.hid hB1;have HX1:=Lib.hid hX1;have HR1:=Lib.hid hR1;have HXN:=Lib.hid hxl;clear hr hB1 hX1 hR1;have hnl:((xs.length:Int) == 4096)=false:=by rw [hxl];simpa using (by omega:¬ (s.out.length:Int)=4096)
 clear hxl;have k2:=HX1.out.cell 2;simp only [headC,List.getElem?_toArray,List.getElem?_cons_zero,List.getElem?_cons_succ] at k2;have hkn:=known_any h.kind W1;rw [hk] at hkn
 go_enter Tryz.func56,Tryz.ntmps56
 go_upto_region 1 with fail
 clear hW1
 go_wp2_with fail
 refine hkn.mono ?_
 rintro e w1 ⟨rfl,rfl⟩
 go_wp2
 go_ret
 exact ⟨rfl,HR1.out.bel⟩
set_option maxHeartbeats 4000000 in
theorem add_noapply (hr:Rd w0 w K a s mb v xs q n c) (h:HeadV) (hf:s.out.length < 4096) (hk:knownD h.kind=true) (hae:(applyD (lastD s.glob) s.own (renD h s)).2≠0) :
 Calls Tryz.prog 56 #[.pointer (some ⟨K.r,0,none⟩),.agg (headC h)] w fun e w' => e=.returned (.int .i64 (applyD (lastD s.glob) s.own (renD h s)).2)∧Below w0.heap.size w0 w':=by
 obtain ⟨vp,vc,hv,_,_,_⟩:=mems_own hr.row hr.bodies;subst hv;have hxl:xs.length=s.out.length:=by have:=congrArg List.length hr.out;simpa using this
 obtain ⟨W1,hW1⟩:∃ W1,w.alloc (.cells (headC h) 41)=W1:=⟨_,rfl⟩;have hB1:Below w.heap.size w W1:=by rw [← hW1];exact (Below.refl _ w).alloc (Nat.le_refl _) _
 have hX1:Blk W1 w.heap.size 41 (headC h):=by rw [← hW1];exact Blk.new w _ _
 have hR1:=hr.below hB1;have x3:=hR1.c3;have HR:=Lib.hid hr;have HB1:=Lib.hid hB1;have HX1:=Lib.hid hX1;have HR1:=Lib.hid hR1;have HXN:=Lib.hid hxl;clear hr hB1 hX1 hR1;have hnl:((xs.length:Int) == 4096)=false:=by rw [hxl];simpa using (by omega:¬ (s.out.length:Int)=4096)
 clear hxl;have k2:=HX1.out.cell 2;simp only [headC,List.getElem?_toArray,List.getElem?_cons_zero,List.getElem?_cons_succ] at k2;have hkn:=known_any h.kind W1;rw [hk] at hkn;obtain ⟨⟨oq,on,oc⟩,hov⟩:∃ x,ownV s q n c=x:=⟨_,rfl⟩;obtain ⟨⟨ah,ae⟩,hap⟩:∃ x,applyD (lastD s.glob) s.own (renD h s)=x:=⟨_,rfl⟩
 have HSS:Hid (∀ wi,Rd w0 wi K a s mb (.slice vp xs.length vc) xs q n c → ((wi.cell? ⟨K.r,1,none⟩=some (.pointer (some ⟨K.gs,0,none⟩))∧wi.cell? ⟨K.r,2,none⟩=some (.map (some K.mw)))∧(Instr.lookup 72 (.map (some K.mw)) (.int .u8 120) false).run Tryz.prog wi=.ok (.agg #[.string ⟨#[]⟩,.slice oq on oc]) wi)):=
  Lib.hid (fun wi hi => ⟨⟨hi.c1,hi.c2⟩,look120 hi.map hov⟩)
 have HAP:Hid (∀ wi,Rd w0 wi K a s mb (.slice vp xs.length vc) xs q n c → Calls Tryz.prog 83 #[.pointer (some ⟨K.gs,0,none⟩),.agg (headC (renD h s)),.slice oq on oc] wi fun e w' => e=.returned (.tuple #[.agg (headC ah),.int .i64 ae])∧Below wi.heap.size wi w'):=
  Lib.hid (fun wi hi => by have:=apply_rd h hi hov (renD h s);rw [hap] at this;exact this)
 have HPL:=Lib.hid hap;clear hov hap;rw [HPL.out] at hae ⊢;simp only at hae ⊢;have hnz:(ae != 0)=true:=by simpa using hae
 clear hae
 go_enter Tryz.func56,Tryz.ntmps56
 go_upto_region 1 with fail
 clear hW1
 go_wp2_with fail
 refine hkn.mono ?_
 rintro e w1 ⟨rfl,rfl⟩
 go_upto_region 5 with fail
 refine wp_region_any (by kernel_rfl) (add5_region (w:=w) (w1:=W1) K.r K.gs K.mw w.heap.size h (renD h s) oq on oc ah ae (show 73≤73 from Nat.le_refl 73) rfl rfl (Nat.le_refl _) HB1.out HX1.out (fun wi hb => HSS.out wi (HR.out.below hb)) (fun wi hb => renamed_any h (HR.out.below hb)) (fun wi hb => HAP.out wi (HR.out.below hb)) ?_)
 intro W5 hb5 hx5;have HB5:=Lib.hid hb5;have HX5:=Lib.hid hx5;have HR5:=Lib.hid (HR.out.below hb5);clear hb5 hx5 k2 x3;simp only [Exit.then]
 apply_assumption
 go_wp2
 go_ret
 exact ⟨rfl,HR5.out.bel⟩
set_option maxHeartbeats 4000000 in
theorem add_nofrom (hr:Rd w0 w K a s mb v xs q n c) (h:HeadV) (hf:s.out.length < 4096) (hk:knownD h.kind=true) (hN:Need w0) (h0:0≤h.size) (h1:h.name.length≤1048576) (h2:h.link.length≤1048576) (ah:HeadV) (hae:applyD (lastD s.glob) s.own (renD h s)=(ah,0)) (hfe0:(fromD ah).2≠0) :
 Calls Tryz.prog 56 #[.pointer (some ⟨K.r,0,none⟩),.agg (headC h)] w fun e w' => e=.returned (.int .i64 (fromD ah).2)∧Below w0.heap.size w0 w':=by
 obtain ⟨vp,vc,hv,_,_,_⟩:=mems_own hr.row hr.bodies;subst hv;have hxl:xs.length=s.out.length:=by have:=congrArg List.length hr.out;simpa using this
 obtain ⟨W1,hW1⟩:∃ W1,w.alloc (.cells (headC h) 41)=W1:=⟨_,rfl⟩;have hB1:Below w.heap.size w W1:=by rw [← hW1];exact (Below.refl _ w).alloc (Nat.le_refl _) _
 have hX1:Blk W1 w.heap.size 41 (headC h):=by rw [← hW1];exact Blk.new w _ _
 have hR1:=hr.below hB1;have x3:=hR1.c3;have HR:=Lib.hid hr;have HB1:=Lib.hid hB1;have HX1:=Lib.hid hX1;have HR1:=Lib.hid hR1;have HXN:=Lib.hid hxl;clear hr hB1 hX1 hR1;have hnl:((xs.length:Int) == 4096)=false:=by rw [hxl];simpa using (by omega:¬ (s.out.length:Int)=4096)
 clear hxl;have k2:=HX1.out.cell 2;simp only [headC,List.getElem?_toArray,List.getElem?_cons_zero,List.getElem?_cons_succ] at k2;have hkn:=known_any h.kind W1;rw [hk] at hkn;obtain ⟨⟨oq,on,oc⟩,hov⟩:∃ x,ownV s q n c=x:=⟨_,rfl⟩
 have HSS:Hid (∀ wi,Rd w0 wi K a s mb (.slice vp xs.length vc) xs q n c → ((wi.cell? ⟨K.r,1,none⟩=some (.pointer (some ⟨K.gs,0,none⟩))∧wi.cell? ⟨K.r,2,none⟩=some (.map (some K.mw)))∧(Instr.lookup 72 (.map (some K.mw)) (.int .u8 120) false).run Tryz.prog wi=.ok (.agg #[.string ⟨#[]⟩,.slice oq on oc]) wi)):=
  Lib.hid (fun wi hi => ⟨⟨hi.c1,hi.c2⟩,look120 hi.map hov⟩)
 have HAP:Hid (∀ wi,Rd w0 wi K a s mb (.slice vp xs.length vc) xs q n c → Calls Tryz.prog 83 #[.pointer (some ⟨K.gs,0,none⟩),.agg (headC (renD h s)),.slice oq on oc] wi fun e w' => e=.returned (.tuple #[.agg (headC ah),.int .i64 0])∧Below wi.heap.size wi w'):=
  Lib.hid (fun wi hi => by have:=apply_rd h hi hov (renD h s);rw [hae] at this;exact this)
 have HPL:=Lib.hid hae;clear hov hae
 have HBD:Hid (0≤ah.size∧ah.name.length≤1048576∧ah.link.length≤1048576):=Lib.hid (by
  have:=apply_bd h HR.out h0 h1 h2;rw [HPL.out] at this
  exact this)
 have HND:=Lib.hid hN;clear hN h0 h1 h2;obtain ⟨⟨fm,fe⟩,hfd⟩:∃ x,fromD ah=x:=⟨_,rfl⟩;have hfb:fm.body=[]:=by have:=fromD_body ah;rw [hfd] at this;exact this
 have HFR:Hid (∀ wi,Tabs wi → Calls Tryz.prog 46 #[.agg (headC ah)] wi fun e w' => e=.returned (.tuple #[.agg #[.string (str fm.path),.string (str fm.target),.int .u8 (fm.kind.toNat:Int),.int .i64 fm.mode,.int .i64 fm.uid,.int .i64 fm.gid,.int .i64 fm.time,.slice none 0 0],.int .i64 fe])∧Below wi.heap.size wi w'):=
  Lib.hid (fun wi hT => by
   obtain ⟨_,b1,b2⟩:=HBD.out;have:=fromHead_any ah wi (by omega) (by omega) hT
   rw [hfd] at this;unfold memC at this;simp only [hfb,List.length_nil] at this
   exact this)
 have HFD:=Lib.hid hfd;have HFB:=Lib.hid hfb;clear hfd hfb;rw [HFD.out] at hfe0 ⊢;simp only at hfe0 ⊢;have hnz:(fe != 0)=true:=by simpa using hfe0
 clear hfe0
 go_enter Tryz.func56,Tryz.ntmps56
 go_upto_region 1 with fail
 clear hW1
 go_wp2_with fail
 refine hkn.mono ?_
 rintro e w1 ⟨rfl,rfl⟩
 go_upto_region 5 with fail
 refine wp_region_any (by kernel_rfl) (add5_region (w:=w) (w1:=W1) K.r K.gs K.mw w.heap.size h (renD h s) oq on oc ah 0 (show 73≤73 from Nat.le_refl 73) rfl rfl (Nat.le_refl _) HB1.out HX1.out (fun wi hb => HSS.out wi (HR.out.below hb)) (fun wi hb => renamed_any h (HR.out.below hb)) (fun wi hb => HAP.out wi (HR.out.below hb)) ?_)
 intro W5 hb5 hx5;have HB5:=Lib.hid hb5;have HX5:=Lib.hid hx5;have HR5:=Lib.hid (HR.out.below hb5);clear hb5 hx5 k2 x3;simp only [Exit.then]
 apply_assumption
 have b9:=HX5.out;have c0:=b9.cell 0;have c1:=b9.cell 1;have c2:=b9.cell 2;have c3:=b9.cell 3;have c4:=b9.cell 4;have c5:=b9.cell 5;have c6:=b9.cell 6;have c7:=b9.cell 7;have c8:=b9.cell 8;simp only [headC,List.getElem?_toArray,List.getElem?_cons_zero,List.getElem?_cons_succ] at c0 c1 c2 c3 c4 c5 c6 c7 c8;clear b9
 go_wp2_with fail
 refine (HFR.out _ (HR5.out.need HND.out).tabs).mono ?_
 rintro e w6 ⟨rfl,hb6⟩;have hb7:=hb6.alloc hb6.size (.cells #[.string (str fm.path),.string (str fm.target),.int .u8 (fm.kind.toNat:Int),.int .i64 fm.mode,.int .i64 fm.uid,.int .i64 fm.gid,.int .i64 fm.time,.slice none 0 0] 26);have hm7:=Blk.new w6 26 #[.string (str fm.path),.string (str fm.target),.int .u8 (fm.kind.toNat:Int),.int .i64 fm.mode,.int .i64 fm.uid,.int .i64 fm.gid,.int .i64 fm.time,.slice none 0 0];have hw6:w.heap.size < w6.heap.size:=Nat.lt_of_lt_of_le HX5.out.lt hb6.size;have HX7:=Lib.hid (HX5.out.below hb7 HX5.out.lt);have HR7:=Lib.hid (HR5.out.below hb7)
 have HM7:=Lib.hid hm7;have HW6:=Lib.hid hw6;clear hb6 hb7 hm7 hw6 c0 c1 c2 c3 c4 c5 c6 c7 c8
 go_wp2
 go_ret
 exact ⟨rfl,HR7.out.bel⟩
end
end Go.Proofs.YtnpkcneojilmkaaGreatDoor.Mem
end
section
namespace Go.Proofs.YtnpkcneojilmkaaGreatDoor.Mem
open Go.ChangeShapes Go.WideShapes Go.ChangeAt Go.RowKit Base Byt Txt Bk Mk Block Hp Head Attr Rec Path Go.Lib Go.Shelf
set_option linter.unusedVariables false
set_option maxRecDepth 100000
section
variable {w0 w w':World} {K:RK} {a:Nat} {s:RS} {mb:Option Nat} {v:Value} {xs:List MP} {q:Option Addr} {n c:Nat}
theorem Rd.fresh (h:Rd w0 w K a s mb v xs q n c) {b:Nat} (hb:w.heap.size≤b):¬ Ot K mb v b∧b≠K.g:=by
 obtain ⟨t,hs⟩:=h.src;have h1:=h.blk.lt;have h2:=hs.lt;have h3:=h.st.lt;have h4:=h.map.lt;refine ⟨fun e => ?_,by omega⟩
 rcases e with e | e | e | e | e
 ·omega
 ·omega
 ·omega
 ·have:=h.st.ltB e;omega
 ·have:=(h.row.lt b e).2;omega
theorem Rd.foreign {wo:World} {a0:Nat} (ho:Rd w0 wo K a0 s mb v xs q n c) (h:Rd w0 w K a s mb v xs q n c) (hk:Kept (fun k => wo.heap.size≤k) w w'):Rd w0 w' K a s mb v xs q n c:=by
 obtain ⟨t0,hs0⟩:=ho.src;obtain ⟨t,hs⟩:=h.src;have l1:=ho.blk.lt;have l2:=hs0.lt;have l3:=ho.st.lt;have l4:=ho.map.lt;have l5:=ho.bel.size
 exact {
  bel:=h.bel.trans (hk.below h.bel.size (fun k hk => Nat.le_trans l5 hk))
  blk:=h.blk.keptS hk (by omega)
  src:=⟨t,hs.kept hk (by omega) (fun h0 y hy e => by have:=bat_lt hs0.bat h0 hy;omega) (fun h0 y hy e => by have:=iat_lt hs0.iat h0 hy;omega)⟩
  off:=h.off
  st:=h.st.kept hk (fun k hk' e => by
   rcases hk' with rfl | hk'
   ·omega
   ·have:=ho.st.ltB hk';omega)
  map:=h.map.kept hk (by omega)
  own:=recsAt_kept h.own hk (fun h0 y hy e => by
   obtain ⟨b',o,hq,hlt,_⟩:=ho.own.2 h0;rw [hy] at hq
   cases hq
   have e:wo.heap.size≤b':=e
   omega)
  own0:=h.own0
  row:=ownsRow_kept h.row hk (fun k hk' e => by have:=(ho.row.lt k hk').2;omega)
  out:=h.out
  bodies:=fun x hx => (h.bodies x hx).kept hk (fun h0 y hy e => by have:=bat_lt (ho.bodies x hx).bat h0 hy;omega)
  apart:=h.apart
  sp:=h.sp
  sq:=h.sq
  ne:=h.ne
  neB:=h.neB
  neV:=h.neV
  base:=h.base
  many:=h.many
  gl:=h.gl
  ol:=h.ol
  nl:=h.nl
  ll:=h.ll }
set_option maxHeartbeats 4000000 in
theorem add_short (hr:Rd w0 w K (a+512) s mb v xs q n c) (h:HeadV) (hf:s.out.length < 4096) (hk:knownD h.kind=true) (hN:Need w0) (h0:0≤h.size) (h1:h.name.length≤1048576) (h2:h.link.length≤1048576) (ah:HeadV) (hae:applyD (lastD s.glob) s.own (renD h s)=(ah,0)) (hfe0:(fromD ah).2=0) (k:Nat) (hsz:ah.size=(k:Int)) (hkl:k≤1048576) (hl:K.S.n < a+512+padN k) :
 Calls Tryz.prog 56 #[.pointer (some ⟨K.r,0,none⟩),.agg (headC h)] w fun e w' => e=.returned (.int .i64 2)∧Below w0.heap.size w0 w':=by
 obtain ⟨vp,vc,hv,_,_,_⟩:=mems_own hr.row hr.bodies;subst hv;have hxl:xs.length=s.out.length:=by have:=congrArg List.length hr.out;simpa using this
 obtain ⟨W1,hW1⟩:∃ W1,w.alloc (.cells (headC h) 41)=W1:=⟨_,rfl⟩;have hB1:Below w.heap.size w W1:=by rw [← hW1];exact (Below.refl _ w).alloc (Nat.le_refl _) _
 have hX1:Blk W1 w.heap.size 41 (headC h):=by rw [← hW1];exact Blk.new w _ _
 have hR1:=hr.below hB1;have x3:=hR1.c3;have HR:=Lib.hid hr;have HB1:=Lib.hid hB1;have HX1:=Lib.hid hX1;have HR1:=Lib.hid hR1;have HXN:=Lib.hid hxl;clear hr hB1 hX1 hR1;have hnl:((xs.length:Int) == 4096)=false:=by rw [hxl];simpa using (by omega:¬ (s.out.length:Int)=4096)
 clear hxl;have k2:=HX1.out.cell 2;simp only [headC,List.getElem?_toArray,List.getElem?_cons_zero,List.getElem?_cons_succ] at k2;have hkn:=known_any h.kind W1;rw [hk] at hkn;obtain ⟨⟨oq,on,oc⟩,hov⟩:∃ x,ownV s q n c=x:=⟨_,rfl⟩
 have HSS:Hid (∀ wi,Rd w0 wi K (a+512) s mb (.slice vp xs.length vc) xs q n c → ((wi.cell? ⟨K.r,1,none⟩=some (.pointer (some ⟨K.gs,0,none⟩))∧wi.cell? ⟨K.r,2,none⟩=some (.map (some K.mw)))∧(Instr.lookup 72 (.map (some K.mw)) (.int .u8 120) false).run Tryz.prog wi=.ok (.agg #[.string ⟨#[]⟩,.slice oq on oc]) wi)):=
  Lib.hid (fun wi hi => ⟨⟨hi.c1,hi.c2⟩,look120 hi.map hov⟩)
 have HAP:Hid (∀ wi,Rd w0 wi K (a+512) s mb (.slice vp xs.length vc) xs q n c → Calls Tryz.prog 83 #[.pointer (some ⟨K.gs,0,none⟩),.agg (headC (renD h s)),.slice oq on oc] wi fun e w' => e=.returned (.tuple #[.agg (headC ah),.int .i64 0])∧Below wi.heap.size wi w'):=
  Lib.hid (fun wi hi => by have:=apply_rd h hi hov (renD h s);rw [hae] at this;exact this)
 have HPL:=Lib.hid hae;clear hov hae
 have HBD:Hid (0≤ah.size∧ah.name.length≤1048576∧ah.link.length≤1048576):=Lib.hid (by
  have:=apply_bd h HR.out h0 h1 h2;rw [HPL.out] at this
  exact this)
 have HND:=Lib.hid hN;clear hN h0 h1 h2;obtain ⟨⟨fm,fe⟩,hfd⟩:∃ x,fromD ah=x:=⟨_,rfl⟩;have hfb:fm.body=[]:=by have:=fromD_body ah;rw [hfd] at this;exact this
 have HFR:Hid (∀ wi,Tabs wi → Calls Tryz.prog 46 #[.agg (headC ah)] wi fun e w' => e=.returned (.tuple #[.agg #[.string (str fm.path),.string (str fm.target),.int .u8 (fm.kind.toNat:Int),.int .i64 fm.mode,.int .i64 fm.uid,.int .i64 fm.gid,.int .i64 fm.time,.slice none 0 0],.int .i64 fe])∧Below wi.heap.size wi w'):=
  Lib.hid (fun wi hT => by
   obtain ⟨_,b1,b2⟩:=HBD.out;have:=fromHead_any ah wi (by omega) (by omega) hT
   rw [hfd] at this;unfold memC at this;simp only [hfb,List.length_nil] at this
   exact this)
 have HFD:=Lib.hid hfd;have HFB:=Lib.hid hfb;clear hfd hfb;rw [HFD.out] at hfe0;simp only at hfe0;subst hfe0;have HBR:=Lib.hid hl;have HKL:=Lib.hid hkl;have HSZ:=Lib.hid hsz;clear hl hkl hsz
 go_enter Tryz.func56,Tryz.ntmps56
 go_upto_region 1 with fail
 clear hW1
 go_wp2_with fail
 refine hkn.mono ?_
 rintro e w1 ⟨rfl,rfl⟩
 go_upto_region 5 with fail
 refine wp_region_any (by kernel_rfl) (add5_region (w:=w) (w1:=W1) K.r K.gs K.mw w.heap.size h (renD h s) oq on oc ah 0 (show 73≤73 from Nat.le_refl 73) rfl rfl (Nat.le_refl _) HB1.out HX1.out (fun wi hb => HSS.out wi (HR.out.below hb)) (fun wi hb => renamed_any h (HR.out.below hb)) (fun wi hb => HAP.out wi (HR.out.below hb)) ?_)
 intro W5 hb5 hx5;have HB5:=Lib.hid hb5;have HX5:=Lib.hid hx5;have HR5:=Lib.hid (HR.out.below hb5);clear hb5 hx5 k2 x3;simp only [Exit.then]
 apply_assumption
 have b9:=HX5.out;have c0:=b9.cell 0;have c1:=b9.cell 1;have c2:=b9.cell 2;have c3:=b9.cell 3;have c4:=b9.cell 4;have c5:=b9.cell 5;have c6:=b9.cell 6;have c7:=b9.cell 7;have c8:=b9.cell 8;simp only [headC,List.getElem?_toArray,List.getElem?_cons_zero,List.getElem?_cons_succ] at c0 c1 c2 c3 c4 c5 c6 c7 c8;clear b9
 go_wp2_with fail
 refine (HFR.out _ (HR5.out.need HND.out).tabs).mono ?_
 rintro e w6 ⟨rfl,hb6⟩;have hb7:=hb6.alloc hb6.size (.cells #[.string (str fm.path),.string (str fm.target),.int .u8 (fm.kind.toNat:Int),.int .i64 fm.mode,.int .i64 fm.uid,.int .i64 fm.gid,.int .i64 fm.time,.slice none 0 0] 26);have hm7:=Blk.new w6 26 #[.string (str fm.path),.string (str fm.target),.int .u8 (fm.kind.toNat:Int),.int .i64 fm.mode,.int .i64 fm.uid,.int .i64 fm.gid,.int .i64 fm.time,.slice none 0 0];have hw6:w.heap.size < w6.heap.size:=Nat.lt_of_lt_of_le HX5.out.lt hb6.size;have HX7:=Lib.hid (HX5.out.below hb7 HX5.out.lt);have HR7:=Lib.hid (HR5.out.below hb7)
 have HM7:=Lib.hid hm7;have HW6:=Lib.hid hw6;clear hb6 hb7 hm7 hw6 c0 c1 c2 c3 c4 c5 c6 c7 c8;obtain ⟨W7,hW7⟩:∃ W7,w6.alloc (.cells #[.string (str fm.path),.string (str fm.target),.int .u8 (fm.kind.toNat:Int),.int .i64 fm.mode,.int .i64 fm.uid,.int .i64 fm.gid,.int .i64 fm.time,.slice none 0 0] 26)=W7:=⟨_,rfl⟩;rw [hW7] at HX7 HR7 HM7;have HW7:=Lib.hid hW7;clear hW7;have x0:=HR7.out.c0;have z7:=HX7.out.cell 7;simp only [headC,List.getElem?_toArray,List.getElem?_cons_zero,List.getElem?_cons_succ,HSZ.out] at z7;have hRd:=HR7.out.idle ((Kept.refl noneB W7).drew);obtain ⟨t,hs⟩:=hRd.src
 have hne:w.heap.size≠K.g∧w6.heap.size≠K.g:=by
  obtain ⟨t',hs'⟩:=HR.out.src;have:=hs'.lt;have:=HW6.out;exact ⟨by omega,by omega⟩
 have HRD:=Lib.hid hRd;have HNE:=Lib.hid hne;have hB:=body_no W7.drew K.g (a+512) t K.S hs hRd.off k HKL.out HBR.out;clear hs hRd hne
 go_upto_region 11 with fail
 rw [HW7.out]
 go_region_held_law (fun w' => w'.cell? ⟨K.r,0,none⟩=some (.pointer (some ⟨K.g,0,none⟩))∧w'.cell? ⟨w.heap.size,7,none⟩=some (.int .i64 (k:Int))) (first | exact ⟨x0,z7⟩ | exact hS8 | exact hS9)
  (first
   | (go_at_call 79
      refine hB.mono ?_
      rintro e w8 ⟨t',rfl,h4,h5⟩;have H8:=Lib.hid (HRD.out.moved h5 ⟨t',h4⟩);have HX8:Hid (Blk w8 w.heap.size 41 (headC ah)):=Lib.hid ((HX7.out.drew).keptS h5 HNE.out.1);have HM8:Hid (Blk w8 w6.heap.size 26 #[.string (str fm.path),.string (str fm.target),.int .u8 (fm.kind.toNat:Int),.int .i64 fm.mode,.int .i64 fm.uid,.int .i64 fm.gid,.int .i64 fm.time,.slice none 0 0]):=Lib.hid ((HM7.out.drew).keptS h5 HNE.out.2);have HB8:=Lib.hid h5;have hS8:w8.cell? ⟨K.r,0,none⟩=some (.pointer (some ⟨K.g,0,none⟩))∧w8.cell? ⟨w.heap.size,7,none⟩=some (.int .i64 (k:Int)):=⟨H8.out.c0,by have:=HX8.out.cell 7;simp only [headC,List.getElem?_toArray,List.getElem?_cons_zero,List.getElem?_cons_succ,HSZ.out] at this;exact this⟩
      have hS9:(w8.setCell ⟨w6.heap.size,7,none⟩ (.slice none 0 0)).cell? ⟨K.r,0,none⟩=some (.pointer (some ⟨K.g,0,none⟩))∧(w8.setCell ⟨w6.heap.size,7,none⟩ (.slice none 0 0)).cell? ⟨w.heap.size,7,none⟩=some (.int .i64 (k:Int)):=
       ⟨(H8.out.blk.other (b':=w6.heap.size) (i:=7) (by have:=HR.out.blk.lt;have:=HW6.out;omega) _).cell 0,by have:=(HX8.out.other (b':=w6.heap.size) (i:=7) (by have:=HW6.out;omega) (.slice none 0 0)).cell 7;simp only [headC,List.getElem?_toArray,List.getElem?_cons_zero,List.getElem?_cons_succ,HSZ.out] at this;exact this⟩
      have m7:=HM8.out.cell 7;have fm7:=HM8.out.frozen 7;simp only [List.getElem?_toArray,List.getElem?_cons_zero,List.getElem?_cons_succ] at m7
      clear h4 h5))
 clear hB hS8 x0 z7
 go_wp2
 go_ret
 exact ⟨rfl,H8.out.bel.setCell (p:=⟨w6.heap.size,7,none⟩) (Nat.le_trans HR.out.bel.size (Nat.le_of_lt HW6.out)) _⟩
set_option maxHeartbeats 8000000 in
theorem add_ok (hr:Rd w0 w K (a+512) s mb v xs q n c) (h:HeadV) (hf:s.out.length < 4096) (hk:knownD h.kind=true) (hN:Need w0) (h0:0≤h.size) (h1:h.name.length≤1048576) (h2:h.link.length≤1048576) (ah:HeadV) (hae:applyD (lastD s.glob) s.own (renD h s)=(ah,0)) (hfe0:(fromD ah).2=0) (k:Nat) (hsz:ah.size=(k:Int)) (hkl:k≤1048576) (X:List UInt8) (hX:(K.S.bs.drop (a+512)).take k=X) (hl:a+512+padN k≤K.S.n) :
 Calls Tryz.prog 56 #[.pointer (some ⟨K.r,0,none⟩),.agg (headC h)] w fun e w' => e=.returned (.int .i64 0)∧Left w0 K (a+512+padN k) { s with out:=s.out++[{ (fromD ah).1 with body:=X }],own:=[],name:=none,link:=none,hasX:=false } w':=by
 have HXL:Hid (X.length=k):=Lib.hid (by
  obtain ⟨t,hs⟩:=hr.src;have:=padN_ge k;have:=hs.len
  rw [← hX,List.length_take,List.length_drop];omega)
 obtain ⟨vp,vc,hv,_,_,_⟩:=mems_own hr.row hr.bodies;subst hv;have hxl:xs.length=s.out.length:=by have:=congrArg List.length hr.out;simpa using this
 obtain ⟨W1,hW1⟩:∃ W1,w.alloc (.cells (headC h) 41)=W1:=⟨_,rfl⟩;have hB1:Below w.heap.size w W1:=by rw [← hW1];exact (Below.refl _ w).alloc (Nat.le_refl _) _
 have hX1:Blk W1 w.heap.size 41 (headC h):=by rw [← hW1];exact Blk.new w _ _
 have hR1:=hr.below hB1;have x3:=hR1.c3;have HR:=Lib.hid hr;have HB1:=Lib.hid hB1;have HX1:=Lib.hid hX1;have HR1:=Lib.hid hR1;have HXN:=Lib.hid hxl;clear hr hB1 hX1 hR1;have hnl:((xs.length:Int) == 4096)=false:=by rw [hxl];simpa using (by omega:¬ (s.out.length:Int)=4096)
 clear hxl;have k2:=HX1.out.cell 2;simp only [headC,List.getElem?_toArray,List.getElem?_cons_zero,List.getElem?_cons_succ] at k2;have hkn:=known_any h.kind W1;rw [hk] at hkn;obtain ⟨⟨oq,on,oc⟩,hov⟩:∃ x,ownV s q n c=x:=⟨_,rfl⟩
 have HSS:Hid (∀ wi,Rd w0 wi K (a+512) s mb (.slice vp xs.length vc) xs q n c → ((wi.cell? ⟨K.r,1,none⟩=some (.pointer (some ⟨K.gs,0,none⟩))∧wi.cell? ⟨K.r,2,none⟩=some (.map (some K.mw)))∧(Instr.lookup 72 (.map (some K.mw)) (.int .u8 120) false).run Tryz.prog wi=.ok (.agg #[.string ⟨#[]⟩,.slice oq on oc]) wi)):=
  Lib.hid (fun wi hi => ⟨⟨hi.c1,hi.c2⟩,look120 hi.map hov⟩)
 have HAP:Hid (∀ wi,Rd w0 wi K (a+512) s mb (.slice vp xs.length vc) xs q n c → Calls Tryz.prog 83 #[.pointer (some ⟨K.gs,0,none⟩),.agg (headC (renD h s)),.slice oq on oc] wi fun e w' => e=.returned (.tuple #[.agg (headC ah),.int .i64 0])∧Below wi.heap.size wi w'):=
  Lib.hid (fun wi hi => by have:=apply_rd h hi hov (renD h s);rw [hae] at this;exact this)
 have HPL:=Lib.hid hae;clear hov hae
 have HBD:Hid (0≤ah.size∧ah.name.length≤1048576∧ah.link.length≤1048576):=Lib.hid (by
  have:=apply_bd h HR.out h0 h1 h2;rw [HPL.out] at this
  exact this)
 have HND:=Lib.hid hN;clear hN h0 h1 h2;obtain ⟨⟨fm,fe⟩,hfd⟩:∃ x,fromD ah=x:=⟨_,rfl⟩;have hfb:fm.body=[]:=by have:=fromD_body ah;rw [hfd] at this;exact this
 have HFR:Hid (∀ wi,Tabs wi → Calls Tryz.prog 46 #[.agg (headC ah)] wi fun e w' => e=.returned (.tuple #[.agg #[.string (str fm.path),.string (str fm.target),.int .u8 (fm.kind.toNat:Int),.int .i64 fm.mode,.int .i64 fm.uid,.int .i64 fm.gid,.int .i64 fm.time,.slice none 0 0],.int .i64 fe])∧Below wi.heap.size wi w'):=
  Lib.hid (fun wi hT => by
   obtain ⟨_,b1,b2⟩:=HBD.out;have:=fromHead_any ah wi (by omega) (by omega) hT
   rw [hfd] at this;unfold memC at this;simp only [hfb,List.length_nil] at this
   exact this)
 have HFD:=Lib.hid hfd;have HFB:=Lib.hid hfb;clear hfd hfb;rw [HFD.out] at hfe0;simp only at hfe0;subst hfe0;rw [HFD.out];have HF:=Lib.hid hf;have HBR:=Lib.hid (And.intro hX hl);have HKL:=Lib.hid hkl;have HSZ:=Lib.hid hsz;clear hl hkl hsz hX hf
 go_enter Tryz.func56,Tryz.ntmps56
 go_upto_region 1 with fail
 clear hW1
 go_wp2_with fail
 refine hkn.mono ?_
 rintro e w1 ⟨rfl,rfl⟩
 go_upto_region 5 with fail
 refine wp_region_any (by kernel_rfl) (add5_region (w:=w) (w1:=W1) K.r K.gs K.mw w.heap.size h (renD h s) oq on oc ah 0 (show 73≤73 from Nat.le_refl 73) rfl rfl (Nat.le_refl _) HB1.out HX1.out (fun wi hb => HSS.out wi (HR.out.below hb)) (fun wi hb => renamed_any h (HR.out.below hb)) (fun wi hb => HAP.out wi (HR.out.below hb)) ?_)
 intro W5 hb5 hx5;have HB5:=Lib.hid hb5;have HX5:=Lib.hid hx5;have HR5:=Lib.hid (HR.out.below hb5);clear hb5 hx5 k2 x3;simp only [Exit.then]
 apply_assumption
 have b9:=HX5.out;have c0:=b9.cell 0;have c1:=b9.cell 1;have c2:=b9.cell 2;have c3:=b9.cell 3;have c4:=b9.cell 4;have c5:=b9.cell 5;have c6:=b9.cell 6;have c7:=b9.cell 7;have c8:=b9.cell 8;simp only [headC,List.getElem?_toArray,List.getElem?_cons_zero,List.getElem?_cons_succ] at c0 c1 c2 c3 c4 c5 c6 c7 c8;clear b9
 go_wp2_with fail
 refine (HFR.out _ (HR5.out.need HND.out).tabs).mono ?_
 rintro e w6 ⟨rfl,hb6⟩;have hb7:=hb6.alloc hb6.size (.cells #[.string (str fm.path),.string (str fm.target),.int .u8 (fm.kind.toNat:Int),.int .i64 fm.mode,.int .i64 fm.uid,.int .i64 fm.gid,.int .i64 fm.time,.slice none 0 0] 26);have hm7:=Blk.new w6 26 #[.string (str fm.path),.string (str fm.target),.int .u8 (fm.kind.toNat:Int),.int .i64 fm.mode,.int .i64 fm.uid,.int .i64 fm.gid,.int .i64 fm.time,.slice none 0 0];have hw6:w.heap.size < w6.heap.size:=Nat.lt_of_lt_of_le HX5.out.lt hb6.size;have HX7:=Lib.hid (HX5.out.below hb7 HX5.out.lt);have HR7:=Lib.hid (HR5.out.below hb7)
 have HM7:=Lib.hid hm7;have HW6:=Lib.hid hw6;clear hb6 hb7 hm7 hw6 c0 c1 c2 c3 c4 c5 c6 c7 c8;obtain ⟨W7,hW7⟩:∃ W7,w6.alloc (.cells #[.string (str fm.path),.string (str fm.target),.int .u8 (fm.kind.toNat:Int),.int .i64 fm.mode,.int .i64 fm.uid,.int .i64 fm.gid,.int .i64 fm.time,.slice none 0 0] 26)=W7:=⟨_,rfl⟩;rw [hW7] at HX7 HR7 HM7;have HW7:=Lib.hid hW7;clear hW7;have x0:=HR7.out.c0;have z7:=HX7.out.cell 7;simp only [headC,List.getElem?_toArray,List.getElem?_cons_zero,List.getElem?_cons_succ,HSZ.out] at z7;have hRd:=HR7.out.idle ((Kept.refl noneB W7).drew);obtain ⟨t,hs⟩:=hRd.src
 have hne:w.heap.size≠K.g∧w6.heap.size≠K.g:=by
  obtain ⟨t',hs'⟩:=HR.out.src;have:=hs'.lt;have:=HW6.out;exact ⟨by omega,by omega⟩
 have HRD:=Lib.hid hRd;have HNE:=Lib.hid hne;have hB:=body_ok W7.drew K.g (a+512) t K.S hs hRd.off k HKL.out X HBR.out.1 HBR.out.2;clear hs hRd hne
 go_upto_region 11 with fail
 rw [HW7.out]
 go_region_held_law (fun w' => w'.cell? ⟨K.r,0,none⟩=some (.pointer (some ⟨K.g,0,none⟩))∧w'.cell? ⟨w.heap.size,7,none⟩=some (.int .i64 (k:Int))) (first | exact ⟨x0,z7⟩ | exact hS8 | exact hS9)
  (first
   | (go_at_call 79
      refine hB.mono ?_
      rintro e w8 ⟨p,t',rfl,h2,h3,h4,h5⟩;have H8:=Lib.hid (HRD.out.moved h5 ⟨t',h4⟩);have HX8:Hid (Blk w8 w.heap.size 41 (headC ah)):=Lib.hid ((HX7.out.drew).keptS h5 HNE.out.1);have HM8:Hid (Blk w8 w6.heap.size 26 #[.string (str fm.path),.string (str fm.target),.int .u8 (fm.kind.toNat:Int),.int .i64 fm.mode,.int .i64 fm.uid,.int .i64 fm.gid,.int .i64 fm.time,.slice none 0 0]):=Lib.hid ((HM7.out.drew).keptS h5 HNE.out.2);have HB8:=Lib.hid (And.intro h2 h3);have hS8:w8.cell? ⟨K.r,0,none⟩=some (.pointer (some ⟨K.g,0,none⟩))∧w8.cell? ⟨w.heap.size,7,none⟩=some (.int .i64 (k:Int)):=⟨H8.out.c0,by have:=HX8.out.cell 7;simp only [headC,List.getElem?_toArray,List.getElem?_cons_zero,List.getElem?_cons_succ,HSZ.out] at this;exact this⟩
      have hS9:(w8.setCell ⟨w6.heap.size,7,none⟩ (.slice p k k)).cell? ⟨K.r,0,none⟩=some (.pointer (some ⟨K.g,0,none⟩))∧(w8.setCell ⟨w6.heap.size,7,none⟩ (.slice p k k)).cell? ⟨w.heap.size,7,none⟩=some (.int .i64 (k:Int)):=
       ⟨(H8.out.blk.other (b':=w6.heap.size) (i:=7) (by have:=HR.out.blk.lt;have:=HW6.out;omega) _).cell 0,by have:=(HX8.out.other (b':=w6.heap.size) (i:=7) (by have:=HW6.out;omega) (.slice p k k)).cell 7;simp only [headC,List.getElem?_toArray,List.getElem?_cons_zero,List.getElem?_cons_succ,HSZ.out] at this;exact this⟩
      have m7:=HM8.out.cell 7;have fm7:=HM8.out.frozen 7;simp only [List.getElem?_toArray,List.getElem?_cons_zero,List.getElem?_cons_succ] at m7
      clear h2 h3 h4 h5))
 clear hB hS8 x0 z7
 have hm9:Blk (w8.setCell ⟨w6.heap.size,7,none⟩ (.slice p k k)) w6.heap.size 26 (MP.mk { fm with body:=X } p k).cs:=by
  have h9:=HM8.out.set 7 (.slice p k k) (by decide:7 < 8)
  have e:(MP.mk { fm with body:=X } p k).cs=#[.string (str fm.path),.string (str fm.target),.int .u8 (fm.kind.toNat:Int),.int .i64 fm.mode,.int .i64 fm.uid,.int .i64 fm.gid,.int .i64 fm.time,.slice p X.length k]:=rfl
  rw [e,HXL.out];exact h9
 have hk9:Kept (fun k => w.heap.size≤k) w8 (w8.setCell ⟨w6.heap.size,7,none⟩ (.slice p k k)):=(Kept.refl _ w8).setCell (a:=⟨w6.heap.size,7,none⟩) (.inr (Nat.le_of_lt HW6.out)) _
 have hR9:=Rd.foreign HR.out H8.out hk9
 have hb9:BAt (w8.setCell ⟨w6.heap.size,7,none⟩ (.slice p k k)) p k X:=HB8.out.1.kept ((Kept.refl (oneB w6.heap.size) w8).setCell (a:=⟨w6.heap.size,7,none⟩) (.inr rfl) _) (fun _ x hx e => by
  have h1:=HB8.out.2 x hx;have h2:=HM7.out.lt;have h3:x.block=w6.heap.size:=e;have h4:W7.drew.heap.size=W7.heap.size:=rfl
  omega)
 obtain ⟨W9,hW9⟩:∃ W9,w8.setCell ⟨w6.heap.size,7,none⟩ (.slice p k k)=W9:=⟨_,rfl⟩;rw [hW9] at hm9 hR9 hb9;have HW9:=Lib.hid hW9;have HM9:=Lib.hid hm9;have HR9:=Lib.hid hR9;have HB9:=Lib.hid hb9;clear hm9 hR9 hb9 hk9 hS9 m7 fm7 hW9
 go_upto_region 14 with fail
 rw [HW9.out];refine wp_region_any (by kernel_rfl) (add14_region (w1:=W9) w0.heap.size K.r w6.heap.size (.slice vp xs.length vc) xs (MP.mk { fm with body:=X } p k) (readerC K (.slice vp xs.length vc)) (show 73≤73 from Nat.le_refl 73) rfl rfl HM9.out HR9.out.blk rfl (fun e => (HR9.out.neV _ e).1 rfl) HR9.out.row HR9.out.bel.size (by have:=HXN.out;have:=HF.out;omega) ?_)
 intro γ wB hA;obtain ⟨wA,g1,g2,g3,g4⟩:=hA;have hRA:=HR9.out.below g1;have hmap:=hRA.map_added (v':=γ.va) g3;have hkB:Kept (fun k => (Value.slice vp xs.length vc).ownBlock=some k) wA wB:=(Kept.refl _ wA).grown g3 (fun k hk => .inr hk)
 have hbC:=((hRA.blk.keptS hkB (fun e => (hRA.neV _ e).1 rfl)).set 3 γ.va (by decide:3 < 4)).cell 2
 have c2:(wB.setCell ⟨K.r,3,none⟩ γ.va).cell? ⟨K.r,2,none⟩=some (.map (some K.mw)):=hbC;obtain ⟨w2,hrun,hm2,hk2,hs2⟩:=hmap.cleared Tryz.underlying72 0;have hy:BodyAt wA (MP.mk { fm with body:=X } p k):=⟨by show BAt wA p X.length X;rw [HXL.out];exact HB9.out.below g1,by show X.length≤k;rw [HXL.out];exact Nat.le_refl _,by show k≤maxLen;have:=HKL.out;unfold maxLen;omega⟩
 have F:=Lib.hid (hRA.added g2 g3 g4 hy (fun _ z hz => HRD.out.fresh (HB8.out.2 z hz)) HF.out hm2 hk2)
 clear g1 g2 g3 g4 hRA hmap hkB hbC hm2 hk2 hs2 hy;simp only [Exit.then]
 apply_assumption
 go_wp2
 go_ret
 exact ⟨rfl,mb,γ.va,_,none,0,0,F.out⟩
end
end Go.Proofs.YtnpkcneojilmkaaGreatDoor.Mem
end
section
namespace Go.Proofs.YtnpkcneojilmkaaGreatDoor.Mem
open Go.ChangeShapes Go.WideShapes Go.ChangeAt Go.RowKit Base Byt Txt Bk Mk Block Hp Head Attr Rec Path Go.Lib Go.Shelf
set_option linter.unusedVariables false
set_option maxRecDepth 100000
section
variable {w0 w w':World} {K:RK} {a:Nat} {s:RS} {mb:Option Nat} {v:Value} {xs:List MP} {q:Option Addr} {n c:Nat}
theorem known_is (k:UInt8):knownD k=true ↔ ¬ (k≠48∧k≠49∧k≠50∧k≠53):=by
 unfold knownD;simp only [Bool.or_eq_true,beq_iff_eq];constructor
 ·rintro (((h | h) | h) | h) ⟨h1,h2,h3,h4⟩
  ·exact h1 h
  ·exact h2 h
  ·exact h3 h
  ·exact h4 h
 ·intro h
  by_cases h1:k=48
  ·exact .inl (.inl (.inl h1))
  ·by_cases h2:k=49
   ·exact .inl (.inl (.inr h2))
   ·by_cases h3:k=50
    ·exact .inl (.inr h3)
    ·by_cases h4:k=53
     ·exact .inr h4
     ·exact absurd ⟨h1,h2,h3,h4⟩ h
theorem add_any (hr:Rd w0 w K (a+512) s mb v xs q n c) (h:HeadV) (hN:Need w0) (h0:0≤h.size) (h1:h.name.length≤1048576) (h2:h.link.length≤1048576) :
 Calls Tryz.prog 56 #[.pointer (some ⟨K.r,0,none⟩),.agg (headC h)] w (StepPost w0 K a (memD (K.S.bs.drop a) h s)):=by
 obtain ⟨t,hs⟩:=hr.src;have hlen:=hs.len;have hle:=hs.le;have hLL:(K.S.bs.drop a).length=K.S.n - a:=by rw [List.length_drop,hlen]
 unfold memD
 by_cases hf:4096≤s.out.length
 ·rw [if_pos hf]
  exact (add_full hr h (Nat.le_antisymm hr.many hf)).mono fun e w' h => h
 ·rw [if_neg hf]
  have hf':s.out.length < 4096:=by omega
  by_cases hk:h.kind≠48∧h.kind≠49∧h.kind≠50∧h.kind≠53
  ·rw [if_pos hk]
   exact (add_odd hr h hf' (by
    cases hx:knownD h.kind with
    | false => rfl
    | true => exact absurd hk ((known_is _).1 hx))).mono fun e w' h => h
  ·rw [if_neg hk,memOf_is]
   have hk':=(known_is _).2 hk
   by_cases ha:(applyD (lastD s.glob) s.own (renD h s)).2≠0
   ·rw [if_pos ha]
    exact (add_noapply hr h hf' hk' ha).mono fun e w' h => h
   ·rw [if_neg ha]
    have ha':applyD (lastD s.glob) s.own (renD h s)=((applyD (lastD s.glob) s.own (renD h s)).1,0):=Prod.ext rfl (Classical.byContradiction ha);have hb:=apply_bd h hr h0 h1 h2;obtain ⟨ah,hah⟩:∃ x,(applyD (lastD s.glob) s.own (renD h s)).1=x:=⟨_,rfl⟩;rw [hah] at ha' hb ⊢
    by_cases hfr:(fromD ah).2≠0
    ·rw [if_pos hfr]
     exact (add_nofrom hr h hf' hk' hN h0 h1 h2 ah ha' hfr).mono fun e w' h => h
    ·rw [if_neg hfr]
     have hfr':(fromD ah).2=0:=Classical.byContradiction hfr;have hsz:=fromD_size hfr';obtain ⟨k,hk0⟩:∃ k:Nat,ah.size=(k:Int):=⟨ah.size.toNat,by omega⟩
     have hkl:k≤1048576:=by omega
     have hbk:blocksOf k=padN k:=rfl;simp only;unfold bodyN;rw [hk0,Int.toNat_natCast,hLL]
     by_cases h3:K.S.n < a+512+padN k
     ·rw [if_pos (by rw [hbk];omega)]
      exact (add_short hr h hf' hk' hN h0 h1 h2 ah ha' hfr' k hk0 hkl h3).mono fun e w' h => h
     ·rw [if_neg (by rw [hbk];omega)]
      simp only;obtain ⟨X,hX⟩:∃ X,(K.S.bs.drop (a+512)).take k=X:=⟨_,rfl⟩;rw [List.drop_drop,hX,hbk];refine (add_ok hr h hf' hk' hN h0 h1 h2 ah ha' hfr' k hk0 hkl X hX (by omega)).mono ?_
      rintro e w' ⟨rfl,hb⟩;rw [Nat.add_assoc] at hb;exact ⟨rfl,hb⟩
theorem blk_ok (w:World) (g a t:Nat) (S:Sv) (h:Block.Src w g S a t) (ho:S.off g) (X:List UInt8) (hX:(S.bs.drop a).take 512=X) (hl:a+512≤S.n) :
 Calls Tryz.prog 51 #[.pointer (some ⟨g,0,none⟩)] w fun e w' => ∃ p c t',e=.returned (.tuple #[.slice p 512 c,.int .i64 0])∧512≤c∧c≤maxLen∧BAt w' p 512 X∧Block.Src w' g S (a+512) t'∧Kept (oneB g) w w':=by
 refine (srcBlock_any w g a t S h ho).mono ?_
 rintro e w' (⟨h1,_⟩ | ⟨_,h2⟩)
 ·omega
 ·rcases h2 with ⟨_,v,rfl,h3,⟨t',h4⟩,h5⟩ | ⟨h1,_⟩
  ·obtain ⟨p,c,rfl,h6,h7,h8,_,_⟩:=h3.slice
   rw [hX] at h8;exact ⟨p,c,t',rfl,h6,h7,h8,h4,h5⟩
  ·omega
theorem blk_no (w:World) (g a t:Nat) (S:Sv) (h:Block.Src w g S a t) (ho:S.off g) (hl:S.n < a+512) :
 Calls Tryz.prog 51 #[.pointer (some ⟨g,0,none⟩)] w fun e w' => ∃ E a' t',(E=14 ∨ E=2)∧e=.returned (.tuple #[.slice none 0 0,.int .i64 E])∧Block.Src w' g S a' t'∧Kept (oneB g) w w':=by
 refine (srcBlock_any w g a t S h ho).mono ?_
 rintro e w' (⟨_,rfl,⟨t',h1⟩,h2⟩ | ⟨_,h2⟩)
 ·exact ⟨14,_,t',.inl rfl,rfl,h1,h2⟩
 ·rcases h2 with ⟨h3,_⟩ | ⟨_,rfl,⟨t',h4⟩,h5⟩
  ·omega
  ·exact ⟨2,_,t',.inr rfl,rfl,h4,h5⟩
def NextPost (w0:World) (K:RK) (a:Nat) (s:RS) (mb:Option Nat) (v:Value) (xs:List MP) (q:Option Addr) (n c:Nat) (st:Step) (e:Ending) (w':World):Prop:=
 match st with
 | .fault er => (∃ b,e=.returned (.tuple #[.bool b,.int .i64 er]))∧Below w0.heap.size w0 w'
 | .done => e=.returned (.tuple #[.bool false,.int .i64 0]) ∧ ∃ a',Rd w0 w' K a' s mb v xs q n c
 | .next k s' => e=.returned (.tuple #[.bool true,.int .i64 0])∧Left w0 K (a+k) s' w'
theorem next_short (hr:Rd w0 w K a s mb v xs q n c) (hl:K.S.n < a+512) :
 Calls Tryz.prog 34 #[.pointer (some ⟨K.r,0,none⟩)] w fun e w' => e=.returned (.tuple #[.bool false,.int .i64 2])∧Below w0.heap.size w0 w':=by
 obtain ⟨t,hs⟩:=hr.src;have HR:=Lib.hid hr;have x0:=hr.c0;have hB:=blk_no w K.g a t K.S hs hr.off hl;clear hr hs hl
 go_enter Tryz.func34,Tryz.ntmps34
 go_wp2_with fail
 refine hB.mono ?_
 rintro e w1 ⟨E,a',t',hE,rfl,h4,h5⟩;have F:=Lib.hid (HR.out.moved h5 ⟨t',h4⟩);have hE0:(E != 0)=true:=by rcases hE with rfl | rfl<;>rfl
 clear h4 h5 hB x0 hE
 go_wp2
 go_ret2
 exact ⟨rfl,F.out.bel⟩
theorem next_end (hr:Rd w0 w K a s mb v xs q n c) (X:List UInt8) (hX:(K.S.bs.drop a).take 512=X) (hl:a+512≤K.S.n) (hz:zeroB X=true) :
 Calls Tryz.prog 34 #[.pointer (some ⟨K.r,0,none⟩)] w fun e w' => e=.returned (.tuple #[.bool false,.int .i64 (endE (K.S.bs.drop (a+512)) s)]) ∧ ∃ a',Rd w0 w' K a' s mb v xs q n c:=by
 obtain ⟨t,hs⟩:=hr.src;have hXl:X.length=512:=by rw [← hX,List.length_take,List.length_drop,hs.len];omega
 have HR:=Lib.hid hr;have x0:=hr.c0;have hB:=blk_ok w K.g a t K.S hs hr.off X hX hl;have HXL:=Lib.hid hXl;have HZ:=Lib.hid hz;obtain ⟨EE,hEE⟩:∃ EE,endE (K.S.bs.drop (a+512)) s=EE:=⟨_,rfl⟩;rw [hEE];have HEE:=Lib.hid hEE;clear hr hs hl hX hXl hz hEE
 go_enter Tryz.func34,Tryz.ntmps34
 go_wp2_with fail
 refine hB.mono ?_
 rintro e w1 ⟨p,cc,t',rfl,_,_,h3,h4,h5⟩;have F:=Lib.hid (HR.out.moved h5 ⟨t',h4⟩);have HB1:=Lib.hid h3;clear h3 h4 h5 hB x0
 go_wp2_with fail
 refine (zero512_any p cc X w1 HXL.out HB1.out).mono ?_
 rw [HZ.out];rintro e w2 ⟨rfl,rfl⟩
 go_wp2_with fail
 refine (show Calls _ _ _ _ (EndPost w0 K (a+512) s mb v xs q n c (endE (K.S.bs.drop (a+512)) s)) from end_any F.out).mono ?_
 rw [HEE.out];rintro e w3 ⟨rfl,a',hR⟩;have G:=Lib.hid hR;clear hR
 go_wp2
 go_ret2
 exact ⟨rfl,a',G.out⟩
theorem next_nohead (hr:Rd w0 w K a s mb v xs q n c) (X:List UInt8) (hX:(K.S.bs.drop a).take 512=X) (hl:a+512≤K.S.n) (hz:zeroB X=false) (he:(headR X).2≠0) :
 Calls Tryz.prog 34 #[.pointer (some ⟨K.r,0,none⟩)] w fun e w' => e=.returned (.tuple #[.bool false,.int .i64 (headR X).2])∧Below w0.heap.size w0 w':=by
 obtain ⟨t,hs⟩:=hr.src;have hXl:X.length=512:=by rw [← hX,List.length_take,List.length_drop,hs.len];omega
 have HR:=Lib.hid hr;have x0:=hr.c0;have hB:=blk_ok w K.g a t K.S hs hr.off X hX hl;have HXL:=Lib.hid hXl;have HZ:=Lib.hid hz;obtain ⟨⟨h,er⟩,hh⟩:∃ x,headR X=x:=⟨_,rfl⟩;rw [hh] at he ⊢;simp only at he ⊢;have hE0:(er != 0)=true:=by simpa using he
 have HH:=Lib.hid hh;clear hr hs hl hX hXl hz he hh
 go_enter Tryz.func34,Tryz.ntmps34
 go_wp2_with fail
 refine hB.mono ?_
 rintro e w1 ⟨p,cc,t',rfl,hc1,hc2,h3,h4,h5⟩;have F:=Lib.hid (HR.out.moved h5 ⟨t',h4⟩);have HB1:=Lib.hid h3;have HC1:=Lib.hid (And.intro hc1 hc2);clear h3 h4 h5 hB x0 hc1 hc2
 go_wp2_with fail
 refine (zero512_any p cc X w1 HXL.out HB1.out).mono ?_
 rw [HZ.out];rintro e w2 ⟨rfl,rfl⟩
 go_wp2_with fail
 refine (parseH_any p 512 cc X w1 HXL.out HC1.out.1 HC1.out.2 HB1.out).mono ?_
 rw [HH.out];unfold headA headC;simp only;rintro e w3 ⟨rfl,hk3⟩;have G:=Lib.hid ((F.out.idle hk3).bel.alloc (F.out.idle hk3).bel.size (.cells #[.string (str h.name),.string (str h.link),.int .u8 (h.kind.toNat:Int),.int .i64 h.mode,.int .i64 h.uid,.int .i64 h.gid,.int .i64 h.time,.int .i64 h.size,.bool h.gnu] 41));clear hk3
 go_wp2
 go_ret2
 exact ⟨rfl,G.out⟩
end
end Go.Proofs.YtnpkcneojilmkaaGreatDoor.Mem
end
