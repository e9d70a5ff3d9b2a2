/- Texts of this seat, merged: what the proof reaches. -/
import Derived.Test.YtdjedimjhogdoaaGreatDoorMemberReadsX23
import Derived.Test.YtdjedimjhogdoaaGreatDoorMemberReadsX16
import Derived.Test.YtdjedimjhogdoaaGreatDoorMemberReadsX21
import Derived.Test.YtdjedimjhogdoaaGreatDoorMemberReadsX13
import Derived.Test.YtdjedimjhogdoaaGreatDoorMemberReadsX20
section
namespace Go.Proofs.YtdjedimjhogdoaaGreatDoor.Head
open Go.ChangeShapes Go.WideShapes Go.ChangeAt Go.RowKit Base Byt Txt Hp Go.Proofs.YtdjedimjhogdoaaGreatDoor.Mp Fp Go.Proofs.YtdjedimjhogdoaaGreatDoor.Field Go.Lib
set_option linter.unusedVariables false
set_option maxRecDepth 100000
theorem sub_bat {w:World} {b o n:Nat} {bs:List UInt8} (h:BAt w (some ⟨b,o,none⟩) n bs) (l k:Nat) (hlk:l+k≤n):BAt w (some ⟨b,o+l,none⟩) k ((bs.drop l).take k):=fun h0 => by
 obtain ⟨b',o',he,hc⟩:=h (by omega)
 cases he
 refine ⟨b,o+l,rfl,fun i hi => ?_⟩
 rw [Nat.add_assoc,hc (l+i) (by omega)]
 simp [List.getD,hi]
theorem index_at (b o c i:Nat) (hi:i < 512) (w:World):(Instr.indexAt 22 (.slice (some ⟨b,o,none⟩) 512 c) (.int .i64 (i:Int))).run Tryz.prog w=.ok (.pointer (some ⟨b,o+i,none⟩)) w:=by
 have fl:=Tryz.underlying22;have f5:=Tryz.sizeOf5;have h1:(i:Int) < 512:=by omega
 go_simp
theorem load_at (w:World) (a:Addr) (k:Int) (h:w.cell? a=some (.int .u8 k)):(Instr.loadAt 5 (.pointer (some a))).run Tryz.prog w=.ok (.int .u8 k) w:=by
 go_simp
def ordF:Nat → Nat
 | 0 => 1 | 1 => 2 | 2 => 3 | 3 => 5 | _ => 4
def arrC (bs:List UInt8) (k:Nat):Array Value:=#[.int .i64 (if 0 < k then valB bs 1 else 0),.int .i64 (if 1 < k then valB bs 2 else 0),.int .i64 (if 2 < k then valB bs 3 else 0),.int .i64 (if 3 < k then valB bs 5 else 0),.int .i64 (if 4 < k then valB bs 4 else 0)]
theorem arrC_get (bs:List UInt8) {k:Nat} (hk:k < 5):(arrC bs k)[k]? = some (.int .i64 0):=by
 rcases (show k=0 ∨ k=1 ∨ k=2 ∨ k=3 ∨ k=4 by omega) with rfl | rfl | rfl | rfl | rfl<;>rfl
theorem arrC_set (bs:List UInt8) {k:Nat} (hk:k < 5):(arrC bs k).setIfInBounds k (.int .i64 (valB bs (ordF k)))=arrC bs (k+1):=by
 rcases (show k=0 ∨ k=1 ∨ k=2 ∨ k=3 ∨ k=4 by omega) with rfl | rfl | rfl | rfl | rfl<;>rfl
def plcC (b o c:Nat):Array Value:=#[.slice (some ⟨b,o+100,none⟩) 8 (c - 100),.slice (some ⟨b,o+108,none⟩) 8 (c - 108),.slice (some ⟨b,o+116,none⟩) 8 (c - 116),.slice (some ⟨b,o+136,none⟩) 12 (c - 136),.slice (some ⟨b,o+124,none⟩) 12 (c - 124)]
theorem plcC_get (b o c:Nat) {k:Nat} (hk:k < 5):(plcC b o c)[k]? = some (.slice (some ⟨b,o+atF (ordF k),none⟩) (wideF (ordF k)) (c - atF (ordF k))):=by
 rcases (show k=0 ∨ k=1 ∨ k=2 ∨ k=3 ∨ k=4 by omega) with rfl | rfl | rfl | rfl | rfl<;>rfl
theorem ordF_in {k:Nat} (hk:k < 5):1≤ordF k∧ordF k≤5∧atF (ordF k)+wideF (ordF k)≤512:=by
 rcases (show k=0 ∨ k=1 ∨ k=2 ∨ k=3 ∨ k=4 by omega) with rfl | rfl | rfl | rfl | rfl<;>decide
theorem ordF_all {P:Nat → Prop} (h:∀ k,k < 5 → P (ordF k)):∀ i,1≤i → i≤5 → P i:=fun i h1 h2 => by
 rcases (show i=1 ∨ i=2 ∨ i=3 ∨ i=4 ∨ i=5 by omega) with rfl | rfl | rfl | rfl | rfl
 ·exact h 0 (by omega)
 ·exact h 1 (by omega)
 ·exact h 2 (by omega)
 ·exact h 4 (by omega)
 ·exact h 3 (by omega)
theorem cell_set {w:World} {g:Nat} {cs:Array Value} {e:TypeId} (h:w.heap[g]? = some (.cells cs e (0,0))) (i:Nat) (v:Value):(w.setCell ⟨g,i,none⟩ v).heap[g]? = some (.cells (cs.setIfInBounds i v) e (0,0)):=by
 rw [setCell_eq_setRow w g i _ _ _ _ h];exact setRow_heap w g _ _ _ _ h
theorem kept5 {w0 w:World} {g:Nat} (h:Kept (oneB g) w0 w) (v3 v4 v5 v6 v7:Value) :
 Kept (oneB g) w0 (((((w.setCell ⟨g,3,none⟩ v3).setCell ⟨g,4,none⟩ v4).setCell ⟨g,5,none⟩ v5).setCell ⟨g,6,none⟩ v6).setCell ⟨g,7,none⟩ v7):=by
 have st:∀ {w:World} (i:Nat) (v:Value),Kept (oneB g) w0 w → Kept (oneB g) w0 (w.setCell ⟨g,i,none⟩ v):=fun i v h => h.setCell (a:=⟨g,i,none⟩) (Or.inr (show oneB g g from rfl)) v
 exact st 7 v7 (st 6 v6 (st 5 v5 (st 4 v4 (st 3 v3 h))))
set_option maxHeartbeats 8000000 in
theorem rhead_any (p:Option Addr) (n c:Nat) (bs:List UInt8) (w:World) (hn:bs.length=n) (hc:n≤c) (hm:c≤140737488351232) (h:BAt w p n bs) :
 Calls Tryz.prog 33 #[.slice p n c] w fun e w' => e=.returned (headA (headR bs))∧Kept noneB w w':=by
 have HN:=Lib.hid hn;have H:=Lib.hid h;have fl:=Tryz.underlying22;clear h hn
 by_cases h512:n=512
 ·subst h512
  obtain ⟨b,o,rfl,hcell⟩:=H.out (by omega)
  have hc156:=hcell 156 (by omega)
  have hbw:b < w.heap.size:=World.block_lt_of_cell? w _ (hcell 0 (by omega))
  obtain ⟨g,hg⟩:∃ g,g=w.heap.size:=⟨_,rfl⟩;obtain ⟨w0,hw0⟩:∃ w0,w0=w.alloc (.cells #[.string ⟨#[]⟩,.string ⟨#[]⟩,.int .u8 0,.int .i64 0,.int .i64 0,.int .i64 0,.int .i64 0,.int .i64 0,.bool false] 57):=⟨_,rfl⟩;have HK0:Hid (Kept noneB w w0):=Lib.hid (by rw [hw0];exact (Kept.refl noneB w).alloc _)
  have HG0:Hid (w0.heap[g]? = some (.cells zeroCs 57 (0,0))):=Lib.hid (by rw [hw0,hg];exact heap_alloc_new w _)
  have HGL:Hid (g < w0.heap.size):=Lib.hid (Array.getElem?_eq_some_iff.1 HG0.out).1;have HG:Hid (w.heap.size≤g):=Lib.hid (by omega)
  have HB0:Hid (BAt w0 (some ⟨b,o,none⟩) 512 bs):=Lib.hid (H.out.kept HK0.out (fun _ _ _ => id))
  have HA3:Hid (b < w0.heap.size):=Lib.hid (by have h1:=HK0.out.size;omega)
  have HC156:Hid (w0.cell? ⟨b,o+156,none⟩=some (.int .u8 ((bs.getD 156 0).toNat:Int))):=Lib.hid (by
   obtain ⟨b',o',he,hcc⟩:=HB0.out (by omega)
   cases he
   exact hcc 156 (by omega))
  clear hcell hc156
  go_enter Tryz.func33,Tryz.ntmps33
  go_wp2_with fail
  rw [← hw0,← hg];clear hw0 hg;refine (rfield_any _ 8 _ (fieldB bs 6) w0 (fieldB_length HN.out (by omega)) (by omega) (by unfold maxLen;omega) (sub_bat HB0.out 148 8 (by omega))).mono ?_
  rintro e w' ⟨rfl,rfl⟩;obtain ⟨hr2,hr1⟩:=refParse_is (fieldB bs 6);rw [hr2]
  cases hps:parseF (fieldB bs 6) with
  | none =>
    have E:Hid (headR bs=(zeroH,3)):=Lib.hid (headR_sum HN.out (by rw [hps];simp))
    generalize (refParse (fieldB bs 6)).1=y;rw [oI_none];have c0:=cellsAt HG0.out;have f0:=cellsFrozen HG0.out;unfold zeroCs at c0;clear hps hr1 hr2
    go_wp2
    refine bodyPost_ret (ret_head rfl _ _ g _ rfl rfl ⟨#[]⟩ ⟨#[]⟩ 0 0 0 0 0 0 false (stored9 HG0.out _ _ _ _ _ _ _ _ _)) rfl ?_
    rw [E.out]
    exact ⟨rfl,HK0.out.then (kept9 (Kept.refl (oneB g) _) _ _ _ _ _ _ _ _ _) (fun i hi => Or.inl (by
     have h1:i=g:=hi;rw [h1]
     exact HG.out))⟩
  | some sm =>
    rw [hr1 (by rw [hps];rfl),hps,vI_some,oI_some]
    have hsle:=sumTo_le bs 512;obtain ⟨X,hX⟩:∃ X:Nat,X=sumTo bs 512:=⟨_,rfl⟩;rw [← hX] at hsle;have HX:=Lib.hid hX;have HPS0:=Lib.hid hps;clear hX hps hr1 hr2
    by_cases hsX:sm=(X:Int)
    ·subst hsX
     have HPS:Hid (parseF (fieldB bs 6)=some (sumTo bs 512:Int)):=Lib.hid (by rw [HPS0.out,HX.out])
     go_wp2_with fail
     refine (rsum_any (some ⟨b,o,none⟩) 512 c bs w0 (by omega) HB0.out).mono ?_
     rintro e w' ⟨rfl,rfl⟩;rw [← HX.out]
     have cs9:(convert 22 9 (.slice (some ⟨b,o+257,none⟩) 8 (c - 257))).run Tryz.prog w0=.ok (.string (str (fieldB bs 9))) w0:=
      conv_at (P:=Tryz.prog) (sub_bat HB0.out 257 8 (by omega)) (fieldB_length HN.out (i:=9) (by omega)) 22 5 9 Tryz.underlying22 Tryz.underlying5 Tryz.underlying9 (c - 257)
     by_cases hu:fieldB bs 9=ustarB
     ·have HM9:Hid (fieldB bs 9=ustarB ∨ fieldB bs 9=gnuB):=Lib.hid (Or.inl hu)
      have HMF:Hid (gnuOf bs=false):=Lib.hid (by rw [gnuOf,hu];decide)
      rw [hu,ustar_str] at cs9;clear hu;obtain ⟨g2,hg2⟩:∃ g2,g2=w0.heap.size:=⟨_,rfl⟩;have HG2:=Lib.hid hg2;clear hg2;obtain ⟨x,hx⟩:∃ x:Int,x=((bs.getD 156 0).toNat:Int):=⟨_,rfl⟩;have HKD:=Lib.hid hx;clear hx
      go_wp2_with fail
      refine wp_region_any (by kernel_rfl) (ref_region (w3:=w0) g2 (.slice (some ⟨b,o,none⟩) 512 c) (.slice (some ⟨b,o,none⟩) 100 c) (.slice (some ⟨b,o+157,none⟩) 100 (c - 157)) ⟨b,o+156,none⟩ ⟨#[117,115,116,97,114,0,48,48]⟩ (str (untilB (fieldB bs 0))) (str (untilB (fieldB bs 8))) false x (show 118≤118 from Nat.le_refl 118) rfl rfl HG2.out (fun w => ?ix) (fun w hk => ?ld) (fun w => slice_to b o c 100 (by omega) hc w) (fun w => slice_at b o c 157 257 (by omega) (by omega) hc (by omega) w) (fun w hk => ?u1) (fun w hk => ?u2) (by rw [← ustar_str,str_toList];decide) ?_)
      case ix => exact index_at b o c 156 (by omega) w
      case ld =>
       have q:w.cell? ⟨b,o+156,none⟩=some (.int .u8 x):=by
        obtain ⟨b',o',he,hcc⟩:=(HB0.out.kept hk (fun _ _ _ => id)) (by omega)
        cases he
        rw [HKD.out];exact hcc 156 (by omega)
       exact load_at w _ _ q
      case u1 =>
       exact until_any _ 100 c (fieldB bs 0) w (fieldB_length HN.out (by omega)) (by omega) hm ((HB0.out.kept hk (fun _ _ _ => id)).take (k:=100) (by omega))
      case u2 =>
       exact until_any _ 100 (c - 157) (fieldB bs 8) w (fieldB_length HN.out (by omega)) (by omega) (by omega) (sub_bat (HB0.out.kept hk (fun _ _ _ => id)) 157 100 (by omega))
      intro w4 hw4 hk4;simp only [Exit.then]
      apply_assumption
      by_cases hK0:x=0
      ·have hkz:(x == 0)=true:=by rw [hK0];rfl
       have HKB:Hid (((kindB bs).toNat:Int)=48):=Lib.hid (by
        rw [kindB,fieldB_get bs 7 0 (by decide),show atF 7+0=156 from rfl,if_pos (show bs.getD 156 0=0 from UInt8.toNat.inj (show (bs.getD 156 0).toNat=0 by have:=HKD.out;omega))]
        rfl)
       clear hK0;have c4:=cellsAt hw4;have f4:=cellsFrozen hw4;obtain ⟨w5,hw5⟩:∃ w5,w5=w4.setCell ⟨g2,2,none⟩ (.int .u8 48):=⟨_,rfl⟩;have HW5:Hid (w5.heap[g2]? = some (.cells #[.string (str (untilB (fieldB bs 0))),.string (str (untilB (fieldB bs 8))),.int .u8 48,.int .i64 0,.int .i64 0,.int .i64 0,.int .i64 0,.int .i64 0,.bool false] 57 (0,0))):=Lib.hid (by rw [hw5];exact cell_set hw4 2 _)
       have HK5:Hid (Kept noneB w0 w5):=Lib.hid (by rw [hw5];exact hk4.setCell (Or.inl (by rw [HG2.out];exact Nat.le_refl _)) _)
       clear hk4
       go_wp2_with fail
       rw [← hw5];clear c4 f4 hw4 hw5 hkz;have f10:BAt w5 (some ⟨b,o+345,none⟩) 155 (fieldB bs 10):=sub_bat (HB0.out.kept HK5.out (fun _ _ _ => id)) 345 155 (by omega)
       refine (until_any _ 155 (c - 345) (fieldB bs 10) w5 (fieldB_length HN.out (by omega)) (by omega) (by omega) f10).mono ?_
       rintro e w' ⟨rfl,rfl⟩;have c5:=cellsAt HW5.out;have f5:=cellsFrozen HW5.out;clear f10
       by_cases hpe:untilB (fieldB bs 10)=[]
       ·obtain ⟨nm,hnm⟩:∃ nm,nm=str (untilB (fieldB bs 0)):=⟨_,rfl⟩
        have HNM:Hid (nm=str (nameF (untilB (fieldB bs 10)) (untilB (fieldB bs 0)) false)):=Lib.hid (by rw [hnm,nameF,if_pos (Or.inr hpe)])
        have HV:=HW5;have HKV:=HK5;rw [← hnm] at HV;clear hnm;rw [hpe,show str []=⟨#[]⟩ from rfl]
        go_wp2_with fail
        clear c5 f5;obtain ⟨g3,hg3⟩:∃ g3,g3=w5.heap.size:=⟨_,rfl⟩;obtain ⟨w6,hw6⟩:∃ w6,w6=w5.alloc (.cells #[.int .i64 0,.int .i64 0,.int .i64 0,.int .i64 0,.int .i64 0] 107):=⟨_,rfl⟩;have HA6:Hid (w6.heap[g3]? = some (.cells (arrC bs 0) 107 (0,0))):=Lib.hid (by rw [hw6,hg3];exact heap_alloc_new w5 _)
        have HK6:Hid (Kept noneB w0 w6):=Lib.hid (by rw [hw6];exact HKV.out.alloc _)
        have H26:=Lib.hid (((Kept.refl noneB w5).alloc (.cells #[.int .i64 0,.int .i64 0,.int .i64 0,.int .i64 0,.int .i64 0] 107)).some_ HV.out id);rw [← hw6] at H26
        have HD3:Hid (g≠g3∧g2≠g3∧g3 < w6.heap.size∧g≠g2∧w0.heap.size≤g3):=Lib.hid (by
         have h1:=HKV.out.size;have h2:=HGL.out;have h3:=(Array.getElem?_eq_some_iff.1 HV.out).1;have h4:=(Array.getElem?_eq_some_iff.1 HA6.out).1;have h5:=HG2.out
         omega)
        rw [← hw6,← hg3];clear hw6 hg3;obtain ⟨g4,hg4⟩:∃ g4,g4=w6.heap.size:=⟨_,rfl⟩;have HG4:=Lib.hid hg4;clear hg4;refine wp_region_any (by kernel_rfl) (ref_region2 (w3:=w6) g4 (.slice (some ⟨b,o,none⟩) 512 c) _ _ _ _ _ (show 118≤118 from Nat.le_refl 118) rfl HG4.out (fun w => slice_at b o c 100 108 (by omega) (by omega) hc (by omega) w) (fun w => slice_at b o c 108 116 (by omega) (by omega) hc (by omega) w) (fun w => slice_at b o c 116 124 (by omega) (by omega) hc (by omega) w) (fun w => slice_at b o c 136 148 (by omega) (by omega) hc (by omega) w) (fun w => slice_at b o c 124 136 (by omega) (by omega) hc (by omega) w) (fun w => build5 w _ _ _ _ _ _ _ _ _ _ _ _ _ _ _) ?_)
        intro w7 hw7 hk7;have HP7:Hid (w7.heap[g4]? = some (.cells (plcC b o c) 22 (0,0))):=Lib.hid hw7;have HK7:=Lib.hid (HK6.out.trans hk7);have HA7:=Lib.hid (hk7.some_ HA6.out id);have H27:=Lib.hid (hk7.some_ H26.out id);have HG7:=Lib.hid (HK7.out.some_ HG0.out id);have HD4:Hid (g4≠g3):=Lib.hid (by have h1:=HG4.out;have h2:=HD3.out.2.2.1;omega)
        clear hw7 hk7;simp only [Exit.then]
        apply_assumption
        go_wp2_with fail
        go_loopw [11] (fun i wr => ∃ k:Nat,k≤5∧i=.int .i64 k∧Hid (Kept (oneB g3) w7 wr)∧Hid (wr.heap[g3]? = some (.cells (arrC bs k) 107 (0,0)))∧Hid (∀ j,j < k → okI (parseF (fieldB bs (ordF j)))=true)) (fun i _ => 5 - (RowKit.intOf i).toNat)
        case atStart => exact ⟨0,by omega,rfl,Lib.hid (Kept.refl _ _),HA7,Lib.hid (fun j hj => absurd hj (by omega))⟩
        case round =>
         obtain ⟨k,hk,rfl,hk8,ha8,hall⟩:=hrel
         by_cases hlt:k < 5
         ·have hcell:=cellsAt ha8.out k
          rw [arrC_get bs hlt] at hcell;have hfz:=cellsFrozen ha8.out k;have hpl:=cellsAt (hk8.out.some_ HP7.out HD4.out) k;rw [plcC_get b o c hlt] at hpl;obtain ⟨ho1,ho2,ho3⟩:=ordF_in hlt;obtain ⟨q,hq⟩:∃ q,q=ordF k:=⟨_,rfl⟩;rw [← hq] at hpl ho1 ho2 ho3;have HQ:=Lib.hid hq;clear hq
          go_wp2_with fail
          refine (rfield_any _ _ _ (fieldB bs q) _ (fieldB_length HN.out (by omega)) (by omega) (by unfold maxLen;omega) (sub_bat (BAt.kept (HB0.out.kept HK7.out (fun _ _ _ => id)) hk8.out (fun _ a ha => by
           cases ha
           have h1:=HD3.out.2.2.2.2;intro e;have e:b=g3:=e;have h5:=HA3.out
           omega)) _ _ ho3)).mono ?_
          rintro e w' ⟨rfl,rfl⟩;obtain ⟨hr2,hr1⟩:=refParse_is (fieldB bs q);rw [hr2]
          cases hps:parseF (fieldB bs q) with
          | none =>
            have E:Hid (headR bs=(zeroH,4)):=Lib.hid (headR_num HN.out HPS.out HM9.out (by
             cases h:numsOkB bs with
             | false => rfl
             | true =>
               have h1:=numsOkB_iff.1 h q ho1 ho2;rw [hps] at h1
               cases h1))
            generalize (refParse (fieldB bs q)).1=y;rw [oI_none];have hg8:=hk8.out.some_ HG7.out HD3.out.1;have HG8:=Lib.hid hg8;have c0:=cellsAt hg8;have f0:=cellsFrozen hg8;unfold zeroCs at c0;clear hps hr1 hr2 hcell hfz hpl hg8
            go_wp2
            refine bodyPost_ret (ret_head rfl _ _ g _ rfl rfl ⟨#[]⟩ ⟨#[]⟩ 0 0 0 0 0 0 false (stored9 HG8.out _ _ _ _ _ _ _ _ _)) rfl ?_
            rw [E.out]
            exact ⟨rfl,((HK0.out.trans HK7.out).then hk8.out (fun i hi => Or.inl (by
             have h1:i=g3:=hi;have h2:=HD3.out.2.2.2.2;have h3:=HK0.out.size
             omega))).then (kept9 (Kept.refl (oneB g) _) _ _ _ _ _ _ _ _ _) (fun i hi => Or.inl (by
             have h1:i=g:=hi;rw [h1]
             exact HG.out))⟩
          | some v =>
            rw [hr1 (by rw [hps];rfl),hps,vI_some,oI_some]
            have HV8:Hid (v=valB bs q):=Lib.hid (by rw [valB,hps];rfl)
            have HOK:Hid (okI (parseF (fieldB bs q))=true):=Lib.hid (by rw [hps];rfl)
            clear hps hr1 hr2
            go_wp2
            go_roundw
            case rel =>
             refine ⟨k+1,by omega,by go_num,Lib.hid (hk8.out.setCell (a:=⟨g3,k,none⟩) (Or.inr (show oneB g3 g3 from rfl)) _),Lib.hid ?_,Lib.hid (fun j hj => ?_)⟩
             ·have h1:=cell_set ha8.out k (.int .i64 v)
              rw [HV8.out,HQ.out,arrC_set bs hlt] at h1;rw [HV8.out,HQ.out];exact h1
             ·rcases Nat.lt_or_ge j k with h1 | h1
              ·exact hall.out j h1
              ·obtain rfl:j=k:=by omega
               rw [← HQ.out];exact HOK.out
            case measure => simp [RowKit.intOf];omega
         ·obtain rfl:k=5:=by omega
          have HT:Hid (headR bs=(theHead bs,0)):=Lib.hid (headR_ok HN.out HPS.out HM9.out (numsOkB_iff.2 (ordF_all fun j hj => hall.out j hj)))
          have ha5:_=some (Obj.cells #[.int .i64 (valB bs 1),.int .i64 (valB bs 2),.int .i64 (valB bs 3),.int .i64 (valB bs 5),.int .i64 (valB bs 4)] 107 (0,0)):=ha8.out;have ca:=cellsAt ha5;have h28:=hk8.out.some_ H27.out HD3.out.2.1;have c2:=cellsAt h28;have f2:=cellsFrozen h28;have hg8:=hk8.out.some_ HG7.out HD3.out.1;have HG8:=Lib.hid hg8;have c0:=cellsAt hg8;have f0:=cellsFrozen hg8;unfold zeroCs at c0;have hn1:¬ g2=g3:=HD3.out.2.1;have hn2:¬ g3=g2:=fun e => hn1 e.symm
          have hn3:¬ g=g2:=HD3.out.2.2.2.1;have hn4:¬ g2=g:=fun e => hn3 e.symm
          have HFIN:Hid (headA (headR bs)=.tuple #[.agg #[.string nm,.string (str (untilB (fieldB bs 8))),.int .u8 48,.int .i64 (valB bs 1),.int .i64 (valB bs 2),.int .i64 (valB bs 3),.int .i64 (valB bs 5),.int .i64 (valB bs 4),.bool false],.int .i64 0]):=Lib.hid (by
           rw [HT.out];simp only [headA,headC,theHead,HMF.out]
           rw [HKB.out,HNM.out])
          go_wp2
          refine bodyPost_ret (ret_head rfl _ _ g _ rfl rfl _ _ _ _ _ _ _ _ _ (stored9 ((kept5 (Kept.refl (oneB g2) _) _ _ _ _ _).some_ HG8.out hn3) _ _ _ _ _ _ _ _ _)) rfl ?_
          rw [HFIN.out]
          exact ⟨rfl,(((HK0.out.trans HK7.out).then hk8.out (fun i hi => Or.inl (by
           have h1:i=g3:=hi;have h2:=HD3.out.2.2.2.2;have h3:=HK0.out.size
           omega))).then (kept5 (Kept.refl (oneB g2) _) _ _ _ _ _) (fun i hi => Or.inl (by
           have h1:i=g2:=hi;have h2:=HG2.out;have h3:=HK0.out.size
           omega))).then (kept9 (Kept.refl (oneB g) _) _ _ _ _ _ _ _ _ _) (fun i hi => Or.inl (by
           have h1:i=g:=hi;rw [h1]
           exact HG.out))⟩
       ·obtain ⟨s0,hs0⟩:∃ s0,s0=str (untilB (fieldB bs 0)):=⟨_,rfl⟩
        obtain ⟨px,hpx⟩:∃ px,px=str (untilB (fieldB bs 10)):=⟨_,rfl⟩;have hb:px.toList.isEmpty=false:=by rw [hpx,str_toList];simpa using hpe
        obtain ⟨nm,hnm⟩:∃ nm,nm=px++⟨#[47]⟩++s0:=⟨_,rfl⟩
        have HNM:Hid (nm=str (nameF (untilB (fieldB bs 10)) (untilB (fieldB bs 0)) false)):=Lib.hid (by
         rw [hnm,hpx,hs0,nameF,if_neg (by simp [hpe]),show (⟨#[47]⟩:ByteArray)=str [47] from rfl,str_app',str_app']
         simp)
        obtain ⟨wn,hwn⟩:∃ wn,wn=w5.setCell ⟨g2,0,none⟩ (.string nm):=⟨_,rfl⟩;have HV:=Lib.hid (cell_set HW5.out 0 (.string nm));rw [← hwn] at HV;have HKV:Hid (Kept noneB w0 wn):=Lib.hid (by rw [hwn];exact HK5.out.setCell (Or.inl (by rw [HG2.out];exact Nat.le_refl _)) _)
        have hsz1:px.size≤155:=by
         rw [hpx,str_size];exact Nat.le_trans (List.takeWhile_sublist _).length_le (Nat.le_of_eq (fieldB_length HN.out (i:=10) (by omega)))
        have hsz2:s0.size≤100:=by
         rw [hs0,str_size];exact Nat.le_trans (List.takeWhile_sublist _).length_le (Nat.le_of_eq (fieldB_length HN.out (i:=0) (by omega)))
        rw [← hs0] at c5;rw [← hpx];clear hs0 hpx hpe
        go_wp2_with fail
        rw [← hnm,← hwn];have HSZ:Hid (wn.heap.size=w5.heap.size):=Lib.hid (by rw [hwn];simp)
        clear c5 f5 hb hnm hwn hsz1 hsz2;obtain ⟨g3,hg3⟩:∃ g3,g3=wn.heap.size:=⟨_,rfl⟩;obtain ⟨w6,hw6⟩:∃ w6,w6=wn.alloc (.cells #[.int .i64 0,.int .i64 0,.int .i64 0,.int .i64 0,.int .i64 0] 107):=⟨_,rfl⟩;have HA6:Hid (w6.heap[g3]? = some (.cells (arrC bs 0) 107 (0,0))):=Lib.hid (by rw [hw6,hg3];exact heap_alloc_new wn _)
        have HK6:Hid (Kept noneB w0 w6):=Lib.hid (by rw [hw6];exact HKV.out.alloc _)
        have H26:=Lib.hid (((Kept.refl noneB wn).alloc (.cells #[.int .i64 0,.int .i64 0,.int .i64 0,.int .i64 0,.int .i64 0] 107)).some_ HV.out id);rw [← hw6] at H26
        have HD3:Hid (g≠g3∧g2≠g3∧g3 < w6.heap.size∧g≠g2∧w0.heap.size≤g3):=Lib.hid (by
         have h1:=HKV.out.size;have h2:=HGL.out;have h3:=(Array.getElem?_eq_some_iff.1 HV.out).1;have h4:=(Array.getElem?_eq_some_iff.1 HA6.out).1;have h5:=HG2.out
         omega)
        rw [← hw6,← HSZ.out,← hg3];clear hw6 hg3;obtain ⟨g4,hg4⟩:∃ g4,g4=w6.heap.size:=⟨_,rfl⟩;have HG4:=Lib.hid hg4;clear hg4;refine wp_region_any (by kernel_rfl) (ref_region2 (w3:=w6) g4 (.slice (some ⟨b,o,none⟩) 512 c) _ _ _ _ _ (show 118≤118 from Nat.le_refl 118) rfl HG4.out (fun w => slice_at b o c 100 108 (by omega) (by omega) hc (by omega) w) (fun w => slice_at b o c 108 116 (by omega) (by omega) hc (by omega) w) (fun w => slice_at b o c 116 124 (by omega) (by omega) hc (by omega) w) (fun w => slice_at b o c 136 148 (by omega) (by omega) hc (by omega) w) (fun w => slice_at b o c 124 136 (by omega) (by omega) hc (by omega) w) (fun w => build5 w _ _ _ _ _ _ _ _ _ _ _ _ _ _ _) ?_)
        intro w7 hw7 hk7;have HP7:Hid (w7.heap[g4]? = some (.cells (plcC b o c) 22 (0,0))):=Lib.hid hw7;have HK7:=Lib.hid (HK6.out.trans hk7);have HA7:=Lib.hid (hk7.some_ HA6.out id);have H27:=Lib.hid (hk7.some_ H26.out id);have HG7:=Lib.hid (HK7.out.some_ HG0.out id);have HD4:Hid (g4≠g3):=Lib.hid (by have h1:=HG4.out;have h2:=HD3.out.2.2.1;omega)
        clear hw7 hk7;simp only [Exit.then]
        apply_assumption
        go_wp2_with fail
        go_loopw [11] (fun i wr => ∃ k:Nat,k≤5∧i=.int .i64 k∧Hid (Kept (oneB g3) w7 wr)∧Hid (wr.heap[g3]? = some (.cells (arrC bs k) 107 (0,0)))∧Hid (∀ j,j < k → okI (parseF (fieldB bs (ordF j)))=true)) (fun i _ => 5 - (RowKit.intOf i).toNat)
        case atStart => exact ⟨0,by omega,rfl,Lib.hid (Kept.refl _ _),HA7,Lib.hid (fun j hj => absurd hj (by omega))⟩
        case round =>
         obtain ⟨k,hk,rfl,hk8,ha8,hall⟩:=hrel
         by_cases hlt:k < 5
         ·have hcell:=cellsAt ha8.out k
          rw [arrC_get bs hlt] at hcell;have hfz:=cellsFrozen ha8.out k;have hpl:=cellsAt (hk8.out.some_ HP7.out HD4.out) k;rw [plcC_get b o c hlt] at hpl;obtain ⟨ho1,ho2,ho3⟩:=ordF_in hlt;obtain ⟨q,hq⟩:∃ q,q=ordF k:=⟨_,rfl⟩;rw [← hq] at hpl ho1 ho2 ho3;have HQ:=Lib.hid hq;clear hq
          go_wp2_with fail
          refine (rfield_any _ _ _ (fieldB bs q) _ (fieldB_length HN.out (by omega)) (by omega) (by unfold maxLen;omega) (sub_bat (BAt.kept (HB0.out.kept HK7.out (fun _ _ _ => id)) hk8.out (fun _ a ha => by
           cases ha
           have h1:=HD3.out.2.2.2.2;intro e;have e:b=g3:=e;have h5:=HA3.out
           omega)) _ _ ho3)).mono ?_
          rintro e w' ⟨rfl,rfl⟩;obtain ⟨hr2,hr1⟩:=refParse_is (fieldB bs q);rw [hr2]
          cases hps:parseF (fieldB bs q) with
          | none =>
            have E:Hid (headR bs=(zeroH,4)):=Lib.hid (headR_num HN.out HPS.out HM9.out (by
             cases h:numsOkB bs with
             | false => rfl
             | true =>
               have h1:=numsOkB_iff.1 h q ho1 ho2;rw [hps] at h1
               cases h1))
            generalize (refParse (fieldB bs q)).1=y;rw [oI_none];have hg8:=hk8.out.some_ HG7.out HD3.out.1;have HG8:=Lib.hid hg8;have c0:=cellsAt hg8;have f0:=cellsFrozen hg8;unfold zeroCs at c0;clear hps hr1 hr2 hcell hfz hpl hg8
            go_wp2
            refine bodyPost_ret (ret_head rfl _ _ g _ rfl rfl ⟨#[]⟩ ⟨#[]⟩ 0 0 0 0 0 0 false (stored9 HG8.out _ _ _ _ _ _ _ _ _)) rfl ?_
            rw [E.out]
            exact ⟨rfl,((HK0.out.trans HK7.out).then hk8.out (fun i hi => Or.inl (by
             have h1:i=g3:=hi;have h2:=HD3.out.2.2.2.2;have h3:=HK0.out.size
             omega))).then (kept9 (Kept.refl (oneB g) _) _ _ _ _ _ _ _ _ _) (fun i hi => Or.inl (by
             have h1:i=g:=hi;rw [h1]
             exact HG.out))⟩
          | some v =>
            rw [hr1 (by rw [hps];rfl),hps,vI_some,oI_some]
            have HV8:Hid (v=valB bs q):=Lib.hid (by rw [valB,hps];rfl)
            have HOK:Hid (okI (parseF (fieldB bs q))=true):=Lib.hid (by rw [hps];rfl)
            clear hps hr1 hr2
            go_wp2
            go_roundw
            case rel =>
             refine ⟨k+1,by omega,by go_num,Lib.hid (hk8.out.setCell (a:=⟨g3,k,none⟩) (Or.inr (show oneB g3 g3 from rfl)) _),Lib.hid ?_,Lib.hid (fun j hj => ?_)⟩
             ·have h1:=cell_set ha8.out k (.int .i64 v)
              rw [HV8.out,HQ.out,arrC_set bs hlt] at h1;rw [HV8.out,HQ.out];exact h1
             ·rcases Nat.lt_or_ge j k with h1 | h1
              ·exact hall.out j h1
              ·obtain rfl:j=k:=by omega
               rw [← HQ.out];exact HOK.out
            case measure => simp [RowKit.intOf];omega
         ·obtain rfl:k=5:=by omega
          have HT:Hid (headR bs=(theHead bs,0)):=Lib.hid (headR_ok HN.out HPS.out HM9.out (numsOkB_iff.2 (ordF_all fun j hj => hall.out j hj)))
          have ha5:_=some (Obj.cells #[.int .i64 (valB bs 1),.int .i64 (valB bs 2),.int .i64 (valB bs 3),.int .i64 (valB bs 5),.int .i64 (valB bs 4)] 107 (0,0)):=ha8.out;have ca:=cellsAt ha5;have h28:=hk8.out.some_ H27.out HD3.out.2.1;have c2:=cellsAt h28;have f2:=cellsFrozen h28;have hg8:=hk8.out.some_ HG7.out HD3.out.1;have HG8:=Lib.hid hg8;have c0:=cellsAt hg8;have f0:=cellsFrozen hg8;unfold zeroCs at c0;have hn1:¬ g2=g3:=HD3.out.2.1;have hn2:¬ g3=g2:=fun e => hn1 e.symm
          have hn3:¬ g=g2:=HD3.out.2.2.2.1;have hn4:¬ g2=g:=fun e => hn3 e.symm
          have HFIN:Hid (headA (headR bs)=.tuple #[.agg #[.string nm,.string (str (untilB (fieldB bs 8))),.int .u8 48,.int .i64 (valB bs 1),.int .i64 (valB bs 2),.int .i64 (valB bs 3),.int .i64 (valB bs 5),.int .i64 (valB bs 4),.bool false],.int .i64 0]):=Lib.hid (by
           rw [HT.out];simp only [headA,headC,theHead,HMF.out]
           rw [HKB.out,HNM.out])
          go_wp2
          refine bodyPost_ret (ret_head rfl _ _ g _ rfl rfl _ _ _ _ _ _ _ _ _ (stored9 ((kept5 (Kept.refl (oneB g2) _) _ _ _ _ _).some_ HG8.out hn3) _ _ _ _ _ _ _ _ _)) rfl ?_
          rw [HFIN.out]
          exact ⟨rfl,(((HK0.out.trans HK7.out).then hk8.out (fun i hi => Or.inl (by
           have h1:i=g3:=hi;have h2:=HD3.out.2.2.2.2;have h3:=HK0.out.size
           omega))).then (kept5 (Kept.refl (oneB g2) _) _ _ _ _ _) (fun i hi => Or.inl (by
           have h1:i=g2:=hi;have h2:=HG2.out;have h3:=HK0.out.size
           omega))).then (kept9 (Kept.refl (oneB g) _) _ _ _ _ _ _ _ _ _) (fun i hi => Or.inl (by
           have h1:i=g:=hi;rw [h1]
           exact HG.out))⟩
      ·have hkz:(x == 0)=false:=by simpa using hK0
       have HKB:Hid (((kindB bs).toNat:Int)=x):=Lib.hid (by
        rw [kindB,fieldB_get bs 7 0 (by decide),show atF 7+0=156 from rfl,if_neg (show ¬ bs.getD 156 0=0 from fun e => hK0 (by rw [HKD.out,e];rfl)),HKD.out])
       have c4:=cellsAt hw4;have f4:=cellsFrozen hw4;have HW5:=Lib.hid hw4;have HK5:=Lib.hid hk4;clear hk4 hw4
       go_wp2_with fail
       clear c4 f4 hkz;have f10:BAt w4 (some ⟨b,o+345,none⟩) 155 (fieldB bs 10):=sub_bat (HB0.out.kept HK5.out (fun _ _ _ => id)) 345 155 (by omega)
       refine (until_any _ 155 (c - 345) (fieldB bs 10) w4 (fieldB_length HN.out (by omega)) (by omega) (by omega) f10).mono ?_
       rintro e w' ⟨rfl,rfl⟩;have c5:=cellsAt HW5.out;have f5:=cellsFrozen HW5.out;clear f10
       by_cases hpe:untilB (fieldB bs 10)=[]
       ·obtain ⟨nm,hnm⟩:∃ nm,nm=str (untilB (fieldB bs 0)):=⟨_,rfl⟩
        have HNM:Hid (nm=str (nameF (untilB (fieldB bs 10)) (untilB (fieldB bs 0)) false)):=Lib.hid (by rw [hnm,nameF,if_pos (Or.inr hpe)])
        have HV:=HW5;have HKV:=HK5;rw [← hnm] at HV;clear hnm;rw [hpe,show str []=⟨#[]⟩ from rfl]
        go_wp2_with fail
        clear c5 f5;obtain ⟨g3,hg3⟩:∃ g3,g3=w4.heap.size:=⟨_,rfl⟩;obtain ⟨w6,hw6⟩:∃ w6,w6=w4.alloc (.cells #[.int .i64 0,.int .i64 0,.int .i64 0,.int .i64 0,.int .i64 0] 107):=⟨_,rfl⟩;have HA6:Hid (w6.heap[g3]? = some (.cells (arrC bs 0) 107 (0,0))):=Lib.hid (by rw [hw6,hg3];exact heap_alloc_new w4 _)
        have HK6:Hid (Kept noneB w0 w6):=Lib.hid (by rw [hw6];exact HKV.out.alloc _)
        have H26:=Lib.hid (((Kept.refl noneB w4).alloc (.cells #[.int .i64 0,.int .i64 0,.int .i64 0,.int .i64 0,.int .i64 0] 107)).some_ HV.out id);rw [← hw6] at H26
        have HD3:Hid (g≠g3∧g2≠g3∧g3 < w6.heap.size∧g≠g2∧w0.heap.size≤g3):=Lib.hid (by
         have h1:=HKV.out.size;have h2:=HGL.out;have h3:=(Array.getElem?_eq_some_iff.1 HV.out).1;have h4:=(Array.getElem?_eq_some_iff.1 HA6.out).1;have h5:=HG2.out
         omega)
        rw [← hw6,← hg3];clear hw6 hg3;obtain ⟨g4,hg4⟩:∃ g4,g4=w6.heap.size:=⟨_,rfl⟩;have HG4:=Lib.hid hg4;clear hg4;refine wp_region_any (by kernel_rfl) (ref_region2 (w3:=w6) g4 (.slice (some ⟨b,o,none⟩) 512 c) _ _ _ _ _ (show 118≤118 from Nat.le_refl 118) rfl HG4.out (fun w => slice_at b o c 100 108 (by omega) (by omega) hc (by omega) w) (fun w => slice_at b o c 108 116 (by omega) (by omega) hc (by omega) w) (fun w => slice_at b o c 116 124 (by omega) (by omega) hc (by omega) w) (fun w => slice_at b o c 136 148 (by omega) (by omega) hc (by omega) w) (fun w => slice_at b o c 124 136 (by omega) (by omega) hc (by omega) w) (fun w => build5 w _ _ _ _ _ _ _ _ _ _ _ _ _ _ _) ?_)
        intro w7 hw7 hk7;have HP7:Hid (w7.heap[g4]? = some (.cells (plcC b o c) 22 (0,0))):=Lib.hid hw7;have HK7:=Lib.hid (HK6.out.trans hk7);have HA7:=Lib.hid (hk7.some_ HA6.out id);have H27:=Lib.hid (hk7.some_ H26.out id);have HG7:=Lib.hid (HK7.out.some_ HG0.out id);have HD4:Hid (g4≠g3):=Lib.hid (by have h1:=HG4.out;have h2:=HD3.out.2.2.1;omega)
        clear hw7 hk7;simp only [Exit.then]
        apply_assumption
        go_wp2_with fail
        go_loopw [11] (fun i wr => ∃ k:Nat,k≤5∧i=.int .i64 k∧Hid (Kept (oneB g3) w7 wr)∧Hid (wr.heap[g3]? = some (.cells (arrC bs k) 107 (0,0)))∧Hid (∀ j,j < k → okI (parseF (fieldB bs (ordF j)))=true)) (fun i _ => 5 - (RowKit.intOf i).toNat)
        case atStart => exact ⟨0,by omega,rfl,Lib.hid (Kept.refl _ _),HA7,Lib.hid (fun j hj => absurd hj (by omega))⟩
        case round =>
         obtain ⟨k,hk,rfl,hk8,ha8,hall⟩:=hrel
         by_cases hlt:k < 5
         ·have hcell:=cellsAt ha8.out k
          rw [arrC_get bs hlt] at hcell;have hfz:=cellsFrozen ha8.out k;have hpl:=cellsAt (hk8.out.some_ HP7.out HD4.out) k;rw [plcC_get b o c hlt] at hpl;obtain ⟨ho1,ho2,ho3⟩:=ordF_in hlt;obtain ⟨q,hq⟩:∃ q,q=ordF k:=⟨_,rfl⟩;rw [← hq] at hpl ho1 ho2 ho3;have HQ:=Lib.hid hq;clear hq
          go_wp2_with fail
          refine (rfield_any _ _ _ (fieldB bs q) _ (fieldB_length HN.out (by omega)) (by omega) (by unfold maxLen;omega) (sub_bat (BAt.kept (HB0.out.kept HK7.out (fun _ _ _ => id)) hk8.out (fun _ a ha => by
           cases ha
           have h1:=HD3.out.2.2.2.2;intro e;have e:b=g3:=e;have h5:=HA3.out
           omega)) _ _ ho3)).mono ?_
          rintro e w' ⟨rfl,rfl⟩;obtain ⟨hr2,hr1⟩:=refParse_is (fieldB bs q);rw [hr2]
          cases hps:parseF (fieldB bs q) with
          | none =>
            have E:Hid (headR bs=(zeroH,4)):=Lib.hid (headR_num HN.out HPS.out HM9.out (by
             cases h:numsOkB bs with
             | false => rfl
             | true =>
               have h1:=numsOkB_iff.1 h q ho1 ho2;rw [hps] at h1
               cases h1))
            generalize (refParse (fieldB bs q)).1=y;rw [oI_none];have hg8:=hk8.out.some_ HG7.out HD3.out.1;have HG8:=Lib.hid hg8;have c0:=cellsAt hg8;have f0:=cellsFrozen hg8;unfold zeroCs at c0;clear hps hr1 hr2 hcell hfz hpl hg8
            go_wp2
            refine bodyPost_ret (ret_head rfl _ _ g _ rfl rfl ⟨#[]⟩ ⟨#[]⟩ 0 0 0 0 0 0 false (stored9 HG8.out _ _ _ _ _ _ _ _ _)) rfl ?_
            rw [E.out]
            exact ⟨rfl,((HK0.out.trans HK7.out).then hk8.out (fun i hi => Or.inl (by
             have h1:i=g3:=hi;have h2:=HD3.out.2.2.2.2;have h3:=HK0.out.size
             omega))).then (kept9 (Kept.refl (oneB g) _) _ _ _ _ _ _ _ _ _) (fun i hi => Or.inl (by
             have h1:i=g:=hi;rw [h1]
             exact HG.out))⟩
          | some v =>
            rw [hr1 (by rw [hps];rfl),hps,vI_some,oI_some]
            have HV8:Hid (v=valB bs q):=Lib.hid (by rw [valB,hps];rfl)
            have HOK:Hid (okI (parseF (fieldB bs q))=true):=Lib.hid (by rw [hps];rfl)
            clear hps hr1 hr2
            go_wp2
            go_roundw
            case rel =>
             refine ⟨k+1,by omega,by go_num,Lib.hid (hk8.out.setCell (a:=⟨g3,k,none⟩) (Or.inr (show oneB g3 g3 from rfl)) _),Lib.hid ?_,Lib.hid (fun j hj => ?_)⟩
             ·have h1:=cell_set ha8.out k (.int .i64 v)
              rw [HV8.out,HQ.out,arrC_set bs hlt] at h1;rw [HV8.out,HQ.out];exact h1
             ·rcases Nat.lt_or_ge j k with h1 | h1
              ·exact hall.out j h1
              ·obtain rfl:j=k:=by omega
               rw [← HQ.out];exact HOK.out
            case measure => simp [RowKit.intOf];omega
         ·obtain rfl:k=5:=by omega
          have HT:Hid (headR bs=(theHead bs,0)):=Lib.hid (headR_ok HN.out HPS.out HM9.out (numsOkB_iff.2 (ordF_all fun j hj => hall.out j hj)))
          have ha5:_=some (Obj.cells #[.int .i64 (valB bs 1),.int .i64 (valB bs 2),.int .i64 (valB bs 3),.int .i64 (valB bs 5),.int .i64 (valB bs 4)] 107 (0,0)):=ha8.out;have ca:=cellsAt ha5;have h28:=hk8.out.some_ H27.out HD3.out.2.1;have c2:=cellsAt h28;have f2:=cellsFrozen h28;have hg8:=hk8.out.some_ HG7.out HD3.out.1;have HG8:=Lib.hid hg8;have c0:=cellsAt hg8;have f0:=cellsFrozen hg8;unfold zeroCs at c0;have hn1:¬ g2=g3:=HD3.out.2.1;have hn2:¬ g3=g2:=fun e => hn1 e.symm
          have hn3:¬ g=g2:=HD3.out.2.2.2.1;have hn4:¬ g2=g:=fun e => hn3 e.symm
          have HFIN:Hid (headA (headR bs)=.tuple #[.agg #[.string nm,.string (str (untilB (fieldB bs 8))),.int .u8 x,.int .i64 (valB bs 1),.int .i64 (valB bs 2),.int .i64 (valB bs 3),.int .i64 (valB bs 5),.int .i64 (valB bs 4),.bool false],.int .i64 0]):=Lib.hid (by
           rw [HT.out];simp only [headA,headC,theHead,HMF.out]
           rw [HKB.out,HNM.out])
          go_wp2
          refine bodyPost_ret (ret_head rfl _ _ g _ rfl rfl _ _ _ _ _ _ _ _ _ (stored9 ((kept5 (Kept.refl (oneB g2) _) _ _ _ _ _).some_ HG8.out hn3) _ _ _ _ _ _ _ _ _)) rfl ?_
          rw [HFIN.out]
          exact ⟨rfl,(((HK0.out.trans HK7.out).then hk8.out (fun i hi => Or.inl (by
           have h1:i=g3:=hi;have h2:=HD3.out.2.2.2.2;have h3:=HK0.out.size
           omega))).then (kept5 (Kept.refl (oneB g2) _) _ _ _ _ _) (fun i hi => Or.inl (by
           have h1:i=g2:=hi;have h2:=HG2.out;have h3:=HK0.out.size
           omega))).then (kept9 (Kept.refl (oneB g) _) _ _ _ _ _ _ _ _ _) (fun i hi => Or.inl (by
           have h1:i=g:=hi;rw [h1]
           exact HG.out))⟩
       ·obtain ⟨s0,hs0⟩:∃ s0,s0=str (untilB (fieldB bs 0)):=⟨_,rfl⟩
        obtain ⟨px,hpx⟩:∃ px,px=str (untilB (fieldB bs 10)):=⟨_,rfl⟩;have hb:px.toList.isEmpty=false:=by rw [hpx,str_toList];simpa using hpe
        obtain ⟨nm,hnm⟩:∃ nm,nm=px++⟨#[47]⟩++s0:=⟨_,rfl⟩
        have HNM:Hid (nm=str (nameF (untilB (fieldB bs 10)) (untilB (fieldB bs 0)) false)):=Lib.hid (by
         rw [hnm,hpx,hs0,nameF,if_neg (by simp [hpe]),show (⟨#[47]⟩:ByteArray)=str [47] from rfl,str_app',str_app']
         simp)
        obtain ⟨wn,hwn⟩:∃ wn,wn=w4.setCell ⟨g2,0,none⟩ (.string nm):=⟨_,rfl⟩;have HV:=Lib.hid (cell_set HW5.out 0 (.string nm));rw [← hwn] at HV;have HKV:Hid (Kept noneB w0 wn):=Lib.hid (by rw [hwn];exact HK5.out.setCell (Or.inl (by rw [HG2.out];exact Nat.le_refl _)) _)
        have hsz1:px.size≤155:=by
         rw [hpx,str_size];exact Nat.le_trans (List.takeWhile_sublist _).length_le (Nat.le_of_eq (fieldB_length HN.out (i:=10) (by omega)))
        have hsz2:s0.size≤100:=by
         rw [hs0,str_size];exact Nat.le_trans (List.takeWhile_sublist _).length_le (Nat.le_of_eq (fieldB_length HN.out (i:=0) (by omega)))
        rw [← hs0] at c5;rw [← hpx];clear hs0 hpx hpe
        go_wp2_with fail
        rw [← hnm,← hwn];have HSZ:Hid (wn.heap.size=w4.heap.size):=Lib.hid (by rw [hwn];simp)
        clear c5 f5 hb hnm hwn hsz1 hsz2;obtain ⟨g3,hg3⟩:∃ g3,g3=wn.heap.size:=⟨_,rfl⟩;obtain ⟨w6,hw6⟩:∃ w6,w6=wn.alloc (.cells #[.int .i64 0,.int .i64 0,.int .i64 0,.int .i64 0,.int .i64 0] 107):=⟨_,rfl⟩;have HA6:Hid (w6.heap[g3]? = some (.cells (arrC bs 0) 107 (0,0))):=Lib.hid (by rw [hw6,hg3];exact heap_alloc_new wn _)
        have HK6:Hid (Kept noneB w0 w6):=Lib.hid (by rw [hw6];exact HKV.out.alloc _)
        have H26:=Lib.hid (((Kept.refl noneB wn).alloc (.cells #[.int .i64 0,.int .i64 0,.int .i64 0,.int .i64 0,.int .i64 0] 107)).some_ HV.out id);rw [← hw6] at H26
        have HD3:Hid (g≠g3∧g2≠g3∧g3 < w6.heap.size∧g≠g2∧w0.heap.size≤g3):=Lib.hid (by
         have h1:=HKV.out.size;have h2:=HGL.out;have h3:=(Array.getElem?_eq_some_iff.1 HV.out).1;have h4:=(Array.getElem?_eq_some_iff.1 HA6.out).1;have h5:=HG2.out
         omega)
        rw [← hw6,← HSZ.out,← hg3];clear hw6 hg3;obtain ⟨g4,hg4⟩:∃ g4,g4=w6.heap.size:=⟨_,rfl⟩;have HG4:=Lib.hid hg4;clear hg4;refine wp_region_any (by kernel_rfl) (ref_region2 (w3:=w6) g4 (.slice (some ⟨b,o,none⟩) 512 c) _ _ _ _ _ (show 118≤118 from Nat.le_refl 118) rfl HG4.out (fun w => slice_at b o c 100 108 (by omega) (by omega) hc (by omega) w) (fun w => slice_at b o c 108 116 (by omega) (by omega) hc (by omega) w) (fun w => slice_at b o c 116 124 (by omega) (by omega) hc (by omega) w) (fun w => slice_at b o c 136 148 (by omega) (by omega) hc (by omega) w) (fun w => slice_at b o c 124 136 (by omega) (by omega) hc (by omega) w) (fun w => build5 w _ _ _ _ _ _ _ _ _ _ _ _ _ _ _) ?_)
        intro w7 hw7 hk7;have HP7:Hid (w7.heap[g4]? = some (.cells (plcC b o c) 22 (0,0))):=Lib.hid hw7;have HK7:=Lib.hid (HK6.out.trans hk7);have HA7:=Lib.hid (hk7.some_ HA6.out id);have H27:=Lib.hid (hk7.some_ H26.out id);have HG7:=Lib.hid (HK7.out.some_ HG0.out id);have HD4:Hid (g4≠g3):=Lib.hid (by have h1:=HG4.out;have h2:=HD3.out.2.2.1;omega)
        clear hw7 hk7;simp only [Exit.then]
        apply_assumption
        go_wp2_with fail
        go_loopw [11] (fun i wr => ∃ k:Nat,k≤5∧i=.int .i64 k∧Hid (Kept (oneB g3) w7 wr)∧Hid (wr.heap[g3]? = some (.cells (arrC bs k) 107 (0,0)))∧Hid (∀ j,j < k → okI (parseF (fieldB bs (ordF j)))=true)) (fun i _ => 5 - (RowKit.intOf i).toNat)
        case atStart => exact ⟨0,by omega,rfl,Lib.hid (Kept.refl _ _),HA7,Lib.hid (fun j hj => absurd hj (by omega))⟩
        case round =>
         obtain ⟨k,hk,rfl,hk8,ha8,hall⟩:=hrel
         by_cases hlt:k < 5
         ·have hcell:=cellsAt ha8.out k
          rw [arrC_get bs hlt] at hcell;have hfz:=cellsFrozen ha8.out k;have hpl:=cellsAt (hk8.out.some_ HP7.out HD4.out) k;rw [plcC_get b o c hlt] at hpl;obtain ⟨ho1,ho2,ho3⟩:=ordF_in hlt;obtain ⟨q,hq⟩:∃ q,q=ordF k:=⟨_,rfl⟩;rw [← hq] at hpl ho1 ho2 ho3;have HQ:=Lib.hid hq;clear hq
          go_wp2_with fail
          refine (rfield_any _ _ _ (fieldB bs q) _ (fieldB_length HN.out (by omega)) (by omega) (by unfold maxLen;omega) (sub_bat (BAt.kept (HB0.out.kept HK7.out (fun _ _ _ => id)) hk8.out (fun _ a ha => by
           cases ha
           have h1:=HD3.out.2.2.2.2;intro e;have e:b=g3:=e;have h5:=HA3.out
           omega)) _ _ ho3)).mono ?_
          rintro e w' ⟨rfl,rfl⟩;obtain ⟨hr2,hr1⟩:=refParse_is (fieldB bs q);rw [hr2]
          cases hps:parseF (fieldB bs q) with
          | none =>
            have E:Hid (headR bs=(zeroH,4)):=Lib.hid (headR_num HN.out HPS.out HM9.out (by
             cases h:numsOkB bs with
             | false => rfl
             | true =>
               have h1:=numsOkB_iff.1 h q ho1 ho2;rw [hps] at h1
               cases h1))
            generalize (refParse (fieldB bs q)).1=y;rw [oI_none];have hg8:=hk8.out.some_ HG7.out HD3.out.1;have HG8:=Lib.hid hg8;have c0:=cellsAt hg8;have f0:=cellsFrozen hg8;unfold zeroCs at c0;clear hps hr1 hr2 hcell hfz hpl hg8
            go_wp2
            refine bodyPost_ret (ret_head rfl _ _ g _ rfl rfl ⟨#[]⟩ ⟨#[]⟩ 0 0 0 0 0 0 false (stored9 HG8.out _ _ _ _ _ _ _ _ _)) rfl ?_
            rw [E.out]
            exact ⟨rfl,((HK0.out.trans HK7.out).then hk8.out (fun i hi => Or.inl (by
             have h1:i=g3:=hi;have h2:=HD3.out.2.2.2.2;have h3:=HK0.out.size
             omega))).then (kept9 (Kept.refl (oneB g) _) _ _ _ _ _ _ _ _ _) (fun i hi => Or.inl (by
             have h1:i=g:=hi;rw [h1]
             exact HG.out))⟩
          | some v =>
            rw [hr1 (by rw [hps];rfl),hps,vI_some,oI_some]
            have HV8:Hid (v=valB bs q):=Lib.hid (by rw [valB,hps];rfl)
            have HOK:Hid (okI (parseF (fieldB bs q))=true):=Lib.hid (by rw [hps];rfl)
            clear hps hr1 hr2
            go_wp2
            go_roundw
            case rel =>
             refine ⟨k+1,by omega,by go_num,Lib.hid (hk8.out.setCell (a:=⟨g3,k,none⟩) (Or.inr (show oneB g3 g3 from rfl)) _),Lib.hid ?_,Lib.hid (fun j hj => ?_)⟩
             ·have h1:=cell_set ha8.out k (.int .i64 v)
              rw [HV8.out,HQ.out,arrC_set bs hlt] at h1;rw [HV8.out,HQ.out];exact h1
             ·rcases Nat.lt_or_ge j k with h1 | h1
              ·exact hall.out j h1
              ·obtain rfl:j=k:=by omega
               rw [← HQ.out];exact HOK.out
            case measure => simp [RowKit.intOf];omega
         ·obtain rfl:k=5:=by omega
          have HT:Hid (headR bs=(theHead bs,0)):=Lib.hid (headR_ok HN.out HPS.out HM9.out (numsOkB_iff.2 (ordF_all fun j hj => hall.out j hj)))
          have ha5:_=some (Obj.cells #[.int .i64 (valB bs 1),.int .i64 (valB bs 2),.int .i64 (valB bs 3),.int .i64 (valB bs 5),.int .i64 (valB bs 4)] 107 (0,0)):=ha8.out;have ca:=cellsAt ha5;have h28:=hk8.out.some_ H27.out HD3.out.2.1;have c2:=cellsAt h28;have f2:=cellsFrozen h28;have hg8:=hk8.out.some_ HG7.out HD3.out.1;have HG8:=Lib.hid hg8;have c0:=cellsAt hg8;have f0:=cellsFrozen hg8;unfold zeroCs at c0;have hn1:¬ g2=g3:=HD3.out.2.1;have hn2:¬ g3=g2:=fun e => hn1 e.symm
          have hn3:¬ g=g2:=HD3.out.2.2.2.1;have hn4:¬ g2=g:=fun e => hn3 e.symm
          have HFIN:Hid (headA (headR bs)=.tuple #[.agg #[.string nm,.string (str (untilB (fieldB bs 8))),.int .u8 x,.int .i64 (valB bs 1),.int .i64 (valB bs 2),.int .i64 (valB bs 3),.int .i64 (valB bs 5),.int .i64 (valB bs 4),.bool false],.int .i64 0]):=Lib.hid (by
           rw [HT.out];simp only [headA,headC,theHead,HMF.out]
           rw [HKB.out,HNM.out])
          go_wp2
          refine bodyPost_ret (ret_head rfl _ _ g _ rfl rfl _ _ _ _ _ _ _ _ _ (stored9 ((kept5 (Kept.refl (oneB g2) _) _ _ _ _ _).some_ HG8.out hn3) _ _ _ _ _ _ _ _ _)) rfl ?_
          rw [HFIN.out]
          exact ⟨rfl,(((HK0.out.trans HK7.out).then hk8.out (fun i hi => Or.inl (by
           have h1:i=g3:=hi;have h2:=HD3.out.2.2.2.2;have h3:=HK0.out.size
           omega))).then (kept5 (Kept.refl (oneB g2) _) _ _ _ _ _) (fun i hi => Or.inl (by
           have h1:i=g2:=hi;have h2:=HG2.out;have h3:=HK0.out.size
           omega))).then (kept9 (Kept.refl (oneB g) _) _ _ _ _ _ _ _ _ _) (fun i hi => Or.inl (by
           have h1:i=g:=hi;rw [h1]
           exact HG.out))⟩
     ·by_cases hgn:fieldB bs 9=gnuB
      ·have HM9:Hid (fieldB bs 9=ustarB ∨ fieldB bs 9=gnuB):=Lib.hid (Or.inr hgn)
       have HMF:Hid (gnuOf bs=true):=Lib.hid (by rw [gnuOf,hgn];decide)
       rw [hgn,gnu_str] at cs9;clear hu hgn;obtain ⟨g2,hg2⟩:∃ g2,g2=w0.heap.size:=⟨_,rfl⟩;have HG2:=Lib.hid hg2;clear hg2;obtain ⟨x,hx⟩:∃ x:Int,x=((bs.getD 156 0).toNat:Int):=⟨_,rfl⟩;have HKD:=Lib.hid hx;clear hx
       go_wp2_with fail
       refine wp_region_any (by kernel_rfl) (ref_region (w3:=w0) g2 (.slice (some ⟨b,o,none⟩) 512 c) (.slice (some ⟨b,o,none⟩) 100 c) (.slice (some ⟨b,o+157,none⟩) 100 (c - 157)) ⟨b,o+156,none⟩ ⟨#[117,115,116,97,114,32,32,0]⟩ (str (untilB (fieldB bs 0))) (str (untilB (fieldB bs 8))) true x (show 118≤118 from Nat.le_refl 118) rfl rfl HG2.out (fun w => ?ix) (fun w hk => ?ld) (fun w => slice_to b o c 100 (by omega) hc w) (fun w => slice_at b o c 157 257 (by omega) (by omega) hc (by omega) w) (fun w hk => ?u1) (fun w hk => ?u2) (by rw [← gnu_str,str_toList];decide) ?_)
       case ix => exact index_at b o c 156 (by omega) w
       case ld =>
        have q:w.cell? ⟨b,o+156,none⟩=some (.int .u8 x):=by
         obtain ⟨b',o',he,hcc⟩:=(HB0.out.kept hk (fun _ _ _ => id)) (by omega)
         cases he
         rw [HKD.out];exact hcc 156 (by omega)
        exact load_at w _ _ q
       case u1 =>
        exact until_any _ 100 c (fieldB bs 0) w (fieldB_length HN.out (by omega)) (by omega) hm ((HB0.out.kept hk (fun _ _ _ => id)).take (k:=100) (by omega))
       case u2 =>
        exact until_any _ 100 (c - 157) (fieldB bs 8) w (fieldB_length HN.out (by omega)) (by omega) (by omega) (sub_bat (HB0.out.kept hk (fun _ _ _ => id)) 157 100 (by omega))
       intro w4 hw4 hk4;simp only [Exit.then]
       apply_assumption
       by_cases hK0:x=0
       ·have hkz:(x == 0)=true:=by rw [hK0];rfl
        have HKB:Hid (((kindB bs).toNat:Int)=48):=Lib.hid (by
         rw [kindB,fieldB_get bs 7 0 (by decide),show atF 7+0=156 from rfl,if_pos (show bs.getD 156 0=0 from UInt8.toNat.inj (show (bs.getD 156 0).toNat=0 by have:=HKD.out;omega))]
         rfl)
        clear hK0;have c4:=cellsAt hw4;have f4:=cellsFrozen hw4;obtain ⟨w5,hw5⟩:∃ w5,w5=w4.setCell ⟨g2,2,none⟩ (.int .u8 48):=⟨_,rfl⟩;have HW5:Hid (w5.heap[g2]? = some (.cells #[.string (str (untilB (fieldB bs 0))),.string (str (untilB (fieldB bs 8))),.int .u8 48,.int .i64 0,.int .i64 0,.int .i64 0,.int .i64 0,.int .i64 0,.bool true] 57 (0,0))):=Lib.hid (by rw [hw5];exact cell_set hw4 2 _)
        have HK5:Hid (Kept noneB w0 w5):=Lib.hid (by rw [hw5];exact hk4.setCell (Or.inl (by rw [HG2.out];exact Nat.le_refl _)) _)
        clear hk4
        go_wp2_with fail
        rw [← hw5];clear c4 f4 hw4 hw5 hkz;have f10:BAt w5 (some ⟨b,o+345,none⟩) 155 (fieldB bs 10):=sub_bat (HB0.out.kept HK5.out (fun _ _ _ => id)) 345 155 (by omega)
        refine (until_any _ 155 (c - 345) (fieldB bs 10) w5 (fieldB_length HN.out (by omega)) (by omega) (by omega) f10).mono ?_
        rintro e w' ⟨rfl,rfl⟩;have c5:=cellsAt HW5.out;have f5:=cellsFrozen HW5.out;clear f10;obtain ⟨nm,hnm⟩:∃ nm,nm=str (untilB (fieldB bs 0)):=⟨_,rfl⟩;have HNM:Hid (nm=str (nameF (untilB (fieldB bs 10)) (untilB (fieldB bs 0)) true)):=Lib.hid (by rw [hnm,nameF,if_pos (Or.inl rfl)])
        have HV:=HW5;have HKV:=HK5;rw [← hnm] at HV;clear hnm
        go_wp2_with fail
        clear c5 f5;obtain ⟨g3,hg3⟩:∃ g3,g3=w5.heap.size:=⟨_,rfl⟩;obtain ⟨w6,hw6⟩:∃ w6,w6=w5.alloc (.cells #[.int .i64 0,.int .i64 0,.int .i64 0,.int .i64 0,.int .i64 0] 107):=⟨_,rfl⟩;have HA6:Hid (w6.heap[g3]? = some (.cells (arrC bs 0) 107 (0,0))):=Lib.hid (by rw [hw6,hg3];exact heap_alloc_new w5 _)
        have HK6:Hid (Kept noneB w0 w6):=Lib.hid (by rw [hw6];exact HKV.out.alloc _)
        have H26:=Lib.hid (((Kept.refl noneB w5).alloc (.cells #[.int .i64 0,.int .i64 0,.int .i64 0,.int .i64 0,.int .i64 0] 107)).some_ HV.out id);rw [← hw6] at H26
        have HD3:Hid (g≠g3∧g2≠g3∧g3 < w6.heap.size∧g≠g2∧w0.heap.size≤g3):=Lib.hid (by
         have h1:=HKV.out.size;have h2:=HGL.out;have h3:=(Array.getElem?_eq_some_iff.1 HV.out).1;have h4:=(Array.getElem?_eq_some_iff.1 HA6.out).1;have h5:=HG2.out
         omega)
        rw [← hw6,← hg3];clear hw6 hg3;obtain ⟨g4,hg4⟩:∃ g4,g4=w6.heap.size:=⟨_,rfl⟩;have HG4:=Lib.hid hg4;clear hg4;refine wp_region_any (by kernel_rfl) (ref_region2 (w3:=w6) g4 (.slice (some ⟨b,o,none⟩) 512 c) _ _ _ _ _ (show 118≤118 from Nat.le_refl 118) rfl HG4.out (fun w => slice_at b o c 100 108 (by omega) (by omega) hc (by omega) w) (fun w => slice_at b o c 108 116 (by omega) (by omega) hc (by omega) w) (fun w => slice_at b o c 116 124 (by omega) (by omega) hc (by omega) w) (fun w => slice_at b o c 136 148 (by omega) (by omega) hc (by omega) w) (fun w => slice_at b o c 124 136 (by omega) (by omega) hc (by omega) w) (fun w => build5 w _ _ _ _ _ _ _ _ _ _ _ _ _ _ _) ?_)
        intro w7 hw7 hk7;have HP7:Hid (w7.heap[g4]? = some (.cells (plcC b o c) 22 (0,0))):=Lib.hid hw7;have HK7:=Lib.hid (HK6.out.trans hk7);have HA7:=Lib.hid (hk7.some_ HA6.out id);have H27:=Lib.hid (hk7.some_ H26.out id);have HG7:=Lib.hid (HK7.out.some_ HG0.out id);have HD4:Hid (g4≠g3):=Lib.hid (by have h1:=HG4.out;have h2:=HD3.out.2.2.1;omega)
        clear hw7 hk7;simp only [Exit.then]
        apply_assumption
        go_wp2_with fail
        go_loopw [11] (fun i wr => ∃ k:Nat,k≤5∧i=.int .i64 k∧Hid (Kept (oneB g3) w7 wr)∧Hid (wr.heap[g3]? = some (.cells (arrC bs k) 107 (0,0)))∧Hid (∀ j,j < k → okI (parseF (fieldB bs (ordF j)))=true)) (fun i _ => 5 - (RowKit.intOf i).toNat)
        case atStart => exact ⟨0,by omega,rfl,Lib.hid (Kept.refl _ _),HA7,Lib.hid (fun j hj => absurd hj (by omega))⟩
        case round =>
         obtain ⟨k,hk,rfl,hk8,ha8,hall⟩:=hrel
         by_cases hlt:k < 5
         ·have hcell:=cellsAt ha8.out k
          rw [arrC_get bs hlt] at hcell;have hfz:=cellsFrozen ha8.out k;have hpl:=cellsAt (hk8.out.some_ HP7.out HD4.out) k;rw [plcC_get b o c hlt] at hpl;obtain ⟨ho1,ho2,ho3⟩:=ordF_in hlt;obtain ⟨q,hq⟩:∃ q,q=ordF k:=⟨_,rfl⟩;rw [← hq] at hpl ho1 ho2 ho3;have HQ:=Lib.hid hq;clear hq
          go_wp2_with fail
          refine (rfield_any _ _ _ (fieldB bs q) _ (fieldB_length HN.out (by omega)) (by omega) (by unfold maxLen;omega) (sub_bat (BAt.kept (HB0.out.kept HK7.out (fun _ _ _ => id)) hk8.out (fun _ a ha => by
           cases ha
           have h1:=HD3.out.2.2.2.2;intro e;have e:b=g3:=e;have h5:=HA3.out
           omega)) _ _ ho3)).mono ?_
          rintro e w' ⟨rfl,rfl⟩;obtain ⟨hr2,hr1⟩:=refParse_is (fieldB bs q);rw [hr2]
          cases hps:parseF (fieldB bs q) with
          | none =>
            have E:Hid (headR bs=(zeroH,4)):=Lib.hid (headR_num HN.out HPS.out HM9.out (by
             cases h:numsOkB bs with
             | false => rfl
             | true =>
               have h1:=numsOkB_iff.1 h q ho1 ho2;rw [hps] at h1
               cases h1))
            generalize (refParse (fieldB bs q)).1=y;rw [oI_none];have hg8:=hk8.out.some_ HG7.out HD3.out.1;have HG8:=Lib.hid hg8;have c0:=cellsAt hg8;have f0:=cellsFrozen hg8;unfold zeroCs at c0;clear hps hr1 hr2 hcell hfz hpl hg8
            go_wp2
            refine bodyPost_ret (ret_head rfl _ _ g _ rfl rfl ⟨#[]⟩ ⟨#[]⟩ 0 0 0 0 0 0 false (stored9 HG8.out _ _ _ _ _ _ _ _ _)) rfl ?_
            rw [E.out]
            exact ⟨rfl,((HK0.out.trans HK7.out).then hk8.out (fun i hi => Or.inl (by
             have h1:i=g3:=hi;have h2:=HD3.out.2.2.2.2;have h3:=HK0.out.size
             omega))).then (kept9 (Kept.refl (oneB g) _) _ _ _ _ _ _ _ _ _) (fun i hi => Or.inl (by
             have h1:i=g:=hi;rw [h1]
             exact HG.out))⟩
          | some v =>
            rw [hr1 (by rw [hps];rfl),hps,vI_some,oI_some]
            have HV8:Hid (v=valB bs q):=Lib.hid (by rw [valB,hps];rfl)
            have HOK:Hid (okI (parseF (fieldB bs q))=true):=Lib.hid (by rw [hps];rfl)
            clear hps hr1 hr2
            go_wp2
            go_roundw
            case rel =>
             refine ⟨k+1,by omega,by go_num,Lib.hid (hk8.out.setCell (a:=⟨g3,k,none⟩) (Or.inr (show oneB g3 g3 from rfl)) _),Lib.hid ?_,Lib.hid (fun j hj => ?_)⟩
             ·have h1:=cell_set ha8.out k (.int .i64 v)
              rw [HV8.out,HQ.out,arrC_set bs hlt] at h1;rw [HV8.out,HQ.out];exact h1
             ·rcases Nat.lt_or_ge j k with h1 | h1
              ·exact hall.out j h1
              ·obtain rfl:j=k:=by omega
               rw [← HQ.out];exact HOK.out
            case measure => simp [RowKit.intOf];omega
         ·obtain rfl:k=5:=by omega
          have HT:Hid (headR bs=(theHead bs,0)):=Lib.hid (headR_ok HN.out HPS.out HM9.out (numsOkB_iff.2 (ordF_all fun j hj => hall.out j hj)))
          have ha5:_=some (Obj.cells #[.int .i64 (valB bs 1),.int .i64 (valB bs 2),.int .i64 (valB bs 3),.int .i64 (valB bs 5),.int .i64 (valB bs 4)] 107 (0,0)):=ha8.out;have ca:=cellsAt ha5;have h28:=hk8.out.some_ H27.out HD3.out.2.1;have c2:=cellsAt h28;have f2:=cellsFrozen h28;have hg8:=hk8.out.some_ HG7.out HD3.out.1;have HG8:=Lib.hid hg8;have c0:=cellsAt hg8;have f0:=cellsFrozen hg8;unfold zeroCs at c0;have hn1:¬ g2=g3:=HD3.out.2.1;have hn2:¬ g3=g2:=fun e => hn1 e.symm
          have hn3:¬ g=g2:=HD3.out.2.2.2.1;have hn4:¬ g2=g:=fun e => hn3 e.symm
          have HFIN:Hid (headA (headR bs)=.tuple #[.agg #[.string nm,.string (str (untilB (fieldB bs 8))),.int .u8 48,.int .i64 (valB bs 1),.int .i64 (valB bs 2),.int .i64 (valB bs 3),.int .i64 (valB bs 5),.int .i64 (valB bs 4),.bool true],.int .i64 0]):=Lib.hid (by
           rw [HT.out];simp only [headA,headC,theHead,HMF.out]
           rw [HKB.out,HNM.out])
          go_wp2
          refine bodyPost_ret (ret_head rfl _ _ g _ rfl rfl _ _ _ _ _ _ _ _ _ (stored9 ((kept5 (Kept.refl (oneB g2) _) _ _ _ _ _).some_ HG8.out hn3) _ _ _ _ _ _ _ _ _)) rfl ?_
          rw [HFIN.out]
          exact ⟨rfl,(((HK0.out.trans HK7.out).then hk8.out (fun i hi => Or.inl (by
           have h1:i=g3:=hi;have h2:=HD3.out.2.2.2.2;have h3:=HK0.out.size
           omega))).then (kept5 (Kept.refl (oneB g2) _) _ _ _ _ _) (fun i hi => Or.inl (by
           have h1:i=g2:=hi;have h2:=HG2.out;have h3:=HK0.out.size
           omega))).then (kept9 (Kept.refl (oneB g) _) _ _ _ _ _ _ _ _ _) (fun i hi => Or.inl (by
           have h1:i=g:=hi;rw [h1]
           exact HG.out))⟩
       ·have hkz:(x == 0)=false:=by simpa using hK0
        have HKB:Hid (((kindB bs).toNat:Int)=x):=Lib.hid (by
         rw [kindB,fieldB_get bs 7 0 (by decide),show atF 7+0=156 from rfl,if_neg (show ¬ bs.getD 156 0=0 from fun e => hK0 (by rw [HKD.out,e];rfl)),HKD.out])
        have c4:=cellsAt hw4;have f4:=cellsFrozen hw4;have HW5:=Lib.hid hw4;have HK5:=Lib.hid hk4;clear hk4 hw4
        go_wp2_with fail
        clear c4 f4 hkz;have f10:BAt w4 (some ⟨b,o+345,none⟩) 155 (fieldB bs 10):=sub_bat (HB0.out.kept HK5.out (fun _ _ _ => id)) 345 155 (by omega)
        refine (until_any _ 155 (c - 345) (fieldB bs 10) w4 (fieldB_length HN.out (by omega)) (by omega) (by omega) f10).mono ?_
        rintro e w' ⟨rfl,rfl⟩;have c5:=cellsAt HW5.out;have f5:=cellsFrozen HW5.out;clear f10;obtain ⟨nm,hnm⟩:∃ nm,nm=str (untilB (fieldB bs 0)):=⟨_,rfl⟩;have HNM:Hid (nm=str (nameF (untilB (fieldB bs 10)) (untilB (fieldB bs 0)) true)):=Lib.hid (by rw [hnm,nameF,if_pos (Or.inl rfl)])
        have HV:=HW5;have HKV:=HK5;rw [← hnm] at HV;clear hnm
        go_wp2_with fail
        clear c5 f5;obtain ⟨g3,hg3⟩:∃ g3,g3=w4.heap.size:=⟨_,rfl⟩;obtain ⟨w6,hw6⟩:∃ w6,w6=w4.alloc (.cells #[.int .i64 0,.int .i64 0,.int .i64 0,.int .i64 0,.int .i64 0] 107):=⟨_,rfl⟩;have HA6:Hid (w6.heap[g3]? = some (.cells (arrC bs 0) 107 (0,0))):=Lib.hid (by rw [hw6,hg3];exact heap_alloc_new w4 _)
        have HK6:Hid (Kept noneB w0 w6):=Lib.hid (by rw [hw6];exact HKV.out.alloc _)
        have H26:=Lib.hid (((Kept.refl noneB w4).alloc (.cells #[.int .i64 0,.int .i64 0,.int .i64 0,.int .i64 0,.int .i64 0] 107)).some_ HV.out id);rw [← hw6] at H26
        have HD3:Hid (g≠g3∧g2≠g3∧g3 < w6.heap.size∧g≠g2∧w0.heap.size≤g3):=Lib.hid (by
         have h1:=HKV.out.size;have h2:=HGL.out;have h3:=(Array.getElem?_eq_some_iff.1 HV.out).1;have h4:=(Array.getElem?_eq_some_iff.1 HA6.out).1;have h5:=HG2.out
         omega)
        rw [← hw6,← hg3];clear hw6 hg3;obtain ⟨g4,hg4⟩:∃ g4,g4=w6.heap.size:=⟨_,rfl⟩;have HG4:=Lib.hid hg4;clear hg4;refine wp_region_any (by kernel_rfl) (ref_region2 (w3:=w6) g4 (.slice (some ⟨b,o,none⟩) 512 c) _ _ _ _ _ (show 118≤118 from Nat.le_refl 118) rfl HG4.out (fun w => slice_at b o c 100 108 (by omega) (by omega) hc (by omega) w) (fun w => slice_at b o c 108 116 (by omega) (by omega) hc (by omega) w) (fun w => slice_at b o c 116 124 (by omega) (by omega) hc (by omega) w) (fun w => slice_at b o c 136 148 (by omega) (by omega) hc (by omega) w) (fun w => slice_at b o c 124 136 (by omega) (by omega) hc (by omega) w) (fun w => build5 w _ _ _ _ _ _ _ _ _ _ _ _ _ _ _) ?_)
        intro w7 hw7 hk7;have HP7:Hid (w7.heap[g4]? = some (.cells (plcC b o c) 22 (0,0))):=Lib.hid hw7;have HK7:=Lib.hid (HK6.out.trans hk7);have HA7:=Lib.hid (hk7.some_ HA6.out id);have H27:=Lib.hid (hk7.some_ H26.out id);have HG7:=Lib.hid (HK7.out.some_ HG0.out id);have HD4:Hid (g4≠g3):=Lib.hid (by have h1:=HG4.out;have h2:=HD3.out.2.2.1;omega)
        clear hw7 hk7;simp only [Exit.then]
        apply_assumption
        go_wp2_with fail
        go_loopw [11] (fun i wr => ∃ k:Nat,k≤5∧i=.int .i64 k∧Hid (Kept (oneB g3) w7 wr)∧Hid (wr.heap[g3]? = some (.cells (arrC bs k) 107 (0,0)))∧Hid (∀ j,j < k → okI (parseF (fieldB bs (ordF j)))=true)) (fun i _ => 5 - (RowKit.intOf i).toNat)
        case atStart => exact ⟨0,by omega,rfl,Lib.hid (Kept.refl _ _),HA7,Lib.hid (fun j hj => absurd hj (by omega))⟩
        case round =>
         obtain ⟨k,hk,rfl,hk8,ha8,hall⟩:=hrel
         by_cases hlt:k < 5
         ·have hcell:=cellsAt ha8.out k
          rw [arrC_get bs hlt] at hcell;have hfz:=cellsFrozen ha8.out k;have hpl:=cellsAt (hk8.out.some_ HP7.out HD4.out) k;rw [plcC_get b o c hlt] at hpl;obtain ⟨ho1,ho2,ho3⟩:=ordF_in hlt;obtain ⟨q,hq⟩:∃ q,q=ordF k:=⟨_,rfl⟩;rw [← hq] at hpl ho1 ho2 ho3;have HQ:=Lib.hid hq;clear hq
          go_wp2_with fail
          refine (rfield_any _ _ _ (fieldB bs q) _ (fieldB_length HN.out (by omega)) (by omega) (by unfold maxLen;omega) (sub_bat (BAt.kept (HB0.out.kept HK7.out (fun _ _ _ => id)) hk8.out (fun _ a ha => by
           cases ha
           have h1:=HD3.out.2.2.2.2;intro e;have e:b=g3:=e;have h5:=HA3.out
           omega)) _ _ ho3)).mono ?_
          rintro e w' ⟨rfl,rfl⟩;obtain ⟨hr2,hr1⟩:=refParse_is (fieldB bs q);rw [hr2]
          cases hps:parseF (fieldB bs q) with
          | none =>
            have E:Hid (headR bs=(zeroH,4)):=Lib.hid (headR_num HN.out HPS.out HM9.out (by
             cases h:numsOkB bs with
             | false => rfl
             | true =>
               have h1:=numsOkB_iff.1 h q ho1 ho2;rw [hps] at h1
               cases h1))
            generalize (refParse (fieldB bs q)).1=y;rw [oI_none];have hg8:=hk8.out.some_ HG7.out HD3.out.1;have HG8:=Lib.hid hg8;have c0:=cellsAt hg8;have f0:=cellsFrozen hg8;unfold zeroCs at c0;clear hps hr1 hr2 hcell hfz hpl hg8
            go_wp2
            refine bodyPost_ret (ret_head rfl _ _ g _ rfl rfl ⟨#[]⟩ ⟨#[]⟩ 0 0 0 0 0 0 false (stored9 HG8.out _ _ _ _ _ _ _ _ _)) rfl ?_
            rw [E.out]
            exact ⟨rfl,((HK0.out.trans HK7.out).then hk8.out (fun i hi => Or.inl (by
             have h1:i=g3:=hi;have h2:=HD3.out.2.2.2.2;have h3:=HK0.out.size
             omega))).then (kept9 (Kept.refl (oneB g) _) _ _ _ _ _ _ _ _ _) (fun i hi => Or.inl (by
             have h1:i=g:=hi;rw [h1]
             exact HG.out))⟩
          | some v =>
            rw [hr1 (by rw [hps];rfl),hps,vI_some,oI_some]
            have HV8:Hid (v=valB bs q):=Lib.hid (by rw [valB,hps];rfl)
            have HOK:Hid (okI (parseF (fieldB bs q))=true):=Lib.hid (by rw [hps];rfl)
            clear hps hr1 hr2
            go_wp2
            go_roundw
            case rel =>
             refine ⟨k+1,by omega,by go_num,Lib.hid (hk8.out.setCell (a:=⟨g3,k,none⟩) (Or.inr (show oneB g3 g3 from rfl)) _),Lib.hid ?_,Lib.hid (fun j hj => ?_)⟩
             ·have h1:=cell_set ha8.out k (.int .i64 v)
              rw [HV8.out,HQ.out,arrC_set bs hlt] at h1;rw [HV8.out,HQ.out];exact h1
             ·rcases Nat.lt_or_ge j k with h1 | h1
              ·exact hall.out j h1
              ·obtain rfl:j=k:=by omega
               rw [← HQ.out];exact HOK.out
            case measure => simp [RowKit.intOf];omega
         ·obtain rfl:k=5:=by omega
          have HT:Hid (headR bs=(theHead bs,0)):=Lib.hid (headR_ok HN.out HPS.out HM9.out (numsOkB_iff.2 (ordF_all fun j hj => hall.out j hj)))
          have ha5:_=some (Obj.cells #[.int .i64 (valB bs 1),.int .i64 (valB bs 2),.int .i64 (valB bs 3),.int .i64 (valB bs 5),.int .i64 (valB bs 4)] 107 (0,0)):=ha8.out;have ca:=cellsAt ha5;have h28:=hk8.out.some_ H27.out HD3.out.2.1;have c2:=cellsAt h28;have f2:=cellsFrozen h28;have hg8:=hk8.out.some_ HG7.out HD3.out.1;have HG8:=Lib.hid hg8;have c0:=cellsAt hg8;have f0:=cellsFrozen hg8;unfold zeroCs at c0;have hn1:¬ g2=g3:=HD3.out.2.1;have hn2:¬ g3=g2:=fun e => hn1 e.symm
          have hn3:¬ g=g2:=HD3.out.2.2.2.1;have hn4:¬ g2=g:=fun e => hn3 e.symm
          have HFIN:Hid (headA (headR bs)=.tuple #[.agg #[.string nm,.string (str (untilB (fieldB bs 8))),.int .u8 x,.int .i64 (valB bs 1),.int .i64 (valB bs 2),.int .i64 (valB bs 3),.int .i64 (valB bs 5),.int .i64 (valB bs 4),.bool true],.int .i64 0]):=Lib.hid (by
           rw [HT.out];simp only [headA,headC,theHead,HMF.out]
           rw [HKB.out,HNM.out])
          go_wp2
          refine bodyPost_ret (ret_head rfl _ _ g _ rfl rfl _ _ _ _ _ _ _ _ _ (stored9 ((kept5 (Kept.refl (oneB g2) _) _ _ _ _ _).some_ HG8.out hn3) _ _ _ _ _ _ _ _ _)) rfl ?_
          rw [HFIN.out]
          exact ⟨rfl,(((HK0.out.trans HK7.out).then hk8.out (fun i hi => Or.inl (by
           have h1:i=g3:=hi;have h2:=HD3.out.2.2.2.2;have h3:=HK0.out.size
           omega))).then (kept5 (Kept.refl (oneB g2) _) _ _ _ _ _) (fun i hi => Or.inl (by
           have h1:i=g2:=hi;have h2:=HG2.out;have h3:=HK0.out.size
           omega))).then (kept9 (Kept.refl (oneB g) _) _ _ _ _ _ _ _ _ _) (fun i hi => Or.inl (by
           have h1:i=g:=hi;rw [h1]
           exact HG.out))⟩
      ·have E:Hid (headR bs=(zeroH,9)):=Lib.hid (headR_text HN.out HPS.out ⟨hu,hgn⟩)
       have q1:((str (fieldB bs 9)).toList == [117,115,116,97,114,0,48,48])=false:=by rw [str_toList];exact beq_eq_false_iff_ne.2 hu
       have q2:((str (fieldB bs 9)).toList == [117,115,116,97,114,32,32,0])=false:=by rw [str_toList];exact beq_eq_false_iff_ne.2 hgn
       have c0:=cellsAt HG0.out;have f0:=cellsFrozen HG0.out;unfold zeroCs at c0;clear hu hgn
       go_wp2
       refine bodyPost_ret (ret_head rfl _ _ g _ rfl rfl ⟨#[]⟩ ⟨#[]⟩ 0 0 0 0 0 0 false (stored9 HG0.out _ _ _ _ _ _ _ _ _)) rfl ?_
       rw [E.out]
       exact ⟨rfl,HK0.out.then (kept9 (Kept.refl (oneB g) _) _ _ _ _ _ _ _ _ _) (fun i hi => Or.inl (by
        have h1:i=g:=hi;rw [h1]
        exact HG.out))⟩
    ·have E:Hid (headR bs=(zeroH,3)):=Lib.hid (headR_sum HN.out (by
      rw [HPS0.out,← HX.out];intro e
      exact hsX (Option.some.inj e)))
     have c0:=cellsAt HG0.out;have f0:=cellsFrozen HG0.out;unfold zeroCs at c0
     go_wp2_with fail
     refine (rsum_any (some ⟨b,o,none⟩) 512 c bs w0 (by omega) HB0.out).mono ?_
     rintro e w' ⟨rfl,rfl⟩;rw [← HX.out];have hbX:(sm == (X:Int))=false:=by simpa using hsX
     go_wp2
     refine bodyPost_ret (ret_head rfl _ _ g _ rfl rfl ⟨#[]⟩ ⟨#[]⟩ 0 0 0 0 0 0 false (stored9 HG0.out _ _ _ _ _ _ _ _ _)) rfl ?_
     rw [E.out]
     exact ⟨rfl,HK0.out.then (kept9 (Kept.refl (oneB g) _) _ _ _ _ _ _ _ _ _) (fun i hi => Or.inl (by
      have h1:i=g:=hi;rw [h1]
      exact HG.out))⟩
 ·have E:Hid (headR bs=(zeroH,1)):=Lib.hid (headR_arg (by rw [HN.out];exact h512))
  have hb:((n:Int) == 512)=false:=by simp;omega
  have hk0:Kept noneB w (w.alloc (.cells #[.string ⟨#[]⟩,.string ⟨#[]⟩,.int .u8 0,.int .i64 0,.int .i64 0,.int .i64 0,.int .i64 0,.int .i64 0,.bool false] 57)):=(Kept.refl noneB w).alloc _;have HK0:=Lib.hid hk0;clear hk0
  go_enter Tryz.func33,Tryz.ntmps33
  go_wp2
  refine bodyPost_ret (ret_head rfl _ _ w.heap.size _ rfl rfl ⟨#[]⟩ ⟨#[]⟩ 0 0 0 0 0 0 false (heap_alloc_new _ _)) rfl ?_
  rw [E.out];exact ⟨rfl,HK0.out⟩
end Go.Proofs.YtdjedimjhogdoaaGreatDoor.Head
end
section
namespace Go.Proofs.YtdjedimjhogdoaaGreatDoor.Head
open Go.ChangeShapes Go.WideShapes Go.ChangeAt Go.RowKit Base Byt Txt Hp Go.Proofs.YtdjedimjhogdoaaGreatDoor.Mp Fp Go.Proofs.YtdjedimjhogdoaaGreatDoor.Field Go.Lib
set_option linter.unusedVariables false
set_option maxRecDepth 100000
def PutS (r:Option (List Int)) (v:Value) (y:Bool) (w:World):Prop:=
 (∃ l p c,r=some l∧y=true∧v=.slice p l.length c∧l.length≤c∧BAt w p l.length (bytesOf l)) ∨ (r=none∧y=false∧v=.slice none 0 0)
theorem rput_s (n wide:Int) (w:World) (w0:(Lit.int .i64 n).wf=true) (w1:(Lit.int .i64 wide).wf=true) :
 Calls Tryz.prog 46 #[.int .i64 n,.int .i64 wide] w fun e w' => ∃ v y,e=.returned (.tuple #[v,.bool y])∧PutS (putF n wide) v y w'∧Kept noneB w w':=by
 refine (rput_any n wide w w0 w1).mono ?_
 rintro e w' ⟨hb,(⟨l,v,hl,rfl,hown⟩ | ⟨hl,rfl⟩)⟩
 ·obtain ⟨p,c,rfl,hc,_,hbat,_⟩:=bat_of_own hown (putF_bd hl)
  exact ⟨_,true,rfl,Or.inl ⟨l,p,c,hl,rfl,rfl,hc,hbat⟩,Kept.of_below hb _⟩
 ·exact ⟨_,false,rfl,Or.inr ⟨hl,rfl,rfl⟩,Kept.of_below hb _⟩
noncomputable def rputOps:Array Oper:=regionAt Tryz.f26 18
def pV2 (A C:Value) (k:Int) (pa pc:Addr) (x z:Int) (vy:Value × Bool):Nat → Value
 | 0 => A | 1 => .int .i64 k | 2 => .pointer (some pa) | 3 => .int .i64 x | 4 => C | 5 => .int .i64 k | 6 => .pointer (some pc) | 7 => .int .i64 z | 8 => .tuple #[vy.1,.bool vy.2] | 9 => .tuple #[vy.1,.bool vy.2] | 10 => vy.1 | 11 => .bool vy.2 | 12 => vy.1 | 13 => .bool vy.2 | _ => undef
theorem rput_size:rputOps.size=14:=rfl
theorem rput_apart:apartG rputOps 152=true:=by kernel_rfl
theorem tdst0:dstAt rputOps 0=some 95:=rfl
theorem top0:∃ o,rputOps[0]? = some o∧o.op=.move (.tmp 10)∧o.dst=some 95:=⟨_,rfl,rfl,rfl⟩
theorem tdst1:dstAt rputOps 1=some 96:=rfl
theorem top1:∃ o,rputOps[1]? = some o∧o.op=.move (.tmp 13)∧o.dst=some 96:=⟨_,rfl,rfl,rfl⟩
theorem tdst2:dstAt rputOps 2=some 97:=rfl
theorem top2:∃ o,rputOps[2]? = some o∧o.op=.indexAddr 23 (.tmp 95) (.tmp 96)∧o.dst=some 97:=⟨_,rfl,rfl,rfl⟩
theorem tdst3:dstAt rputOps 3=some 98:=rfl
theorem top3:∃ o,rputOps[3]? = some o∧o.op=.load 3 (.tmp 97)∧o.dst=some 98:=⟨_,rfl,rfl,rfl⟩
theorem tdst4:dstAt rputOps 4=some 99:=rfl
theorem top4:∃ o,rputOps[4]? = some o∧o.op=.move (.tmp 12)∧o.dst=some 99:=⟨_,rfl,rfl,rfl⟩
theorem tdst5:dstAt rputOps 5=some 100:=rfl
theorem top5:∃ o,rputOps[5]? = some o∧o.op=.move (.tmp 13)∧o.dst=some 100:=⟨_,rfl,rfl,rfl⟩
theorem tdst6:dstAt rputOps 6=some 101:=rfl
theorem top6:∃ o,rputOps[6]? = some o∧o.op=.indexAddr 23 (.tmp 99) (.tmp 100)∧o.dst=some 101:=⟨_,rfl,rfl,rfl⟩
theorem tdst7:dstAt rputOps 7=some 102:=rfl
theorem top7:∃ o,rputOps[7]? = some o∧o.op=.load 3 (.tmp 101)∧o.dst=some 102:=⟨_,rfl,rfl,rfl⟩
theorem tdst8:dstAt rputOps 8=some 103:=rfl
theorem top8:∃ o,rputOps[8]? = some o∧o.op=.call { callee:=.value (.func 46),args:=#[.tmp 98,.tmp 102],argTypes:=#[3,3] }∧o.dst=some 103:=⟨_,rfl,rfl,rfl⟩
theorem tdst9:dstAt rputOps 9=some 94:=rfl
theorem top9:∃ o,rputOps[9]? = some o∧o.op=.move (.tmp 103)∧o.dst=some 94:=⟨_,rfl,rfl,rfl⟩
theorem tdst10:dstAt rputOps 10=some 104:=rfl
theorem top10:∃ o,rputOps[10]? = some o∧o.op=.extract (.tmp 94) 0∧o.dst=some 104:=⟨_,rfl,rfl,rfl⟩
theorem tdst11:dstAt rputOps 11=some 105:=rfl
theorem top11:∃ o,rputOps[11]? = some o∧o.op=.extract (.tmp 94) 1∧o.dst=some 105:=⟨_,rfl,rfl,rfl⟩
theorem tdst12:dstAt rputOps 12=some 14:=rfl
theorem top12:∃ o,rputOps[12]? = some o∧o.op=.assign (.tmp 104)∧o.dst=some 14:=⟨_,rfl,rfl,rfl⟩
theorem tdst13:dstAt rputOps 13=some 15:=rfl
theorem top13:∃ o,rputOps[13]? = some o∧o.op=.assign (.tmp 105)∧o.dst=some 15:=⟨_,rfl,rfl,rfl⟩
theorem rput_behind:∀ j,8 < j → j < 14 → hasDep rputOps j 8=true ∨ hasDep rputOps j 9=true ∨ hasDep rputOps j 10=true ∨ hasDep rputOps j 11=true:=by
 intro j h1 h2;rcases (show j=9 ∨ j=10 ∨ j=11 ∨ j=12 ∨ j=13 by omega) with rfl | rfl | rfl | rfl | rfl
 ·exact Or.inl (by kernel_rfl)
 ·exact Or.inr (Or.inl (by kernel_rfl))
 ·exact Or.inr (Or.inl (by kernel_rfl))
 ·exact Or.inr (Or.inr (Or.inl (by kernel_rfl)))
 ·exact Or.inr (Or.inr (Or.inr (by kernel_rfl)))
set_option maxHeartbeats 1000000 in
theorem rput_region {Q':Exit → Act → World → Prop} {a0:Act} {w3:World} (A C:Value) (k:Int) (pa pc:Addr) (x z:Int) (R:Value → Bool → World → Prop)
 (hsz:152≤a0.tmps.size) (h10:a0.eval (.tmp 10)=A) (h12:a0.eval (.tmp 12)=C) (h13:a0.eval (.tmp 13)=.int .i64 k)
 (hia:∀ w,(Instr.indexAt 23 A (.int .i64 k)).run Tryz.prog w=.ok (.pointer (some pa)) w)
 (hic:∀ w,(Instr.indexAt 23 C (.int .i64 k)).run Tryz.prog w=.ok (.pointer (some pc)) w)
 (hla:∀ w,Kept noneB w3 w → (Instr.loadAt 3 (.pointer (some pa))).run Tryz.prog w=.ok (.int .i64 x) w)
 (hlc:∀ w,Kept noneB w3 w → (Instr.loadAt 3 (.pointer (some pc))).run Tryz.prog w=.ok (.int .i64 z) w)
 (hcall:∀ w,Kept noneB w3 w → Calls Tryz.prog 46 #[.int .i64 x,.int .i64 z] w fun e w' => ∃ v y,e=.returned (.tuple #[v,.bool y])∧R v y w'∧Kept noneB w w')
 (hQ:∀ v y w',R v y w' → Kept noneB w3 w' → Q' .normal ((((((((((((((a0.put (some 95) (A)).put (some 96) (.int .i64 k)).put (some 97) (.pointer (some pa))).put (some 98) (.int .i64 x)).put (some 99) (C)).put (some 100) (.int .i64 k)).put (some 101) (.pointer (some pc))).put (some 102) (.int .i64 z)).put (some 103) (.tuple #[v,.bool y])).put (some 94) (.tuple #[v,.bool y])).put (some 104) (v)).put (some 105) (.bool y)).put (some 14) (v)).put (some 15) (.bool y)) w') :
 wpAny Tryz.prog .any rputOps Q' rputOps.size (Array.replicate rputOps.size false) a0 w3.drew:=by
 have no:∀ j,(Array.replicate rputOps.size false).getD j false=false:=fun j => by
  rw [Array.getD_eq_getD_getElem?,Array.getElem?_replicate]
  split<;>rfl
 refine wpAny_ghost (Γ:=Value × Bool) (pV2 A C k pa pc x z) (undef,false) a0 (fun vy listed w => Kept noneB w3 w∧(listed.getD 8 false=true → R vy.1 vy.2 w)∧(∀ j,8 < j → j < 14 → listed.getD j false=true → listed.getD 8 false=true)) 152 rput_apart hsz ?_ ?_
  ⟨(Kept.refl _ w3).drew,fun h => (by rw [no] at h;cases h),fun j _ _ h => (by rw [no] at h;cases h)⟩
 ·intro vy listed a w j o h ho hun hdep
  have hlt:=lt_of_unlisted hun;obtain ⟨hk,hh1,hh2⟩:=h.wd
  have hj14:j < 14:=by
   have:=(Array.getElem?_eq_some_iff.1 ho).1
   rwa [rput_size] at this
  have keep:j≠8 → ∃ γ',(∀ i,listed.getD i false=true → pV2 A C k pa pc x z γ' i=pV2 A C k pa pc x z vy i)∧a.put o.dst (pV2 A C k pa pc x z vy j)=a.put o.dst (pV2 A C k pa pc x z γ' j)∧(Kept noneB w3 w∧((listed.setIfInBounds j true).getD 8 false=true → R γ'.1 γ'.2 w)∧(∀ j',8 < j' → j' < 14 → (listed.setIfInBounds j true).getD j' false=true → (listed.setIfInBounds j true).getD 8 false=true)):=fun hj => by
   refine ⟨vy,fun _ _ => rfl,rfl,hk,?_,fun j' h1 h2 h3 => ?_⟩
   ·rw [listed_get hlt,if_neg (Ne.symm hj)]
    exact hh1
   ·rw [listed_get hlt,if_neg (Ne.symm hj)]
    rw [listed_get hlt] at h3
    by_cases hjj:j'=j
    ·subst hjj
     rcases rput_behind j' h1 h2 with hd | hd | hd | hd
     ·exact dep_listed ho hdep hd
     ·exact hh2 9 (by omega) (by omega) (dep_listed ho hdep hd)
     ·exact hh2 10 (by omega) (by omega) (dep_listed ho hdep hd)
     ·exact hh2 11 (by omega) (by omega) (dep_listed ho hdep hd)
    ·rw [if_neg hjj] at h3
     exact hh2 j' h1 h2 h3
  have same:∀ {j':Nat} {o':Oper},rputOps[j']? = some o' → j=j' → o'=o:=fun {j' o'} h' e => by subst e;exact Option.some.inj (h'.symm.trans ho)
  rcases (show j=0 ∨ j=1 ∨ j=2 ∨ j=3 ∨ j=4 ∨ j=5 ∨ j=6 ∨ j=7 ∨ j=8 ∨ j=9 ∨ j=10 ∨ j=11 ∨ j=12 ∨ j=13 by omega) with rfl | rfl | rfl | rfl | rfl | rfl | rfl | rfl | rfl | rfl | rfl | rfl | rfl | rfl
  ·obtain ⟨o',ho',hop,hdst⟩:=top0
   obtain rfl:=same ho' rfl;exact wp_move _ _ (Or.inl hop) ((h.old (t:=10) (by kernel_rfl)).trans h10) (keep (by decide))
  ·obtain ⟨o',ho',hop,hdst⟩:=top1
   obtain rfl:=same ho' rfl;exact wp_move _ _ (Or.inl hop) ((h.old (t:=13) (by kernel_rfl)).trans h13) (keep (by decide))
  ·obtain ⟨o',ho',hop,hdst⟩:=top2
   obtain rfl:=same ho' rfl;have e0:a.eval (.tmp 95)=A:=(h.get ho hdep (i:=0) (d:=95) (by kernel_rfl) rfl)
   have e1:a.eval (.tmp 96)=.int .i64 k:=(h.get ho hdep (i:=1) (d:=96) (by kernel_rfl) rfl)
   refine wp_run _ ?_ (keep (by decide))
   have q:=hia w;simp [execOp,hop,e0,e1,q,Result.andThen,pV2]
  ·obtain ⟨o',ho',hop,hdst⟩:=top3
   obtain rfl:=same ho' rfl;have e:a.eval (.tmp 97)=.pointer (some pa):=(h.get ho hdep (i:=2) (d:=97) (by kernel_rfl) rfl)
   refine wp_run _ ?_ (keep (by decide))
   have q:=hla w hk;simp [execOp,hop,e,q,Result.andThen,pV2]
  ·obtain ⟨o',ho',hop,hdst⟩:=top4
   obtain rfl:=same ho' rfl;exact wp_move _ _ (Or.inl hop) ((h.old (t:=12) (by kernel_rfl)).trans h12) (keep (by decide))
  ·obtain ⟨o',ho',hop,hdst⟩:=top5
   obtain rfl:=same ho' rfl;exact wp_move _ _ (Or.inl hop) ((h.old (t:=13) (by kernel_rfl)).trans h13) (keep (by decide))
  ·obtain ⟨o',ho',hop,hdst⟩:=top6
   obtain rfl:=same ho' rfl;have e0:a.eval (.tmp 99)=C:=(h.get ho hdep (i:=4) (d:=99) (by kernel_rfl) rfl)
   have e1:a.eval (.tmp 100)=.int .i64 k:=(h.get ho hdep (i:=5) (d:=100) (by kernel_rfl) rfl)
   refine wp_run _ ?_ (keep (by decide))
   have q:=hic w;simp [execOp,hop,e0,e1,q,Result.andThen,pV2]
  ·obtain ⟨o',ho',hop,hdst⟩:=top7
   obtain rfl:=same ho' rfl;have e:a.eval (.tmp 101)=.pointer (some pc):=(h.get ho hdep (i:=6) (d:=101) (by kernel_rfl) rfl)
   refine wp_run _ ?_ (keep (by decide))
   have q:=hlc w hk;simp [execOp,hop,e,q,Result.andThen,pV2]
  ·obtain ⟨o',ho',hop,hdst⟩:=top8
   obtain rfl:=same ho' rfl;have e0:a.eval (.tmp 98)=.int .i64 x:=(h.get ho hdep (i:=3) (d:=98) (by kernel_rfl) rfl)
   have e1:a.eval (.tmp 102)=.int .i64 z:=(h.get ho hdep (i:=7) (d:=102) (by kernel_rfl) rfl)
   have hno:∀ j',8 < j' → j' < 14 → listed.getD j' false=true → False:=fun j' h1 h2 h3 => by
    have h4:=hh2 j' h1 h2 h3;rw [getD_flip hun] at h4
    cases h4
   refine wp_callE _ _ _ hop #[.int .i64 x,.int .i64 z] (by simp [e0,e1]) (enters_of Tryz.func46 (by kernel_rfl) rfl) (fun v w' => ∃ u y,v=.tuple #[u,.bool y]∧R u y w'∧Kept noneB w w') ((hcall w hk).mono fun e w' ⟨u,y,he,hr,hk'⟩ => ⟨_,he,u,y,rfl,hr,hk'⟩) (fun v w' ⟨u,y,hv,hr,hk'⟩ => ⟨(u,y),fun i hi => ?_,by rw [hv];rfl,hk.trans hk',fun _ => hr,fun j' h1 h2 h3 => by rw [listed_get hlt,if_pos rfl]⟩)
   have hi8:i < 8:=by
    rcases Nat.lt_trichotomy i 8 with h1 | h1 | h1
    ·exact h1
    ·rw [h1,getD_flip hun] at hi;cases hi
    ·by_cases h2:i < 14
     ·exact (hno i h1 h2 hi).elim
     ·exfalso
      have hs:=h.ls;rw [rput_size] at hs;rw [Array.getD_eq_getD_getElem?,Array.getElem?_eq_none (by omega)] at hi
      cases hi
   rcases (show i=0 ∨ i=1 ∨ i=2 ∨ i=3 ∨ i=4 ∨ i=5 ∨ i=6 ∨ i=7 by omega) with rfl | rfl | rfl | rfl | rfl | rfl | rfl | rfl<;>rfl
  ·obtain ⟨o',ho',hop,hdst⟩:=top9
   obtain rfl:=same ho' rfl;have e:a.eval (.tmp 103)=.tuple #[vy.1,.bool vy.2]:=(h.get ho hdep (i:=8) (d:=103) (by kernel_rfl) rfl)
   exact wp_move _ _ (Or.inl hop) e (keep (by decide))
  ·obtain ⟨o',ho',hop,hdst⟩:=top10
   obtain rfl:=same ho' rfl;have e:a.eval (.tmp 94)=.tuple #[vy.1,.bool vy.2]:=(h.get ho hdep (i:=9) (d:=94) (by kernel_rfl) rfl)
   refine wp_run _ ?_ (keep (by decide))
   generalize a.eval=ev at e ⊢;simp [go_sem,execOp,hop,e,pV2]
  ·obtain ⟨o',ho',hop,hdst⟩:=top11
   obtain rfl:=same ho' rfl;have e:a.eval (.tmp 94)=.tuple #[vy.1,.bool vy.2]:=(h.get ho hdep (i:=9) (d:=94) (by kernel_rfl) rfl)
   refine wp_run _ ?_ (keep (by decide))
   generalize a.eval=ev at e ⊢;simp [go_sem,execOp,hop,e,pV2]
  ·obtain ⟨o',ho',hop,hdst⟩:=top12
   obtain rfl:=same ho' rfl;have e:a.eval (.tmp 104)=vy.1:=(h.get ho hdep (i:=10) (d:=104) (by kernel_rfl) rfl)
   exact wp_move _ _ (Or.inr hop) e (keep (by decide))
  ·obtain ⟨o',ho',hop,hdst⟩:=top13
   obtain rfl:=same ho' rfl;have e:a.eval (.tmp 105)=.bool vy.2:=(h.get ho hdep (i:=11) (d:=105) (by kernel_rfl) rfl)
   exact wp_move _ _ (Or.inr hop) e (keep (by decide))
 ·intro vy listed a w h hall
  obtain ⟨v,y⟩:=vy;obtain ⟨hk,hh,_⟩:=h.wd;have hR:=hh (hall 8 (by rw [rput_size];omega))
  rw [done_putAllG 152 rput_apart hsz h hall,rput_size];simp only [putAll,tdst0,tdst1,tdst2,tdst3,tdst4,tdst5,tdst6,tdst7,tdst8,tdst9,tdst10,tdst11,tdst12,tdst13];exact hQ v y w hR hk
end Go.Proofs.YtdjedimjhogdoaaGreatDoor.Head
end
