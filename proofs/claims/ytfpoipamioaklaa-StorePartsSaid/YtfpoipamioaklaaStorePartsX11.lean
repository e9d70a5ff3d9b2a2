/- Texts of this seat, merged: what the proof reaches. -/
import Derived.Test.YtfpoipamioaklaaStorePartsX10
import Derived.Test.YtfpoipamioaklaaStorePartsX8
import Derived.Lib.SlBytesConst
import Derived.Deep.DeepCutAuto
import Derived.Test.YtfpoipamioaklaaStorePartsX6
namespace Go.Proofs.Ytfpoipamioaklaa
namespace Base
end Base
namespace Bk
end Bk
namespace Block
end Block
namespace Byt
end Byt
namespace Sto
end Sto
namespace Txt
end Txt
end Go.Proofs.Ytfpoipamioaklaa
section
namespace Go.Proofs.Ytfpoipamioaklaa.Sto
open Go.ChangeShapes Go.WideShapes Go.ChangeAt Go.RowKit Base Byt Txt Bk Block Go.Lib
set_option linter.unusedVariables false
set_option maxRecDepth 100000
section
variable {At:World → Nat → SM → (Nat → Prop) → Prop} {w w':World} {g:Nat} {M:SM} {own own':Nat → Prop}
theorem chg_below {B:Nat} (hB:B≤w.heap.size) (ho:∀ b,own b → B≤b) (hs:∀ b,own' b → own b ∨ w.heap.size≤b) (hk:Kept own w w'):Below B w w' ∧ ∀ b,own' b → B≤b:=
 ⟨hk.below hB ho,fun b hb => by rcases hs b hb with h | h;exact ho b h;omega⟩
end
theorem iat_lit (w:World) (zs:List Int):IAt (w.alloc (.cells (zs.map (Value.int .i64)).toArray 3)) (some ⟨w.heap.size,0,none⟩) zs.length zs:=fun _ => ⟨w.heap.size,0,rfl,by simp,fun i hi => by
 rw [Nat.zero_add,(Blk.new w _ _).cell]
 simp [List.getD,hi]⟩
theorem bat_lit (w:World) (bs:List UInt8) (fr:Nat × Nat):BAt (w.alloc (.cells ((nums bs).map (Value.int .u8)).toArray 5 fr)) (some ⟨w.heap.size,0,none⟩) bs.length bs:=fun _ => ⟨w.heap.size,0,rfl,fun i hi => by
 unfold World.cell?;rw [heap_alloc_new]
 simp [nums,List.getD,hi]⟩
def A1:SM:=⟨3,[1],[([],true)],0,0⟩
def A2:SM:=⟨3,[1],[([97,98],true)],1,2⟩
def A3:SM:=⟨3,[1],[([97,98],true)],2,2⟩
def A4:SM:=⟨3,[1],[([97,98],true)],3,2⟩
theorem small_A (M:SM) (h1:M.runs.length≤1) (h2:∀ r ∈ M.runs,r.1.length≤2) (h3:M.writes≤3) (h4:M.peak≤2) (h5:M.fails.length≤1):SmallS M:=⟨by omega,fun r hr => by have:=h2 r hr;omega,by omega,by omega,by omega⟩
theorem small_A1:SmallS A1:=small_A _ (by decide) (by decide) (by decide) (by decide) (by decide)
theorem small_A2:SmallS A2:=small_A _ (by decide) (by decide) (by decide) (by decide) (by decide)
theorem small_A3:SmallS A3:=small_A _ (by decide) (by decide) (by decide) (by decide) (by decide)
theorem small_A4:SmallS A4:=small_A _ (by decide) (by decide) (by decide) (by decide) (by decide)
theorem small_A0:SmallS (newS 3 [1]):=⟨by decide,by decide,by decide,by decide,by decide⟩
set_option maxHeartbeats 2000000 in
theorem ans14_any {At:World → Nat → SM → (Nat → Prop) → Prop} (H:StoC At) (w:World) :
 Calls Try.prog 7 #[] w fun e w' => e=.returned (.bool true)∧Below w.heap.size w w':=by
 have HC:=Lib.hid H;obtain ⟨W,hW⟩:∃ W,w.alloc (.cells #[.int .i64 1] 3)=W:=⟨_,rfl⟩;have HB:=Lib.hid (show Below w.heap.size w W by rw [← hW];exact (Below.refl _ _).alloc (Nat.le_refl _) _)
 have HNEW:=Lib.hid (H.new W 3 (some ⟨w.heap.size,0,none⟩) 1 1 [1] (by rw [← hW];exact iat_lit w [1]) rfl (Nat.le_refl _) (by decide) (by decide) (by decide) (by decide))
 clear H
 go_enter Try.func7,Try.ntmps7
 go_wp2_with fail
 clear hW;refine HNEW.out.mono ?_
 rintro e w1 ⟨g,own,rfl,ha,ho,hb⟩;have HA:=Lib.hid ha;have HO:Hid (∀ b,own b → w.heap.size≤b):=Lib.hid (fun b hb => Nat.le_trans HB.out.size (ho b hb))
 have HB1:=Lib.hid (HB.out.trans (hb.mono HB.out.size));clear ha ho hb HNEW HB
 go_wp2_with fail
 refine (HC.out.create HA.out small_A0).mono ?_
 rintro e w2 ⟨o2,rfl,ha,hs,hk⟩;obtain ⟨h1,h2⟩:=chg_below HB1.out.size HO.out hs hk;have HA2:Hid (At w2 g A1 o2):=Lib.hid ha;have HB2:=Lib.hid (HB1.out.trans h1);have HO2:=Lib.hid h2;clear ha hs hk h1 h2 HA HO HB1
 have kc2:(convert 32 32 (.slice (some ⟨w2.heap.size,0,none⟩) 2 2)).run Try.prog (w2.alloc (.cells #[.int .u8 97,.int .u8 98] 5))=.ok (.slice (some ⟨w2.heap.size,0,none⟩) 2 2) (w2.alloc (.cells #[.int .u8 97,.int .u8 98] 5 (2,3))):=
  Lib.run_convert_bytes_const (P:=Try.prog) w2 32 5 #[.int .u8 97,.int .u8 98] 2 2 Try.underlying32 Try.underlying5
 obtain ⟨V2,hV2⟩:∃ V,w2.alloc (.cells #[.int .u8 97,.int .u8 98] 5 (2,3))=V:=⟨_,rfl⟩;have hb2:Below w2.heap.size w2 V2:=by rw [← hV2];exact (Below.refl _ _).alloc (Nat.le_refl _) _
 have HAV:=Lib.hid (HC.out.frame HA2.out (Kept.of_below hb2 noneB) (fun b _ h => h.elim))
 have HCA:=Lib.hid (HC.out.append 0 (some ⟨w2.heap.size,0,none⟩) 2 2 [97,98] HAV.out small_A1 (by rw [← hV2];exact bat_lit w2 [97,98] (2,3)) rfl (Nat.le_refl _) (by decide) (by decide) (fun _ a ha hoa => by cases ha;exact Nat.lt_irrefl _ ((HC.out.lt HA2.out).2 _ hoa)) (by decide) (by decide))
 have HBV:=Lib.hid (HB2.out.trans (hb2.mono HB2.out.size));clear hb2 HA2 HB2 HAV
 go_wp2_with fail
 clear kc2 hV2;refine HCA.out.mono ?_
 rintro e w3 ⟨o3,rfl,ha,hs,hk⟩;obtain ⟨h1,h2⟩:=chg_below HBV.out.size HO2.out hs hk;have HA3:Hid (At w3 g A2 o3):=Lib.hid ha;have HB3:=Lib.hid (HBV.out.trans h1);have HO3:=Lib.hid h2;clear ha hs hk h1 h2 HCA HBV HO2
 have kc3:(convert 32 32 (.slice (some ⟨w3.heap.size,0,none⟩) 1 1)).run Try.prog (w3.alloc (.cells #[.int .u8 99] 5))=.ok (.slice (some ⟨w3.heap.size,0,none⟩) 1 1) (w3.alloc (.cells #[.int .u8 99] 5 (1,2))):=
  Lib.run_convert_bytes_const (P:=Try.prog) w3 32 5 #[.int .u8 99] 1 1 Try.underlying32 Try.underlying5
 obtain ⟨V3,hV3⟩:∃ V,w3.alloc (.cells #[.int .u8 99] 5 (1,2))=V:=⟨_,rfl⟩;have hb3:Below w3.heap.size w3 V3:=by rw [← hV3];exact (Below.refl _ _).alloc (Nat.le_refl _) _
 have HAV:=Lib.hid (HC.out.frame HA3.out (Kept.of_below hb3 noneB) (fun b _ h => h.elim))
 have HCA:=Lib.hid (HC.out.append 0 (some ⟨w3.heap.size,0,none⟩) 1 1 [99] HAV.out small_A2 (by rw [← hV3];exact bat_lit w3 [99] (1,2)) rfl (Nat.le_refl _) (by decide) (by decide) (fun _ a ha hoa => by cases ha;exact Nat.lt_irrefl _ ((HC.out.lt HA3.out).2 _ hoa)) (by decide) (by decide))
 have HBV:=Lib.hid (HB3.out.trans (hb3.mono HB3.out.size));clear hb3 HA3 HB3 HAV
 go_wp2_with fail
 clear kc3 hV3;refine HCA.out.mono ?_
 rintro e w4 ⟨o4,rfl,ha,hs,hk⟩;obtain ⟨h1,h2⟩:=chg_below HBV.out.size HO3.out hs hk;have HA4:Hid (At w4 g A3 o4):=Lib.hid ha;have HB4:=Lib.hid (HBV.out.trans h1);have HO4:=Lib.hid h2;clear ha hs hk h1 h2 HCA HBV HO3
 have kc4:(convert 32 32 (.slice (some ⟨w4.heap.size,0,none⟩) 2 2)).run Try.prog (w4.alloc (.cells #[.int .u8 99,.int .u8 100] 5))=.ok (.slice (some ⟨w4.heap.size,0,none⟩) 2 2) (w4.alloc (.cells #[.int .u8 99,.int .u8 100] 5 (2,3))):=
  Lib.run_convert_bytes_const (P:=Try.prog) w4 32 5 #[.int .u8 99,.int .u8 100] 2 2 Try.underlying32 Try.underlying5
 obtain ⟨V4,hV4⟩:∃ V,w4.alloc (.cells #[.int .u8 99,.int .u8 100] 5 (2,3))=V:=⟨_,rfl⟩;have hb4:Below w4.heap.size w4 V4:=by rw [← hV4];exact (Below.refl _ _).alloc (Nat.le_refl _) _
 have HAV:=Lib.hid (HC.out.frame HA4.out (Kept.of_below hb4 noneB) (fun b _ h => h.elim))
 have HCA:=Lib.hid (HC.out.append 0 (some ⟨w4.heap.size,0,none⟩) 2 2 [99,100] HAV.out small_A3 (by rw [← hV4];exact bat_lit w4 [99,100] (2,3)) rfl (Nat.le_refl _) (by decide) (by decide) (fun _ a ha hoa => by cases ha;exact Nat.lt_irrefl _ ((HC.out.lt HA4.out).2 _ hoa)) (by decide) (by decide))
 have HBV:=Lib.hid (HB4.out.trans (hb4.mono HB4.out.size));clear hb4 HA4 HB4 HAV
 go_wp2_with fail
 clear kc4 hV4;refine HCA.out.mono ?_
 rintro e w5 ⟨o5,rfl,ha,hs,hk⟩;obtain ⟨h1,h2⟩:=chg_below HBV.out.size HO4.out hs hk;have HA5:Hid (At w5 g A4 o5):=Lib.hid ha;have HB5:=Lib.hid (HBV.out.trans h1);have HO5:=Lib.hid h2;clear ha hs hk h1 h2 HCA HBV HO4;have hrd:=HC.out.read 0 1 9 HA5.out small_A4 (by decide) (by decide) (by decide) (by decide) (by decide) (by decide)
 rw [show readS A4 0 1 9=([98],0) by decide] at hrd
 have HRD:=Lib.hid hrd;clear hrd
 go_wp2_with fail
 refine HRD.out.mono ?_
 rintro e w6 ⟨v6,rfl,ho6,hk6⟩;have HA6:=Lib.hid (HC.out.frame HA5.out hk6 (fun b _ h => h.elim))
 have HB6:=Lib.hid (HB5.out.trans (hk6.below HB5.out.size (fun _ h => h.elim)))
 obtain ⟨p6,c6,rfl,_,_,hbt,hln,_⟩:=OwnB.slice ho6;have cv:=conv_at (P:=Try.prog) hbt rfl _ _ _ Try.underlying32 Try.underlying5 Try.underlying9 c6;change (convert 32 9 (.slice p6 1 c6)).run Try.prog w6=.ok (.string ⟨#[98]⟩) w6 at cv;change Hid (At w6 g A4 o5) at HA6;clear ho6 hk6 hln hbt HA5 HB5 HRD
 go_wp2_with fail
 clear cv;refine (HC.out.writes HA6.out small_A4).mono ?_
 rintro e w7 ⟨rfl,hk7⟩;have HA7:=Lib.hid (HC.out.frame HA6.out hk7 (fun b _ h => h.elim))
 have HB7:=Lib.hid (HB6.out.trans (hk7.below HB6.out.size (fun _ h => h.elim)))
 clear hk7 HA6 HB6
 go_wp2_with fail
 refine (HC.out.used HA7.out small_A4).mono ?_
 rintro e w8 ⟨rfl,hk8⟩;have HB8:=Lib.hid (HB7.out.trans (hk8.below HB7.out.size (fun _ h => h.elim)))
 clear hk8 HA7 HB7
 go_wp2
 go_ret
 exact ⟨rfl,HB8.out⟩
end Go.Proofs.Ytfpoipamioaklaa.Sto
end
section
namespace Go.Proofs.Ytfpoipamioaklaa.Walk
open Go.ChangeShapes Go.WideShapes Go.ChangeAt Go.RowKit Base Byt Txt Bk Block Sto Go.Lib
set_option linter.unusedVariables false
set_option maxRecDepth 100000
def P1 (X:List UInt8) (i:Nat):SM:=⟨1048576,[],[(X,true)],i,X.length⟩
theorem small_P0:SmallS (newS 1048576 []):=⟨by decide,by decide,by decide,by decide,by decide⟩
theorem small_P1 {X:List UInt8} {i:Nat} (h:X.length≤30000) (hi:i≤60):SmallS (P1 X i):=⟨by show (1:Nat)≤1000;decide,fun r hr => by rw [List.mem_singleton.1 hr];show X.length≤_;omega,by show i≤_;omega,by show X.length≤_;omega,by show (0:Nat)≤1000;decide⟩
theorem append_P1 {X b:List UInt8} {i:Nat} (h:X.length+b.length≤30000):appendS (P1 X i) 0 b=(0,P1 (X++b) (i+1)):=by
 have hu:∀ Y:List UInt8,usedR [(Y,true)]=Y.length:=fun Y => by unfold usedR;simp
 rw [appendS_ok (M:=P1 X i) rfl (by show ¬ ((i:Nat):Int) ∈ ([]:List Int);simp) (by show ¬ (1048576:Nat) < usedR [(X,true)]+b.length;rw [hu];omega)]
 have:putS14 (P1 X i) 0 b=P1 (X++b) (i+1):=by
  unfold putS14;show (⟨1048576,[],[(X++b,true)],i+1,max X.length (usedR [(X++b,true)])⟩:SM)=_;rw [hu];unfold P1
  congr 1
  rw [List.length_append];omega
 rw [this]
theorem read_P1 {X:List UInt8} {i k m:Nat} (h:k≤X.length):readS (P1 X i) 0 (k:Int) (m:Int)=((X.drop k).take m,0):=by
 have h1:hasS (P1 X i) 0=true:=rfl;have h2:runS (P1 X i) 0=X:=rfl;unfold readS;rw [if_neg (by rw [h1];decide),h2,if_neg (by omega)]
 simp
theorem used_P1 (X:List UInt8) (i:Nat):usedS (P1 X i)=X.length:=by unfold usedS usedR P1;simp
theorem run_P1 (X:List UInt8) (i:Nat):runS (P1 X i) 0=X:=rfl
def lenT:Value → Nat
 | .string b => b.size
 | _ => 0
theorem take_more {X:List UInt8} {k m:Nat}:X.take k++(X.drop k).take m=X.take (k+((X.drop k).take m).length):=by
 rw [← List.take_add]
 by_cases h:m≤X.length - k
 ·rw [List.length_take,List.length_drop,Nat.min_eq_left h]
 ·rw [List.length_take,List.length_drop,Nat.min_eq_right (by omega),List.take_of_length_le (by omega),List.take_of_length_le (by omega)]
set_option maxHeartbeats 8000000 in
theorem storePartsC {At:World → Nat → SM → (Nat → Prop) → Prop} (H:StoC At) (a0:Option Addr) (n0 cap0:Nat) (A:Nat → Option Addr) (M C:Nat → Nat) (Bs:Nat → List UInt8) (r:Int) (w:World)
 (w0:LAt w a0 n0 A M C Bs) (m0:∀ i,i < n0 → M i≤C i∧C i≤maxLen) (c0:n0≤cap0∧cap0≤maxLen) (wk:(Lit.int .u8 r).wf=true) :
 Calls Try.prog 4 #[.slice a0 n0 cap0,.int .u8 r] w fun e w' => e=.returned (.bool true)∧Below w.heap.size w w':=by
 have HC:=Lib.hid H;have HL:=Lib.hid w0;have HM:=Lib.hid m0;obtain ⟨hr0,hr1⟩:=wf8 wk;obtain ⟨R,rfl⟩:∃ R:Nat,r=(R:Int):=⟨r.toNat,by omega⟩
 have HNEW:=Lib.hid (H.new w 1048576 none 0 0 [] (fun h => by omega) rfl (Nat.le_refl _) (by decide) (by decide) (by decide) (by decide))
 clear H w0 m0 wk hr0
 go_enter Try.func4,Try.ntmps4
 go_wp2_with fail
 refine HNEW.out.mono ?_
 rintro e wa ⟨g,own,rfl,ha,ho,hb⟩;have HA:=Lib.hid ha;have HO:=Lib.hid ho;have HB:=Lib.hid hb;clear ha ho hb HNEW
 go_wp2_with fail
 refine (HC.out.create HA.out small_P0).mono ?_
 rintro e wb ⟨o2,rfl,ha,hs,hk⟩;obtain ⟨h1,h2⟩:=chg_below HB.out.size HO.out hs hk;have HF:Hid (∃ own,At wb g (P1 [] 0) own∧(∀ b,own b → w.heap.size≤b)∧Below w.heap.size w wb):=Lib.hid ⟨o2,ha,h2,HB.out.trans h1⟩;clear ha hs hk h1 h2 HA HO HB;have hz:(((newS 1048576 []).runs.length:Nat):Int)=0:=rfl;rw [hz];clear hz
 go_wp2_with fail
 go_loopw [8,9] (fun s x wr => ∃ (i:Nat) (X:List UInt8),i≤n0∧i≤50∧s=.string (str X)∧x=.int .i64 (i:Int)∧X.length≤500 * i∧Hid (∃ own,At wr g (P1 X i) own∧(∀ b,own b → w.heap.size≤b)∧Below w.heap.size w wr)) (fun _ x _ => n0 - (RowKit.intOf x).toNat)
 case atStart => exact ⟨0,[],Nat.zero_le _,by omega,rfl,rfl,by simp,HF⟩
 case round =>
  obtain ⟨i,X,hi,hi50,rfl,rfl,hXL,hS⟩:=hrel;clear HF;obtain ⟨own,hA,hO,hB⟩:=hS.out;have HA:=Lib.hid hA;have HO:=Lib.hid hO;have HB:=Lib.hid hB;clear hS hA hO hB;have HAN:=Lib.hid (ans14_any HC.out wr)
  by_cases hlt:i < n0
  ·have hltz:(i:Int) < (n0:Int):=by omega
   by_cases h50:50 < n0
   ·have h50z:(50:Int) < (n0:Int):=by omega
    go_wp2_with fail
    refine HAN.out.mono ?_
    rintro e wc ⟨rfl,hb⟩;have HB2:=Lib.hid (HB.out.trans (hb.mono HB.out.size));clear hb
    go_wp2
    go_ret
    exact ⟨rfl,HB2.out⟩
   ·have h50z:¬ ((50:Int) < (n0:Int)):=by omega
    obtain ⟨b,o,rfl,hbw,hcell⟩:=HL.out (by omega)
    obtain ⟨hc,hbt,hln⟩:=hcell i hlt;rw [← HB.out.cell (p:=⟨b,o+i,none⟩) hbw] at hc;obtain ⟨hle,hmx⟩:=HM.out i hlt;obtain ⟨q,hq⟩:∃ q,A i=q:=⟨_,rfl⟩;obtain ⟨m,hm⟩:∃ m,M i=m:=⟨_,rfl⟩;obtain ⟨c,hcc⟩:∃ c,C i=c:=⟨_,rfl⟩;obtain ⟨bs,hbs⟩:∃ bs,Bs i=bs:=⟨_,rfl⟩;rw [hq,hm,hcc] at hc;rw [hq,hm,hbs] at hbt;rw [hm,hbs] at hln;rw [hm,hcc] at hle;rw [hcc] at hmx;have HBT:=Lib.hid hbt;have HLN:=Lib.hid hln;have HMX:=Lib.hid hmx;clear hcell hbw hq hm hcc hbs hbt hln hmx
    by_cases h500:500 < m
    ·have h500z:(500:Int) < (m:Int):=by omega
     go_wp2_with fail
     refine HAN.out.mono ?_
     rintro e wc ⟨rfl,hb⟩;have HB2:=Lib.hid (HB.out.trans (hb.mono HB.out.size));clear hb
     go_wp2
     go_ret
     exact ⟨rfl,HB2.out⟩
    ·have h500z:¬ ((500:Int) < (m:Int)):=by omega
     have hap:=HC.out.append 0 q m c bs HA.out (small_P1 (by omega) (by omega)) (HBT.out.below HB.out) HLN.out hle HMX.out (by omega) (fun h0 a ha hoa => by obtain ⟨b',o',he,hbl,_⟩:=HBT.out.cell h0;rw [ha] at he;cases he;exact Nat.lt_irrefl _ (Nat.lt_of_lt_of_le hbl (HO.out _ hoa))) (by decide) (by decide)
     rw [append_P1 (by rw [HLN.out];omega)] at hap
     have HAP:=Lib.hid hap;clear hap HAN
     go_wp2_with fail
     refine HAP.out.mono ?_
     rintro e wc ⟨o2,rfl,ha,hs,hk⟩;obtain ⟨h1,h2⟩:=chg_below HB.out.size HO.out hs hk;have HB2:=Lib.hid (HB.out.trans h1);have HF2:Hid (∃ own,At wc g (P1 (X++bs) (i+1)) own∧(∀ b,own b → w.heap.size≤b)∧Below w.heap.size w wc):=Lib.hid ⟨o2,ha,h2,HB.out.trans h1⟩;have cv:=conv_at (P:=Try.prog) (HBT.out.below HB2.out) HLN.out _ _ _ Try.underlying32 Try.underlying5 Try.underlying9 c;change _=Go.Result.ok (Value.string (str bs)) wc at cv;rw [HB.out.cell (p:=⟨b,o+i,none⟩) (by have:=HL.out (by omega);obtain ⟨b',o',he,h5,_⟩:=this;cases he;exact h5),← HB2.out.cell (p:=⟨b,o+i,none⟩) (by have:=HL.out (by omega);obtain ⟨b',o',he,h5,_⟩:=this;cases he;exact h5)] at hc
     have hap2:=str_app X bs;obtain ⟨LX,hLX⟩:∃ LX,X.length=LX:=⟨_,rfl⟩;have hsX:(str X).size=LX:=by rw [← hLX];exact str_size X
     have hsB:(str bs).size=m:=by rw [str_size];exact HLN.out
     have hLX2:LX≤25000:=by omega
     have HXL:Hid ((X++bs).length≤500 * (i+1)):=Lib.hid (by rw [List.length_append,HLN.out];omega)
     clear ha hs hk h1 h2 HAP hLX hXL
     go_wp2
     go_roundw
     case rel => exact ⟨i+1,X++bs,by omega,by omega,rfl,by go_num,HXL.out,HF2⟩
     case measure => simp [RowKit.intOf];omega
  ·obtain rfl:i=n0:=by omega
   have hks:¬ ((i:Int) < (i:Int)):=by omega
   obtain ⟨L,hL⟩:∃ L,X.length=L:=⟨_,rfl⟩;have HLL:=Lib.hid hL;have hsz:(str X).size=L:=by rw [← hL];exact str_size X
   have hL25:L≤25000:=by omega
   have HF:Hid (∃ own,At wr g (P1 X i) own∧(∀ b,own b → w.heap.size≤b)∧Below w.heap.size w wr):=Lib.hid ⟨own,HA.out,HO.out,HB.out⟩;clear hL hXL HA HO HB HAN
   go_wp2_with fail
   go_loopw [10] (fun s wr => ∃ (k:Nat),k≤L∧s=.string (str (X.take k))∧Hid (∃ own,At wr g (P1 X i) own∧(∀ b,own b → w.heap.size≤b)∧Below w.heap.size w wr)) (fun s _ => L - lenT s)
   case atStart => exact ⟨0,Nat.zero_le _,rfl,HF⟩
   case round =>
    obtain ⟨k,hk,rfl,hS⟩:=hrel;clear HF;obtain ⟨own,hA,hO,hB⟩:=hS.out;have HA:=Lib.hid hA;have HO:=Lib.hid hO;have HB:=Lib.hid hB;clear hS hA hO hB;have hsk:(str (X.take k)).size=k:=by rw [str_size,List.length_take,HLL.out];omega
    by_cases hlt:k < L
    ·have hltz:(k:Int) < (L:Int):=by omega
     obtain ⟨R1,hR1e⟩:∃ R1,R+1=R1:=⟨_,rfl⟩;have hrd:=HC.out.read 0 (k:Int) (R1:Int) HA.out (small_P1 (by rw [HLL.out];omega) (by omega)) (by decide) (by decide) (by omega) (by omega) (by omega) (by omega)
     rw [read_P1 (by rw [HLL.out];exact hk)] at hrd
     obtain ⟨bs,hbs⟩:∃ bs,(X.drop k).take R1=bs:=⟨_,rfl⟩;obtain ⟨m,hm⟩:∃ m,bs.length=m:=⟨_,rfl⟩;have hmk:0 < m∧k+m≤L:=by rw [← hm,← hbs,List.length_take,List.length_drop,HLL.out];omega
     have HT:Hid (X.take k++bs=X.take (k+m)):=Lib.hid (by rw [← hm,← hbs];exact take_more)
     rw [hbs] at hrd;have HRD:=Lib.hid hrd;have hR1:IntKind.i64.wrap ((R:Int)+1)=(R1:Int):=by rw [IntKind.wrap_i64];omega
     have hR2:(R:Int)+1=(R1:Int):=by omega
     have HMB:=Lib.hid hm;clear hbs hrd hm hR1e
     go_wp2_with fail
     refine HRD.out.mono ?_
     rintro e wc ⟨v,rfl,ho,hk2⟩;obtain ⟨p2,c2,rfl,_,_,hbt,_,_⟩:=OwnB.slice ho;have HA2:=Lib.hid (HC.out.frame HA.out hk2 (fun b _ h => h.elim))
     have HB2:=Lib.hid (HB.out.trans (hk2.below HB.out.size (fun _ h => h.elim)))
     dsimp only
     rw [HMB.out] at hbt ⊢;have cv:=conv_at (P:=Try.prog) hbt HMB.out _ _ _ Try.underlying32 Try.underlying5 Try.underlying9 c2;change _=Go.Result.ok (Value.string (str bs)) wc at cv;have hap2:str (X.take k)++str bs=str (X.take (k+m)):=by rw [str_app,HT.out]
     have hmz:((m:Int) == 0)=false:=by simp;omega
     have hsB:(str bs).size=m:=by rw [str_size];exact HMB.out
     have HF2:Hid (∃ own,At wc g (P1 X i) own∧(∀ b,own b → w.heap.size≤b)∧Below w.heap.size w wc):=Lib.hid ⟨own,HA2.out,HO.out,HB2.out⟩;have HSM:Hid ((str (X.take (k+m))).size=k+m):=Lib.hid (by rw [str_size,List.length_take,HLL.out];omega)
     clear ho hk2 hbt HRD hR1 hR2
     go_wp2
     go_roundw
     case rel => exact ⟨k+m,by omega,rfl,HF2⟩
     case measure => simp only [lenT];rw [HSM.out,hsk];omega
    ·obtain rfl:k=L:=by omega
     have hks2:¬ ((k:Int) < (k:Int)):=by omega
     have hXX:X.take k=X:=List.take_of_length_le (by rw [HLL.out];exact Nat.le_refl _)
     rw [hXX] at hsk ⊢;clear hXX
     go_wp2_with fail
     refine (ans14_any HC.out wr).mono ?_
     rintro e wc ⟨rfl,hb⟩;have HA2:=Lib.hid (HC.out.frame HA.out (Kept.of_below hb noneB) (fun b _ h => h.elim))
     have HB2:=Lib.hid (HB.out.trans (hb.mono HB.out.size));clear hb;have hsi:=HC.out.size 0 HA2.out (small_P1 (by rw [HLL.out];omega) (by omega)) (by decide) (by decide)
     rw [run_P1,HLL.out] at hsi;have HSI:=Lib.hid hsi;clear hsi
     go_wp2_with fail
     refine HSI.out.mono ?_
     rintro e wd ⟨rfl,hk2⟩;have HA3:=Lib.hid (HC.out.frame HA2.out hk2 (fun b _ h => h.elim))
     have HB3:=Lib.hid (HB2.out.trans (hk2.below HB2.out.size (fun _ h => h.elim)))
     clear hk2;have hus:=HC.out.used HA3.out (small_P1 (by rw [HLL.out];omega) (by omega))
     rw [used_P1,HLL.out] at hus;have HUS:=Lib.hid hus;clear hus
     go_wp2_with fail
     refine HUS.out.mono ?_
     rintro e we ⟨rfl,hk2⟩;have HB4:=Lib.hid (HB3.out.trans (hk2.below HB3.out.size (fun _ h => h.elim)))
     clear hk2
     go_wp2
     go_ret
     exact ⟨rfl,HB4.out⟩
end Go.Proofs.Ytfpoipamioaklaa.Walk
end
