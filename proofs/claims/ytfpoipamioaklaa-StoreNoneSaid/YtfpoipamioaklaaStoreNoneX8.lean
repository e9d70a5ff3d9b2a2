/- Texts of this seat, merged: what the proof reaches. -/
import Derived.Test.YtfpoipamioaklaaStoreNoneX7
import Derived.Test.YtfpoipamioaklaaStoreNoneX6
import Derived.Lib.SlBytesConst
import Derived.Deep.DeepCutAuto
namespace Go.Proofs.Ytfpoipamioaklaa
namespace Base
end Base
namespace Bk
end Bk
namespace Block
end Block
namespace Byt
end Byt
namespace Sto
end Sto
namespace Txt
end Txt
end Go.Proofs.Ytfpoipamioaklaa
section
namespace Go.Proofs.Ytfpoipamioaklaa.Sto
open Go.ChangeShapes Go.WideShapes Go.ChangeAt Go.RowKit Base Byt Txt Bk Block Go.Lib
set_option linter.unusedVariables false
set_option maxRecDepth 100000
section
variable {At:World → Nat → SM → (Nat → Prop) → Prop} {w w':World} {g:Nat} {M:SM} {own own':Nat → Prop}
theorem chg_below {B:Nat} (hB:B≤w.heap.size) (ho:∀ b,own b → B≤b) (hs:∀ b,own' b → own b ∨ w.heap.size≤b) (hk:Kept own w w'):Below B w w' ∧ ∀ b,own' b → B≤b:=
 ⟨hk.below hB ho,fun b hb => by rcases hs b hb with h | h;exact ho b h;omega⟩
end
theorem iat_lit (w:World) (zs:List Int):IAt (w.alloc (.cells (zs.map (Value.int .i64)).toArray 3)) (some ⟨w.heap.size,0,none⟩) zs.length zs:=fun _ => ⟨w.heap.size,0,rfl,by simp,fun i hi => by
 rw [Nat.zero_add,(Blk.new w _ _).cell]
 simp [List.getD,hi]⟩
theorem bat_lit (w:World) (bs:List UInt8) (fr:Nat × Nat):BAt (w.alloc (.cells ((nums bs).map (Value.int .u8)).toArray 5 fr)) (some ⟨w.heap.size,0,none⟩) bs.length bs:=fun _ => ⟨w.heap.size,0,rfl,fun i hi => by
 unfold World.cell?;rw [heap_alloc_new]
 simp [nums,List.getD,hi]⟩
def A1:SM:=⟨3,[1],[([],true)],0,0⟩
def A2:SM:=⟨3,[1],[([97,98],true)],1,2⟩
def A3:SM:=⟨3,[1],[([97,98],true)],2,2⟩
def A4:SM:=⟨3,[1],[([97,98],true)],3,2⟩
theorem small_A (M:SM) (h1:M.runs.length≤1) (h2:∀ r ∈ M.runs,r.1.length≤2) (h3:M.writes≤3) (h4:M.peak≤2) (h5:M.fails.length≤1):SmallS M:=⟨by omega,fun r hr => by have:=h2 r hr;omega,by omega,by omega,by omega⟩
theorem small_A1:SmallS A1:=small_A _ (by decide) (by decide) (by decide) (by decide) (by decide)
theorem small_A2:SmallS A2:=small_A _ (by decide) (by decide) (by decide) (by decide) (by decide)
theorem small_A3:SmallS A3:=small_A _ (by decide) (by decide) (by decide) (by decide) (by decide)
theorem small_A4:SmallS A4:=small_A _ (by decide) (by decide) (by decide) (by decide) (by decide)
theorem small_A0:SmallS (newS 3 [1]):=⟨by decide,by decide,by decide,by decide,by decide⟩
set_option maxHeartbeats 2000000 in
theorem ans14_any {At:World → Nat → SM → (Nat → Prop) → Prop} (H:StoC At) (w:World) :
 Calls Try.prog 7 #[] w fun e w' => e=.returned (.bool true)∧Below w.heap.size w w':=by
 have HC:=Lib.hid H;obtain ⟨W,hW⟩:∃ W,w.alloc (.cells #[.int .i64 1] 3)=W:=⟨_,rfl⟩;have HB:=Lib.hid (show Below w.heap.size w W by rw [← hW];exact (Below.refl _ _).alloc (Nat.le_refl _) _)
 have HNEW:=Lib.hid (H.new W 3 (some ⟨w.heap.size,0,none⟩) 1 1 [1] (by rw [← hW];exact iat_lit w [1]) rfl (Nat.le_refl _) (by decide) (by decide) (by decide) (by decide))
 clear H
 go_enter Try.func7,Try.ntmps7
 go_wp2_with fail
 clear hW;refine HNEW.out.mono ?_
 rintro e w1 ⟨g,own,rfl,ha,ho,hb⟩;have HA:=Lib.hid ha;have HO:Hid (∀ b,own b → w.heap.size≤b):=Lib.hid (fun b hb => Nat.le_trans HB.out.size (ho b hb))
 have HB1:=Lib.hid (HB.out.trans (hb.mono HB.out.size));clear ha ho hb HNEW HB
 go_wp2_with fail
 refine (HC.out.create HA.out small_A0).mono ?_
 rintro e w2 ⟨o2,rfl,ha,hs,hk⟩;obtain ⟨h1,h2⟩:=chg_below HB1.out.size HO.out hs hk;have HA2:Hid (At w2 g A1 o2):=Lib.hid ha;have HB2:=Lib.hid (HB1.out.trans h1);have HO2:=Lib.hid h2;clear ha hs hk h1 h2 HA HO HB1
 have kc2:(convert 32 32 (.slice (some ⟨w2.heap.size,0,none⟩) 2 2)).run Try.prog (w2.alloc (.cells #[.int .u8 97,.int .u8 98] 5))=.ok (.slice (some ⟨w2.heap.size,0,none⟩) 2 2) (w2.alloc (.cells #[.int .u8 97,.int .u8 98] 5 (2,3))):=
  Lib.run_convert_bytes_const (P:=Try.prog) w2 32 5 #[.int .u8 97,.int .u8 98] 2 2 Try.underlying32 Try.underlying5
 obtain ⟨V2,hV2⟩:∃ V,w2.alloc (.cells #[.int .u8 97,.int .u8 98] 5 (2,3))=V:=⟨_,rfl⟩;have hb2:Below w2.heap.size w2 V2:=by rw [← hV2];exact (Below.refl _ _).alloc (Nat.le_refl _) _
 have HAV:=Lib.hid (HC.out.frame HA2.out (Kept.of_below hb2 noneB) (fun b _ h => h.elim))
 have HCA:=Lib.hid (HC.out.append 0 (some ⟨w2.heap.size,0,none⟩) 2 2 [97,98] HAV.out small_A1 (by rw [← hV2];exact bat_lit w2 [97,98] (2,3)) rfl (Nat.le_refl _) (by decide) (by decide) (fun _ a ha hoa => by cases ha;exact Nat.lt_irrefl _ ((HC.out.lt HA2.out).2 _ hoa)) (by decide) (by decide))
 have HBV:=Lib.hid (HB2.out.trans (hb2.mono HB2.out.size));clear hb2 HA2 HB2 HAV
 go_wp2_with fail
 clear kc2 hV2;refine HCA.out.mono ?_
 rintro e w3 ⟨o3,rfl,ha,hs,hk⟩;obtain ⟨h1,h2⟩:=chg_below HBV.out.size HO2.out hs hk;have HA3:Hid (At w3 g A2 o3):=Lib.hid ha;have HB3:=Lib.hid (HBV.out.trans h1);have HO3:=Lib.hid h2;clear ha hs hk h1 h2 HCA HBV HO2
 have kc3:(convert 32 32 (.slice (some ⟨w3.heap.size,0,none⟩) 1 1)).run Try.prog (w3.alloc (.cells #[.int .u8 99] 5))=.ok (.slice (some ⟨w3.heap.size,0,none⟩) 1 1) (w3.alloc (.cells #[.int .u8 99] 5 (1,2))):=
  Lib.run_convert_bytes_const (P:=Try.prog) w3 32 5 #[.int .u8 99] 1 1 Try.underlying32 Try.underlying5
 obtain ⟨V3,hV3⟩:∃ V,w3.alloc (.cells #[.int .u8 99] 5 (1,2))=V:=⟨_,rfl⟩;have hb3:Below w3.heap.size w3 V3:=by rw [← hV3];exact (Below.refl _ _).alloc (Nat.le_refl _) _
 have HAV:=Lib.hid (HC.out.frame HA3.out (Kept.of_below hb3 noneB) (fun b _ h => h.elim))
 have HCA:=Lib.hid (HC.out.append 0 (some ⟨w3.heap.size,0,none⟩) 1 1 [99] HAV.out small_A2 (by rw [← hV3];exact bat_lit w3 [99] (1,2)) rfl (Nat.le_refl _) (by decide) (by decide) (fun _ a ha hoa => by cases ha;exact Nat.lt_irrefl _ ((HC.out.lt HA3.out).2 _ hoa)) (by decide) (by decide))
 have HBV:=Lib.hid (HB3.out.trans (hb3.mono HB3.out.size));clear hb3 HA3 HB3 HAV
 go_wp2_with fail
 clear kc3 hV3;refine HCA.out.mono ?_
 rintro e w4 ⟨o4,rfl,ha,hs,hk⟩;obtain ⟨h1,h2⟩:=chg_below HBV.out.size HO3.out hs hk;have HA4:Hid (At w4 g A3 o4):=Lib.hid ha;have HB4:=Lib.hid (HBV.out.trans h1);have HO4:=Lib.hid h2;clear ha hs hk h1 h2 HCA HBV HO3
 have kc4:(convert 32 32 (.slice (some ⟨w4.heap.size,0,none⟩) 2 2)).run Try.prog (w4.alloc (.cells #[.int .u8 99,.int .u8 100] 5))=.ok (.slice (some ⟨w4.heap.size,0,none⟩) 2 2) (w4.alloc (.cells #[.int .u8 99,.int .u8 100] 5 (2,3))):=
  Lib.run_convert_bytes_const (P:=Try.prog) w4 32 5 #[.int .u8 99,.int .u8 100] 2 2 Try.underlying32 Try.underlying5
 obtain ⟨V4,hV4⟩:∃ V,w4.alloc (.cells #[.int .u8 99,.int .u8 100] 5 (2,3))=V:=⟨_,rfl⟩;have hb4:Below w4.heap.size w4 V4:=by rw [← hV4];exact (Below.refl _ _).alloc (Nat.le_refl _) _
 have HAV:=Lib.hid (HC.out.frame HA4.out (Kept.of_below hb4 noneB) (fun b _ h => h.elim))
 have HCA:=Lib.hid (HC.out.append 0 (some ⟨w4.heap.size,0,none⟩) 2 2 [99,100] HAV.out small_A3 (by rw [← hV4];exact bat_lit w4 [99,100] (2,3)) rfl (Nat.le_refl _) (by decide) (by decide) (fun _ a ha hoa => by cases ha;exact Nat.lt_irrefl _ ((HC.out.lt HA4.out).2 _ hoa)) (by decide) (by decide))
 have HBV:=Lib.hid (HB4.out.trans (hb4.mono HB4.out.size));clear hb4 HA4 HB4 HAV
 go_wp2_with fail
 clear kc4 hV4;refine HCA.out.mono ?_
 rintro e w5 ⟨o5,rfl,ha,hs,hk⟩;obtain ⟨h1,h2⟩:=chg_below HBV.out.size HO4.out hs hk;have HA5:Hid (At w5 g A4 o5):=Lib.hid ha;have HB5:=Lib.hid (HBV.out.trans h1);have HO5:=Lib.hid h2;clear ha hs hk h1 h2 HCA HBV HO4;have hrd:=HC.out.read 0 1 9 HA5.out small_A4 (by decide) (by decide) (by decide) (by decide) (by decide) (by decide)
 rw [show readS A4 0 1 9=([98],0) by decide] at hrd
 have HRD:=Lib.hid hrd;clear hrd
 go_wp2_with fail
 refine HRD.out.mono ?_
 rintro e w6 ⟨v6,rfl,ho6,hk6⟩;have HA6:=Lib.hid (HC.out.frame HA5.out hk6 (fun b _ h => h.elim))
 have HB6:=Lib.hid (HB5.out.trans (hk6.below HB5.out.size (fun _ h => h.elim)))
 obtain ⟨p6,c6,rfl,_,_,hbt,hln,_⟩:=OwnB.slice ho6;have cv:=conv_at (P:=Try.prog) hbt rfl _ _ _ Try.underlying32 Try.underlying5 Try.underlying9 c6;change (convert 32 9 (.slice p6 1 c6)).run Try.prog w6=.ok (.string ⟨#[98]⟩) w6 at cv;change Hid (At w6 g A4 o5) at HA6;clear ho6 hk6 hln hbt HA5 HB5 HRD
 go_wp2_with fail
 clear cv;refine (HC.out.writes HA6.out small_A4).mono ?_
 rintro e w7 ⟨rfl,hk7⟩;have HA7:=Lib.hid (HC.out.frame HA6.out hk7 (fun b _ h => h.elim))
 have HB7:=Lib.hid (HB6.out.trans (hk7.below HB6.out.size (fun _ h => h.elim)))
 clear hk7 HA6 HB6
 go_wp2_with fail
 refine (HC.out.used HA7.out small_A4).mono ?_
 rintro e w8 ⟨rfl,hk8⟩;have HB8:=Lib.hid (HB7.out.trans (hk8.below HB7.out.size (fun _ h => h.elim)))
 clear hk8 HA7 HB7
 go_wp2
 go_ret
 exact ⟨rfl,HB8.out⟩
end Go.Proofs.Ytfpoipamioaklaa.Sto
end
section
namespace Go.Proofs.Ytfpoipamioaklaa.Sto
open Go.ChangeShapes Go.WideShapes Go.ChangeAt Go.RowKit Base Byt Txt Bk Block Go.Lib
set_option linter.unusedVariables false
set_option maxRecDepth 100000
def rowB (p:Option Addr) (n:Nat) (b:Nat):Prop:=0 < n ∧ ∃ z,p=some z∧z.block=b
structure FlipB (w0 wr:World) (p:Option Addr) (n:Nat):Prop where
 kept:Kept (rowB p n) w0 wr
 bytes:0 < n → ∃ b o cur,p=some ⟨b,o,none⟩∧Blk wr b 5 cur ∧ ∀ k,k < n → ∃ m:Nat,m < 256∧cur[o+k]? = some (.int .u8 (m:Int))
theorem FlipB.start {w:World} {B:Nat} {p:Option Addr} {n c:Nat} {bs:List UInt8} (h:OwnB w B (.slice p n c) n bs):FlipB w w p n:=⟨Kept.refl _ _,fun h0 => by
 have hb:BAt w p n bs:=by
  obtain ⟨p2,c2,he,_,_,hb,_⟩:=OwnB.slice h
  cases he;exact hb
 rcases h.2 with ⟨h1,_⟩ | ⟨g,cap,cur,h1,_,hg,_⟩
 ·cases h1;omega
 ·cases h1
  refine ⟨g,0,cur,rfl,hg,fun k hk => ⟨(bs.getD k 0).toNat,UInt8.toNat_lt _,?_⟩⟩
  obtain ⟨b,o,he,hc⟩:=hb h0
  cases he
  have hg2:Blk w g 5 cur:=hg;rw [← hg2.cell]
  exact hc k hk⟩
theorem FlipB.set {w0 wr:World} {p:Option Addr} {n:Nat} (h:FlipB w0 wr p n) {b o:Nat} (hp:p=some ⟨b,o,none⟩) {i m:Nat} (hi:i < n) (hm:m < 256):FlipB w0 (wr.setCell ⟨b,o+i,none⟩ (.int .u8 (m:Int))) p n:=by
 subst hp;refine ⟨h.kept.setCell (a:=⟨b,o+i,none⟩) (.inr ⟨by omega,_,rfl,rfl⟩) _,fun h0 => ?_⟩
 obtain ⟨b',o',cur,he,hb,hc⟩:=h.bytes h0
 cases he
 obtain ⟨m2,_,h2⟩:=hc i hi;have hlt:=(Array.getElem?_eq_some_iff.1 h2).1;refine ⟨b,o,_,rfl,hb.set (o+i) _ hlt,fun k hk => ?_⟩
 rw [Array.getElem?_set]
 by_cases e:o+i=o+k
 ·rw [if_pos e];exact ⟨m,hm,rfl⟩
 ·rw [if_neg e];exact hc k hk
theorem xor8 {m:Nat} (hm:m < 256):∃ m':Nat,m' < 256∧bits BinOp.xor IntKind.u8 (m:Int) 255=(m':Int):=by
 have key:∀ m:Fin 256,0≤bits BinOp.xor IntKind.u8 ((m.val:Nat):Int) 255∧bits BinOp.xor IntKind.u8 ((m.val:Nat):Int) 255 < 256:=by decide +kernel
 obtain ⟨h1,h2⟩:=key ⟨m,hm⟩
 dsimp only at h1 h2
 exact ⟨(bits BinOp.xor IntKind.u8 (m:Int) 255).toNat,by omega,by omega⟩
theorem own_row_kept {w w':World} {B:Nat} {v:Value} {n:Nat} {bs:List UInt8} {S:Nat → Prop} (h:OwnB w B v n bs) (hk:Kept S w w') (hn:∀ k,v.ownBlock=some k → ¬ S k):OwnB w' B v n bs:=ownsRow_kept h hk hn
end Go.Proofs.Ytfpoipamioaklaa.Sto
end
section
namespace Go.Proofs.Ytfpoipamioaklaa.Walk
open Go.ChangeShapes Go.WideShapes Go.ChangeAt Go.RowKit Base Byt Txt Bk Block Sto Go.Lib
set_option linter.unusedVariables false
set_option maxRecDepth 100000
def N0:SM:=newS 1000 [1]
def N1:SM:=createS N0
theorem small_N0:SmallS N0:=⟨by decide,by decide,by decide,by decide,by decide⟩
theorem small_N1:SmallS N1:=⟨by decide,by decide,by decide,by decide,by decide⟩
theorem append_N1 {bs:List UInt8} (h:bs.length≤500):appendS N1 0 bs=(0,putS14 N1 0 bs):=by
 refine appendS_ok (by decide) (by decide) ?_
 show ¬ (1000:Nat) < 0+bs.length;omega
theorem put_N1 (bs:List UInt8):putS14 N1 0 bs=⟨1000,[1],[(bs,true)],1,bs.length⟩:=by
 unfold putS14;show (⟨1000,[1],[([]++bs,true)],1,max 0 (usedR [([]++bs,true)])⟩:SM)=_;have:usedR [([]++bs,true)]=bs.length:=by unfold usedR;simp
 rw [this,List.nil_append,Nat.zero_max]
theorem small_N2 {bs:List UInt8} (h:bs.length≤500):SmallS ⟨1000,[1],[(bs,true)],1,bs.length⟩:=⟨by show (1:Nat)≤1000;decide,fun r hr => by rw [List.mem_singleton.1 hr];show bs.length≤_;omega,by show (1:Nat)≤1000000;decide,by show bs.length≤_;omega,by show (1:Nat)≤1000;decide⟩
theorem read_N2 {bs:List UInt8} (h:bs.length≤500):readS ⟨1000,[1],[(bs,true)],1,bs.length⟩ 0 0 500=(bs,0):=by
 have h1:hasS ⟨1000,[1],[(bs,true)],1,bs.length⟩ 0=true:=rfl;have h2:runS ⟨1000,[1],[(bs,true)],1,bs.length⟩ 0=bs:=rfl;unfold readS;rw [if_neg (by rw [h1];decide),h2,if_neg (by omega)]
 show ((bs.drop 0).take 500,(0:Int))=_;rw [List.drop_zero,List.take_of_length_le h]
set_option maxHeartbeats 8000000 in
theorem storeNoneC {At:World → Nat → SM → (Nat → Prop) → Prop} (H:StoC At) (p:Option Addr) (n c:Nat) (zs:List Int) (k:Int) (w:World) (w0:IsRow .u8 w p n c zs) (b0:c * 1≤140737488351232) (wk:(Lit.int .i64 k).wf=true) :
 Calls Try.prog 5 #[.slice p n c,.int .i64 k] w fun e w' => e=.returned (.bool true)∧Below w.heap.size w w':=by
 obtain ⟨hb,hl,hc,hm⟩:=bat_of_row w0;obtain ⟨bs,hbs⟩:∃ bs,bytesOf (zs.take n)=bs:=⟨_,rfl⟩;rw [hbs] at hb hl;have HC:=Lib.hid H;have HBT:=Lib.hid hb;have HL:=Lib.hid hl;have HM:=Lib.hid (And.intro hc hm)
 have hkw:-9223372036854775808≤k∧k≤9223372036854775807:=by
  simp only [Lit.wf,Bool.and_eq_true,decide_eq_true_eq] at wk;have h1:IntKind.i64.min = -9223372036854775808:=rfl;have h2:IntKind.i64.max=9223372036854775807:=rfl;omega
 obtain ⟨hk1,hk2⟩:=hkw;clear w0 hbs hb hl H wk hc hm
 go_enter Try.func5,Try.ntmps5
 by_cases hbig:500 < n
 ·have hz:(500:Int) < (n:Int):=by omega
  go_wp2_with fail
  refine (ans14_any HC.out w).mono ?_
  rintro e w1 ⟨rfl,hb1⟩;have HB1:=Lib.hid hb1;clear hb1
  go_wp2
  go_ret
  exact ⟨rfl,HB1.out⟩
 ·have hz:¬ ((500:Int) < (n:Int)):=by omega
  go_wp2_with fail
  refine (HC.out.create0 w).mono ?_
  rintro e w1 ⟨rfl,hk⟩;have HB1:=Lib.hid (hk.below (Nat.le_refl _) (fun _ h => h.elim))
  clear hk
  go_wp2_with fail
  refine (HC.out.read0 w1 k k k).mono ?_
  rintro e w2 ⟨v2,rfl,_,hk⟩;have HB2:=Lib.hid (HB1.out.trans (hk.below HB1.out.size (fun _ h => h.elim)))
  clear hk HB1;obtain ⟨W3,hW3⟩:∃ W3,w2.alloc (.cells #[.int .i64 1] 3)=W3:=⟨_,rfl⟩;have hb3:Below w2.heap.size w2 W3:=by rw [← hW3];exact (Below.refl _ _).alloc (Nat.le_refl _) _
  have hx3:Blk W3 w2.heap.size 3 #[.int .i64 1]:=by rw [← hW3];exact Blk.new w2 _ _
  have HX3:=Lib.hid hx3;have HB3:=Lib.hid (HB2.out.trans (hb3.mono HB2.out.size));have HNEW:=Lib.hid (HC.out.new W3 1000 (some ⟨w2.heap.size,0,none⟩) 1 1 [1] (by rw [← hW3];exact iat_lit w2 [1]) rfl (Nat.le_refl _) (by decide) (by decide) (by decide) (by decide))
  clear hb3 hx3
  go_wp2_with fail
  clear hW3;refine HNEW.out.mono ?_
  rintro e w4 ⟨g,own,rfl,ha,ho,hb⟩;have hx4:=HX3.out.below hb HX3.out.lt;have HX4:=Lib.hid hx4;have HA4:Hid (At w4 g N0 own):=Lib.hid ha;have HO4:Hid ((∀ b,own b → w.heap.size≤b)∧¬ own w2.heap.size):=Lib.hid ⟨fun b hb => Nat.le_trans HB3.out.size (ho b hb),fun h => by have:=ho _ h;have:=HX3.out.lt;omega⟩
  have HB4:=Lib.hid (HB3.out.trans (hb.mono HB3.out.size));have f4:=hx4.frozen 0;have c4:=hx4.cell 0;simp only [List.getElem?_toArray,List.getElem?_cons_zero] at c4;clear ha ho hb hx4 HNEW HX3 HB3
  go_upto_region 9 with fail
  obtain ⟨W5,hW5⟩:∃ W5,w4.setCell ⟨w2.heap.size,0,none⟩ (.int .i64 0)=W5:=⟨_,rfl⟩;have hk5:Kept (oneB w2.heap.size) w4 W5:=by rw [← hW5];exact (Kept.refl (oneB w2.heap.size) w4).setCell (a:=⟨w2.heap.size,0,none⟩) (.inr rfl) _
  have HA5:Hid (At W5 g N0 own):=Lib.hid (HC.out.frame HA4.out hk5 (fun b hb e => HO4.out.2 (by rw [← show b=w2.heap.size from e];exact hb)))
  have HB5:Hid (Below w.heap.size w W5):=Lib.hid (HB4.out.trans (hk5.below HB4.out.size (fun b e => by rw [show b=w2.heap.size from e];exact HB2.out.size)))
  rw [hW5];clear hW5 hk5 f4 c4 HA4 HB4
  go_wp2_with (at_builtin;refine append_own rfl _ _ rfl W5.heap.size _ 0 [] rfl (World.ownsRow_made W5 #[] 0 (Nat.le_refl _) (by decide) rfl) p n c bs rfl ((HBT.out.below HB5.out).below ((Below.refl _ _).alloc (Nat.le_refl _) _)) HL.out (by omega) (by simp) ?_)
  intro v6 w6 hown hgrow;have hk6:Kept noneB W5 w6:=(((Kept.refl noneB W5).alloc _)).grown hgrow (by intro k hk;simp [Value.ownBlock] at hk;omega)
  have hb6:=hk6.below (Nat.le_refl _) (fun _ h => h.elim)
  have HA6:=Lib.hid (HC.out.frame HA5.out hk6 (fun b _ h => h.elim))
  have HB6:=Lib.hid (HB5.out.trans (hb6.mono HB5.out.size));have HR6:=Lib.hid hown
  have HNO:Hid (∀ b,v6.ownBlock=some b → W5.heap.size≤b∧b < w6.heap.size∧¬ own b):=Lib.hid (fun b hb => by
   obtain ⟨h1,h2⟩:=hown.lt b hb
   exact ⟨h1,h2,fun h => by have:=(HC.out.lt HA5.out).2 b h;omega⟩)
  clear hown hgrow hk6 hb6
  go_wp2_with fail
  refine (HC.out.create HA6.out small_N0).mono ?_
  rintro e w7 ⟨o7,rfl,ha,hs,hk⟩;obtain ⟨h1,h2⟩:=chg_below HB6.out.size (fun b hb => HO4.out.1 b hb) hs hk
  have HA7:Hid (At w7 g N1 o7):=Lib.hid ha;have HB7:=Lib.hid (HB6.out.trans h1);have HR7:=Lib.hid (own_row_kept HR6.out hk (fun b hb => (HNO.out b hb).2.2))
  have HO7:Hid ((∀ b,o7 b → w.heap.size≤b) ∧ ∀ b,v6.ownBlock=some b → ¬ o7 b∧b < w7.heap.size):=Lib.hid ⟨h2,fun b hb => ⟨fun h => by rcases hs b h with h | h;exact (HNO.out b hb).2.2 h;have:=(HNO.out b hb).2.1;omega,by have:=(HNO.out b hb).2.1;have:=hk.size;omega⟩⟩
  clear ha hs hk h1 h2 HA6 HB6 HR6;obtain ⟨p7,c7,hv6,hle7,hmx7,hbt7,hln7,hat7⟩:=OwnB.slice HR7.out;subst hv6;have hap:=HC.out.append 0 p7 n c7 bs HA7.out small_N1 hbt7 HL.out hle7 hmx7 (by omega) (fun _ a ha hoa => (HO7.out.2 _ (hat7 a ha).2.2).1 hoa) (by decide) (by decide)
  rw [append_N1 (by rw [HL.out];omega),put_N1] at hap
  have HAP:=Lib.hid hap;clear hap hle7 hmx7 hbt7 hln7
  go_wp2_with fail
  refine HAP.out.mono ?_
  rintro e w8 ⟨o8,rfl,ha,hs,hk⟩;obtain ⟨h1,h2⟩:=chg_below HB7.out.size HO7.out.1 hs hk;have HA8:=Lib.hid ha;have HB8:=Lib.hid (HB7.out.trans h1);have hr8:=own_row_kept HR7.out hk (fun b hb => (HO7.out.2 b hb).1)
  have HF8:=Lib.hid (FlipB.start hr8)
  have HO8:Hid ((∀ b,o8 b → w.heap.size≤b) ∧ ∀ b,rowB p7 n b → ¬ o8 b∧w.heap.size≤b):=Lib.hid ⟨h2,fun b hb => by
   obtain ⟨_,z,hz,rfl⟩:=hb;have hob:=(hat7 z hz).2.2
   exact ⟨fun h => by rcases hs _ h with h | h;exact (HO7.out.2 _ hob).1 h;have:=(HO7.out.2 _ hob).2;omega,by have:=(HNO.out _ hob).1;have:=HB5.out.size;omega⟩⟩
  clear ha hs hk h1 h2 hr8 hat7 HA7 HB7 HR7 HO7 HNO HAP
  go_wp2_with fail
  go_loopw [16] (fun i wr => ∃ j:Nat,j≤n∧i=.int .i64 (j:Int)∧Hid (FlipB w8 wr p7 n)) (fun i _ => n - (RowKit.intOf i).toNat)
  case atStart => exact ⟨0,Nat.zero_le _,rfl,HF8⟩
  case round =>
   obtain ⟨j,hj,rfl,hF⟩:=hrel
   by_cases hlt:j < n
   ·obtain ⟨b,o,cur,rfl,hcu,hcv⟩:=hF.out.bytes (by omega)
    obtain ⟨m,hm,hv⟩:=hcv j hlt;have cd:wr.cell? ⟨b,o+j,none⟩=some (.int .u8 (m:Int)):=by rw [hcu.cell];exact hv
    have fr:wr.frozen? ⟨b,o+j,none⟩=false:=hcu.frozen _;obtain ⟨m2,hm2,hx⟩:=xor8 hm;have HFS:Hid (FlipB w8 (wr.setCell ⟨b,o+j,none⟩ (.int .u8 (m2:Int))) (some ⟨b,o,none⟩) n):=Lib.hid (hF.out.set rfl hlt hm2);have hltz:(j:Int) < (n:Int):=by omega
    clear hcu hcv hv hF hm2
    go_wp2
    go_roundw
    case rel => exact ⟨j+1,by omega,by go_num,HFS⟩
    case measure => simp [RowKit.intOf];omega
   ·obtain rfl:j=n:=by omega
    have hks:¬ ((j:Int) < (j:Int)):=by omega
    have HA9:=Lib.hid (HC.out.frame HA8.out hF.out.kept (fun b hb h => (HO8.out.2 b h).1 hb))
    have HB9:Hid (Below w.heap.size w wr):=Lib.hid (HB8.out.trans (hF.out.kept.below HB8.out.size (fun b hb => (HO8.out.2 b hb).2)))
    obtain ⟨W9,rfl⟩:∃ x,x=wr:=⟨_,rfl⟩;have hrd:=HC.out.read 0 0 500 HA9.out (small_N2 (by rw [HL.out];omega)) (by decide) (by decide) (by decide) (by decide) (by decide) (by decide)
    rw [read_N2 (by rw [HL.out];omega)] at hrd
    have HRD:=Lib.hid hrd;clear hF hrd
    go_wp2_with fail
    refine HRD.out.mono ?_
    rintro e w10 ⟨v10,rfl,ho10,hk10⟩;have HA10:=Lib.hid (HC.out.frame HA9.out hk10 (fun b _ h => h.elim))
    have HB10:=Lib.hid (HB9.out.trans (hk10.below HB9.out.size (fun _ h => h.elim)))
    obtain ⟨p10,c10,rfl,_,_,_,_,hat10⟩:=OwnB.slice ho10
    have HO10:Hid (∀ b,rowB p10 j b → ¬ o8 b∧w.heap.size≤b):=Lib.hid (fun b hb => by
     obtain ⟨_,z,hz,rfl⟩:=hb;have h1:=(hat10 z hz).1
     exact ⟨fun h => by have:=(HC.out.lt HA9.out).2 _ h;omega,by have:=HB9.out.size;omega⟩)
    rw [HL.out] at ho10;have HF10:=Lib.hid (FlipB.start ho10)
    dsimp only
    rw [HL.out];clear ho10 hk10 hat10 HRD HA9 HB9 HA8 HB8 HF8
    go_wp2_with fail
    go_loopw [19] (fun i wr => ∃ q:Nat,q≤j∧i=.int .i64 (q:Int)∧Hid (FlipB w10 wr p10 j)) (fun i _ => j - (RowKit.intOf i).toNat)
    case atStart => exact ⟨0,Nat.zero_le _,rfl,HF10⟩
    case round =>
     obtain ⟨q,hq,rfl,hF⟩:=hrel
     by_cases hlt:q < j
     ·obtain ⟨b,o,cur,rfl,hcu,hcv⟩:=hF.out.bytes (by omega)
      obtain ⟨m,hm,hv⟩:=hcv q hlt;have cd:wr.cell? ⟨b,o+q,none⟩=some (.int .u8 (m:Int)):=by rw [hcu.cell];exact hv
      have fr:wr.frozen? ⟨b,o+q,none⟩=false:=hcu.frozen _;obtain ⟨m2,hm2,hx⟩:=xor8 hm;have HFS:Hid (FlipB w10 (wr.setCell ⟨b,o+q,none⟩ (.int .u8 (m2:Int))) (some ⟨b,o,none⟩) j):=Lib.hid (hF.out.set rfl hlt hm2);have hltz:(q:Int) < (j:Int):=by omega
      clear hcu hcv hv hF hm2
      go_wp2
      go_roundw
      case rel => exact ⟨q+1,by omega,by go_num,HFS⟩
      case measure => simp [RowKit.intOf];omega
     ·obtain rfl:q=j:=by omega
      have hks2:¬ ((q:Int) < (q:Int)):=by omega
      have HA11:=Lib.hid (HC.out.frame HA10.out hF.out.kept (fun b hb h => (HO10.out b h).1 hb))
      have HB11:Hid (Below w.heap.size w wr):=Lib.hid (HB10.out.trans (hF.out.kept.below HB10.out.size (fun b hb => (HO10.out b hb).2)))
      have hrd:=HC.out.read 0 0 500 HA11.out (small_N2 (by rw [HL.out];omega)) (by decide) (by decide) (by decide) (by decide) (by decide) (by decide)
      rw [read_N2 (by rw [HL.out];omega)] at hrd
      have HRD:=Lib.hid hrd;clear hF hrd
      go_wp2_with fail
      refine HRD.out.mono ?_
      rintro e w12 ⟨v12,rfl,ho12,hk12⟩;have HB12:=Lib.hid (HB11.out.trans (hk12.below HB11.out.size (fun _ h => h.elim)))
      obtain ⟨p12,c12,rfl,_,_,hbt12,_,_⟩:=OwnB.slice ho12;rw [HL.out] at hbt12;have HT12:=Lib.hid hbt12
      dsimp only
      rw [HL.out];clear ho12 hk12 hbt12 HRD HA11 HB11 HA10 HB10 HF10
      go_wp2_with fail
      refine (ans14_any HC.out w12).mono ?_
      rintro e w13 ⟨rfl,hb13⟩;have HB13:=Lib.hid (HB12.out.trans (hb13.mono HB12.out.size));have HT13:=Lib.hid (HT12.out.below hb13);clear hb13 HB12 HT12
      go_wp2_with fail
      refine (HC.out.append0 w13 k p q c).mono ?_
      rintro e w14 ⟨rfl,hk⟩;have HB14:=Lib.hid (HB13.out.trans (hk.below HB13.out.size (fun _ h => h.elim)))
      have HT14:=Lib.hid (HT13.out.below (hk.below (Nat.le_refl _) (fun _ h => h.elim)))
      clear hk HB13 HT13
      go_wp2_with fail
      refine (HC.out.drop0 w14 k).mono ?_
      rintro e w15 ⟨rfl,hk⟩;have HB15:=Lib.hid (HB14.out.trans (hk.below HB14.out.size (fun _ h => h.elim)))
      have HT15:=Lib.hid (HT14.out.below (hk.below (Nat.le_refl _) (fun _ h => h.elim)))
      clear hk HB14 HT14
      go_wp2_with fail
      refine (HC.out.size0 w15 k).mono ?_
      rintro e w16 ⟨rfl,hk⟩;have HB16:=Lib.hid (HB15.out.trans (hk.below HB15.out.size (fun _ h => h.elim)))
      have HT16:=Lib.hid (HT15.out.below (hk.below (Nat.le_refl _) (fun _ h => h.elim)))
      clear hk HB15 HT15
      go_wp2_with fail
      refine (HC.out.used0 w16).mono ?_
      rintro e w17 ⟨rfl,hk⟩;have HB17:=Lib.hid (HB16.out.trans (hk.below HB16.out.size (fun _ h => h.elim)))
      have HT17:=Lib.hid (HT16.out.below (hk.below (Nat.le_refl _) (fun _ h => h.elim)))
      clear hk HB16 HT16
      go_wp2_with fail
      refine (HC.out.peak0 w17).mono ?_
      rintro e w18 ⟨rfl,hk⟩;have HB18:=Lib.hid (HB17.out.trans (hk.below HB17.out.size (fun _ h => h.elim)))
      have HT18:=Lib.hid (HT17.out.below (hk.below (Nat.le_refl _) (fun _ h => h.elim)))
      clear hk HB17 HT17
      go_wp2_with fail
      refine (HC.out.writes0 w18).mono ?_
      rintro e w19 ⟨rfl,hk⟩;have HB19:=Lib.hid (HB18.out.trans (hk.below HB18.out.size (fun _ h => h.elim)))
      have HT19:=Lib.hid (HT18.out.below (hk.below (Nat.le_refl _) (fun _ h => h.elim)))
      clear hk HB18 HT18;have cv1:=conv_at (P:=Try.prog) HT19.out HL.out _ _ _ Try.underlying32 Try.underlying5 Try.underlying9 c12;have cv2:=conv_at (P:=Try.prog) (HBT.out.below HB19.out) HL.out _ _ _ Try.underlying32 Try.underlying5 Try.underlying9 c
      go_wp2
      go_ret
      exact ⟨rfl,HB19.out⟩
end Go.Proofs.Ytfpoipamioaklaa.Walk
end
