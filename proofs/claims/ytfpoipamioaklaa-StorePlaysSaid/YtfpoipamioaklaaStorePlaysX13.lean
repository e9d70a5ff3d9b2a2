/- Texts of this seat, merged: what the proof reaches. -/
import Derived.Test.YtfpoipamioaklaaStorePlaysX12
import Derived.Test.YtfpoipamioaklaaStorePlaysX7
import Derived.Lib.SlBytesConst
import Derived.Deep.DeepCutAuto
import Derived.Test.YtfpoipamioaklaaStorePlaysX3
import Derived.Test.YtfpoipamioaklaaStorePlaysX4
import Derived.Deep.RegionLaw
import Derived.BigQuiet
namespace Go.Proofs.Ytfpoipamioaklaa
namespace Base
end Base
namespace Bk
end Bk
namespace Block
end Block
namespace Byt
end Byt
namespace Txt
end Txt
end Go.Proofs.Ytfpoipamioaklaa
section
namespace Go.Proofs.Ytfpoipamioaklaa.Sto
open Go.ChangeShapes Go.WideShapes Go.ChangeAt Go.RowKit Base Byt Txt Bk Block Go.Lib
set_option linter.unusedVariables false
set_option maxRecDepth 100000
section
variable {At:World → Nat → SM → (Nat → Prop) → Prop} {w w':World} {g:Nat} {M:SM} {own own':Nat → Prop}
theorem chg_below {B:Nat} (hB:B≤w.heap.size) (ho:∀ b,own b → B≤b) (hs:∀ b,own' b → own b ∨ w.heap.size≤b) (hk:Kept own w w'):Below B w w' ∧ ∀ b,own' b → B≤b:=
 ⟨hk.below hB ho,fun b hb => by rcases hs b hb with h | h;exact ho b h;omega⟩
end
theorem iat_lit (w:World) (zs:List Int):IAt (w.alloc (.cells (zs.map (Value.int .i64)).toArray 3)) (some ⟨w.heap.size,0,none⟩) zs.length zs:=fun _ => ⟨w.heap.size,0,rfl,by simp,fun i hi => by
 rw [Nat.zero_add,(Blk.new w _ _).cell]
 simp [List.getD,hi]⟩
theorem bat_lit (w:World) (bs:List UInt8) (fr:Nat × Nat):BAt (w.alloc (.cells ((nums bs).map (Value.int .u8)).toArray 5 fr)) (some ⟨w.heap.size,0,none⟩) bs.length bs:=fun _ => ⟨w.heap.size,0,rfl,fun i hi => by
 unfold World.cell?;rw [heap_alloc_new]
 simp [nums,List.getD,hi]⟩
def A1:SM:=⟨3,[1],[([],true)],0,0⟩
def A2:SM:=⟨3,[1],[([97,98],true)],1,2⟩
def A3:SM:=⟨3,[1],[([97,98],true)],2,2⟩
def A4:SM:=⟨3,[1],[([97,98],true)],3,2⟩
theorem small_A (M:SM) (h1:M.runs.length≤1) (h2:∀ r ∈ M.runs,r.1.length≤2) (h3:M.writes≤3) (h4:M.peak≤2) (h5:M.fails.length≤1):SmallS M:=⟨by omega,fun r hr => by have:=h2 r hr;omega,by omega,by omega,by omega⟩
theorem small_A1:SmallS A1:=small_A _ (by decide) (by decide) (by decide) (by decide) (by decide)
theorem small_A2:SmallS A2:=small_A _ (by decide) (by decide) (by decide) (by decide) (by decide)
theorem small_A3:SmallS A3:=small_A _ (by decide) (by decide) (by decide) (by decide) (by decide)
theorem small_A4:SmallS A4:=small_A _ (by decide) (by decide) (by decide) (by decide) (by decide)
theorem small_A0:SmallS (newS 3 [1]):=⟨by decide,by decide,by decide,by decide,by decide⟩
set_option maxHeartbeats 2000000 in
theorem ans14_any {At:World → Nat → SM → (Nat → Prop) → Prop} (H:StoC At) (w:World) :
 Calls Try.prog 7 #[] w fun e w' => e=.returned (.bool true)∧Below w.heap.size w w':=by
 have HC:=Lib.hid H;obtain ⟨W,hW⟩:∃ W,w.alloc (.cells #[.int .i64 1] 3)=W:=⟨_,rfl⟩;have HB:=Lib.hid (show Below w.heap.size w W by rw [← hW];exact (Below.refl _ _).alloc (Nat.le_refl _) _)
 have HNEW:=Lib.hid (H.new W 3 (some ⟨w.heap.size,0,none⟩) 1 1 [1] (by rw [← hW];exact iat_lit w [1]) rfl (Nat.le_refl _) (by decide) (by decide) (by decide) (by decide))
 clear H
 go_enter Try.func7,Try.ntmps7
 go_wp2_with fail
 clear hW;refine HNEW.out.mono ?_
 rintro e w1 ⟨g,own,rfl,ha,ho,hb⟩;have HA:=Lib.hid ha;have HO:Hid (∀ b,own b → w.heap.size≤b):=Lib.hid (fun b hb => Nat.le_trans HB.out.size (ho b hb))
 have HB1:=Lib.hid (HB.out.trans (hb.mono HB.out.size));clear ha ho hb HNEW HB
 go_wp2_with fail
 refine (HC.out.create HA.out small_A0).mono ?_
 rintro e w2 ⟨o2,rfl,ha,hs,hk⟩;obtain ⟨h1,h2⟩:=chg_below HB1.out.size HO.out hs hk;have HA2:Hid (At w2 g A1 o2):=Lib.hid ha;have HB2:=Lib.hid (HB1.out.trans h1);have HO2:=Lib.hid h2;clear ha hs hk h1 h2 HA HO HB1
 have kc2:(convert 32 32 (.slice (some ⟨w2.heap.size,0,none⟩) 2 2)).run Try.prog (w2.alloc (.cells #[.int .u8 97,.int .u8 98] 5))=.ok (.slice (some ⟨w2.heap.size,0,none⟩) 2 2) (w2.alloc (.cells #[.int .u8 97,.int .u8 98] 5 (2,3))):=
  Lib.run_convert_bytes_const (P:=Try.prog) w2 32 5 #[.int .u8 97,.int .u8 98] 2 2 Try.underlying32 Try.underlying5
 obtain ⟨V2,hV2⟩:∃ V,w2.alloc (.cells #[.int .u8 97,.int .u8 98] 5 (2,3))=V:=⟨_,rfl⟩;have hb2:Below w2.heap.size w2 V2:=by rw [← hV2];exact (Below.refl _ _).alloc (Nat.le_refl _) _
 have HAV:=Lib.hid (HC.out.frame HA2.out (Kept.of_below hb2 noneB) (fun b _ h => h.elim))
 have HCA:=Lib.hid (HC.out.append 0 (some ⟨w2.heap.size,0,none⟩) 2 2 [97,98] HAV.out small_A1 (by rw [← hV2];exact bat_lit w2 [97,98] (2,3)) rfl (Nat.le_refl _) (by decide) (by decide) (fun _ a ha hoa => by cases ha;exact Nat.lt_irrefl _ ((HC.out.lt HA2.out).2 _ hoa)) (by decide) (by decide))
 have HBV:=Lib.hid (HB2.out.trans (hb2.mono HB2.out.size));clear hb2 HA2 HB2 HAV
 go_wp2_with fail
 clear kc2 hV2;refine HCA.out.mono ?_
 rintro e w3 ⟨o3,rfl,ha,hs,hk⟩;obtain ⟨h1,h2⟩:=chg_below HBV.out.size HO2.out hs hk;have HA3:Hid (At w3 g A2 o3):=Lib.hid ha;have HB3:=Lib.hid (HBV.out.trans h1);have HO3:=Lib.hid h2;clear ha hs hk h1 h2 HCA HBV HO2
 have kc3:(convert 32 32 (.slice (some ⟨w3.heap.size,0,none⟩) 1 1)).run Try.prog (w3.alloc (.cells #[.int .u8 99] 5))=.ok (.slice (some ⟨w3.heap.size,0,none⟩) 1 1) (w3.alloc (.cells #[.int .u8 99] 5 (1,2))):=
  Lib.run_convert_bytes_const (P:=Try.prog) w3 32 5 #[.int .u8 99] 1 1 Try.underlying32 Try.underlying5
 obtain ⟨V3,hV3⟩:∃ V,w3.alloc (.cells #[.int .u8 99] 5 (1,2))=V:=⟨_,rfl⟩;have hb3:Below w3.heap.size w3 V3:=by rw [← hV3];exact (Below.refl _ _).alloc (Nat.le_refl _) _
 have HAV:=Lib.hid (HC.out.frame HA3.out (Kept.of_below hb3 noneB) (fun b _ h => h.elim))
 have HCA:=Lib.hid (HC.out.append 0 (some ⟨w3.heap.size,0,none⟩) 1 1 [99] HAV.out small_A2 (by rw [← hV3];exact bat_lit w3 [99] (1,2)) rfl (Nat.le_refl _) (by decide) (by decide) (fun _ a ha hoa => by cases ha;exact Nat.lt_irrefl _ ((HC.out.lt HA3.out).2 _ hoa)) (by decide) (by decide))
 have HBV:=Lib.hid (HB3.out.trans (hb3.mono HB3.out.size));clear hb3 HA3 HB3 HAV
 go_wp2_with fail
 clear kc3 hV3;refine HCA.out.mono ?_
 rintro e w4 ⟨o4,rfl,ha,hs,hk⟩;obtain ⟨h1,h2⟩:=chg_below HBV.out.size HO3.out hs hk;have HA4:Hid (At w4 g A3 o4):=Lib.hid ha;have HB4:=Lib.hid (HBV.out.trans h1);have HO4:=Lib.hid h2;clear ha hs hk h1 h2 HCA HBV HO3
 have kc4:(convert 32 32 (.slice (some ⟨w4.heap.size,0,none⟩) 2 2)).run Try.prog (w4.alloc (.cells #[.int .u8 99,.int .u8 100] 5))=.ok (.slice (some ⟨w4.heap.size,0,none⟩) 2 2) (w4.alloc (.cells #[.int .u8 99,.int .u8 100] 5 (2,3))):=
  Lib.run_convert_bytes_const (P:=Try.prog) w4 32 5 #[.int .u8 99,.int .u8 100] 2 2 Try.underlying32 Try.underlying5
 obtain ⟨V4,hV4⟩:∃ V,w4.alloc (.cells #[.int .u8 99,.int .u8 100] 5 (2,3))=V:=⟨_,rfl⟩;have hb4:Below w4.heap.size w4 V4:=by rw [← hV4];exact (Below.refl _ _).alloc (Nat.le_refl _) _
 have HAV:=Lib.hid (HC.out.frame HA4.out (Kept.of_below hb4 noneB) (fun b _ h => h.elim))
 have HCA:=Lib.hid (HC.out.append 0 (some ⟨w4.heap.size,0,none⟩) 2 2 [99,100] HAV.out small_A3 (by rw [← hV4];exact bat_lit w4 [99,100] (2,3)) rfl (Nat.le_refl _) (by decide) (by decide) (fun _ a ha hoa => by cases ha;exact Nat.lt_irrefl _ ((HC.out.lt HA4.out).2 _ hoa)) (by decide) (by decide))
 have HBV:=Lib.hid (HB4.out.trans (hb4.mono HB4.out.size));clear hb4 HA4 HB4 HAV
 go_wp2_with fail
 clear kc4 hV4;refine HCA.out.mono ?_
 rintro e w5 ⟨o5,rfl,ha,hs,hk⟩;obtain ⟨h1,h2⟩:=chg_below HBV.out.size HO4.out hs hk;have HA5:Hid (At w5 g A4 o5):=Lib.hid ha;have HB5:=Lib.hid (HBV.out.trans h1);have HO5:=Lib.hid h2;clear ha hs hk h1 h2 HCA HBV HO4;have hrd:=HC.out.read 0 1 9 HA5.out small_A4 (by decide) (by decide) (by decide) (by decide) (by decide) (by decide)
 rw [show readS A4 0 1 9=([98],0) by decide] at hrd
 have HRD:=Lib.hid hrd;clear hrd
 go_wp2_with fail
 refine HRD.out.mono ?_
 rintro e w6 ⟨v6,rfl,ho6,hk6⟩;have HA6:=Lib.hid (HC.out.frame HA5.out hk6 (fun b _ h => h.elim))
 have HB6:=Lib.hid (HB5.out.trans (hk6.below HB5.out.size (fun _ h => h.elim)))
 obtain ⟨p6,c6,rfl,_,_,hbt,hln,_⟩:=OwnB.slice ho6;have cv:=conv_at (P:=Try.prog) hbt rfl _ _ _ Try.underlying32 Try.underlying5 Try.underlying9 c6;change (convert 32 9 (.slice p6 1 c6)).run Try.prog w6=.ok (.string ⟨#[98]⟩) w6 at cv;change Hid (At w6 g A4 o5) at HA6;clear ho6 hk6 hln hbt HA5 HB5 HRD
 go_wp2_with fail
 clear cv;refine (HC.out.writes HA6.out small_A4).mono ?_
 rintro e w7 ⟨rfl,hk7⟩;have HA7:=Lib.hid (HC.out.frame HA6.out hk7 (fun b _ h => h.elim))
 have HB7:=Lib.hid (HB6.out.trans (hk7.below HB6.out.size (fun _ h => h.elim)))
 clear hk7 HA6 HB6
 go_wp2_with fail
 refine (HC.out.used HA7.out small_A4).mono ?_
 rintro e w8 ⟨rfl,hk8⟩;have HB8:=Lib.hid (HB7.out.trans (hk8.below HB7.out.size (fun _ h => h.elim)))
 clear hk8 HA7 HB7
 go_wp2
 go_ret
 exact ⟨rfl,HB8.out⟩
end Go.Proofs.Ytfpoipamioaklaa.Sto
end
section
namespace Go.Proofs.Ytfpoipamioaklaa.Sto
open Go.ChangeShapes Go.WideShapes Go.ChangeAt Go.RowKit Base Byt Txt Bk Block Go.Lib
set_option linter.unusedVariables false
set_option maxRecDepth 100000
def rowB (p:Option Addr) (n:Nat) (b:Nat):Prop:=0 < n ∧ ∃ z,p=some z∧z.block=b
structure FlipB (w0 wr:World) (p:Option Addr) (n:Nat):Prop where
 kept:Kept (rowB p n) w0 wr
 bytes:0 < n → ∃ b o cur,p=some ⟨b,o,none⟩∧Blk wr b 5 cur ∧ ∀ k,k < n → ∃ m:Nat,m < 256∧cur[o+k]? = some (.int .u8 (m:Int))
theorem FlipB.start {w:World} {B:Nat} {p:Option Addr} {n c:Nat} {bs:List UInt8} (h:OwnB w B (.slice p n c) n bs):FlipB w w p n:=⟨Kept.refl _ _,fun h0 => by
 have hb:BAt w p n bs:=by
  obtain ⟨p2,c2,he,_,_,hb,_⟩:=OwnB.slice h
  cases he;exact hb
 rcases h.2 with ⟨h1,_⟩ | ⟨g,cap,cur,h1,_,hg,_⟩
 ·cases h1;omega
 ·cases h1
  refine ⟨g,0,cur,rfl,hg,fun k hk => ⟨(bs.getD k 0).toNat,UInt8.toNat_lt _,?_⟩⟩
  obtain ⟨b,o,he,hc⟩:=hb h0
  cases he
  have hg2:Blk w g 5 cur:=hg;rw [← hg2.cell]
  exact hc k hk⟩
end Go.Proofs.Ytfpoipamioaklaa.Sto
end
section
namespace Go.Proofs.Ytfpoipamioaklaa.Sto
open Go.ChangeShapes Go.WideShapes Go.ChangeAt Go.RowKit Base Byt Txt Bk Block Go.Lib
set_option linter.unusedVariables false
set_option maxRecDepth 100000
structure RR where
 b:List UInt8
 t:Bool
 p:Option Addr
 c:Nat
def RR.v (x:RR):List UInt8 × Bool:=(x.b,x.t)
def RR.cell (x:RR):Value:=.slice x.p x.b.length x.c
def zeroR:RR:=⟨[],false,none,0⟩
structure RefA (w:World) (B r:Nat) (M:SM) (q:Option Addr) (m d:Nat) (vr vt:Value) (rs:List RR):Prop where
 obj:Blk w r 31 #[.int .i64 (M.room:Nat),.slice q m d,vr,vt,.int .i64 (M.writes:Nat),.int .i64 (M.peak:Nat)]
 fails:IAt w q m M.fails
 flen:M.fails.length=m
 says:rs.map RR.v=M.runs
 runs:w.ownsRow B 32 1 vr rs.length (rs.map RR.cell)
 there:w.ownsRow B 4 1 vt rs.length (rs.map fun x => .bool x.t)
 data:∀ x ∈ rs,BAt w x.p x.b.length x.b∧x.b.length≤x.c∧x.c≤maxLen
 dblk:∀ x ∈ rs,0 < x.b.length → ∀ a,x.p=some a → B≤a.block ∧ ∃ cur,Blk w a.block 5 cur
 flt:0 < m → ∀ a,q=some a → a.block < B
 base:B≤r
theorem own_form {w:World} {B:Nat} {e:TypeId} {v:Value} {n:Nat} {xs:List Value} (h:w.ownsRow B e 1 v n xs):∃ p c,v=.slice p n c∧n≤c∧c≤maxLen∧(0 < n → ∃ g cur,p=some ⟨g,0,none⟩∧Blk w g e cur∧B≤g ∧ ∀ i,i < n → cur[i]? = xs[i]?):=by
 rcases h.2 with ⟨h1,h2⟩ | ⟨g,cap,cur,h1,hb,hg,hn,hc,hs,ht⟩
 ·exact ⟨none,0,by rw [h1,h2],by omega,by decide,fun h0 => by omega⟩
 ·refine ⟨_,cap,h1,hn,hc,fun h0 => ⟨g,cur,rfl,hg,hb,fun i hi => ?_⟩⟩
  have hl:xs.length=n:=by have:=h.1;omega
  have e2:=congrArg (fun l => l[i]?) ht
  simp only [List.getElem?_take,Array.getElem?_toList] at e2;rw [if_pos (by omega)] at e2
  exact e2
theorem getR_map (rs:List RR) (k:Nat):(rs.map RR.v).getD k ([],false)=(rs.getD k zeroR).v:=by
 rw [List.getD,List.getD,List.getElem?_map]
 cases rs[k]?<;>rfl
theorem getR_eq {rs:List RR} {k:Nat} (hk:k < rs.length):rs[k]? = some (rs.getD k zeroR):=by rw [List.getD,List.getElem?_eq_getElem hk];rfl
section
variable {w w':World} {B r:Nat} {M:SM} {q:Option Addr} {m d:Nat} {vr vt:Value} {rs:List RR}
theorem RefA.rlen (h:RefA w B r M q m d vr vt rs):rs.length=M.runs.length:=by rw [← h.says,List.length_map]
theorem RefA.get (h:RefA w B r M q m d vr vt rs) (k:Nat):M.runs.getD k ([],false)=((rs.getD k zeroR).b,(rs.getD k zeroR).t):=by rw [← h.says,getR_map];rfl
end
theorem blk_one {w:World} {b:Nat} {t t':TypeId} {cs cs':Array Value} (h:Blk w b t cs) (h':Blk w b t' cs'):t=t':=by
 unfold Blk at h h';rw [h] at h'
 injection h' with h1
 injection h1
theorem own_blk1 {w:World} {B:Nat} {e:TypeId} {v:Value} {n:Nat} {xs:List Value} (h:w.ownsRow B e 1 v n xs) {b:Nat} (hb:v.ownBlock=some b):∃ cur,Blk w b e cur:=by
 rcases h.2 with ⟨h1,_⟩ | ⟨g,cap,cur,h1,_,hg,_⟩
 ·subst h1;cases hb
 ·subst h1;cases hb;exact ⟨cur,hg⟩
def refS (r:Nat) (vr vt:Value) (b:Nat):Prop:=b=r ∨ vr.ownBlock=some b ∨ vt.ownBlock=some b
section
variable {w w':World} {B r:Nat} {M:SM} {q:Option Addr} {m d:Nat} {vr vt:Value} {rs:List RR}
theorem RefA.ne_rv (h:RefA w B r M q m d vr vt rs):vr.ownBlock≠some r∧vt.ownBlock≠some r ∧ ∀ b,vr.ownBlock=some b → vt.ownBlock≠some b:=by
 refine ⟨fun e => ?_,fun e => ?_,fun b e e' => ?_⟩
 ·obtain ⟨cur,hb⟩:=own_blk1 h.runs e
  exact absurd (blk_one h.obj hb) (by decide)
 ·obtain ⟨cur,hb⟩:=own_blk1 h.there e
  exact absurd (blk_one h.obj hb) (by decide)
 ·obtain ⟨cur,hb⟩:=own_blk1 h.runs e
  obtain ⟨cur',hb'⟩:=own_blk1 h.there e';exact absurd (blk_one hb hb') (by decide)
theorem RefA.ne_data (h:RefA w B r M q m d vr vt rs) {x:RR} (hx:x ∈ rs) (h0:0 < x.b.length) {a:Addr} (ha:x.p=some a):¬ refS r vr vt a.block:=by
 obtain ⟨_,cur,hb⟩:=h.dblk x hx h0 a ha;rintro (e | e | e)
 ·rw [e] at hb;exact absurd (blk_one h.obj hb) (by decide)
 ·obtain ⟨cur',hb'⟩:=own_blk1 h.runs e
  exact absurd (blk_one hb' hb) (by decide)
 ·obtain ⟨cur',hb'⟩:=own_blk1 h.there e
  exact absurd (blk_one hb' hb) (by decide)
theorem RefA.ne_fails (h:RefA w B r M q m d vr vt rs) (h0:0 < m) {a:Addr} (ha:q=some a):¬ refS r vr vt a.block:=by
 have:=h.flt h0 a ha;rintro (e | e | e)
 ·have:=h.base;omega
 ·have:=(h.runs.lt _ e).1;omega
 ·have:=(h.there.lt _ e).1;omega
theorem RefA.kept {S:Nat → Prop} (h:RefA w B r M q m d vr vt rs) (hk:Kept S w w') (hr:¬ S r) (hv:∀ b,vr.ownBlock=some b → ¬ S b) (ht:∀ b,vt.ownBlock=some b → ¬ S b) (hd:∀ x ∈ rs,0 < x.b.length → ∀ a,x.p=some a → ¬ S a.block) (hf:0 < m → ∀ a,q=some a → ¬ S a.block):RefA w' B r M q m d vr vt rs where
 obj:=h.obj.keptS hk hr
 fails:=h.fails.kept hk hf
 flen:=h.flen
 says:=h.says
 runs:=ownsRow_kept h.runs hk hv
 there:=ownsRow_kept h.there hk ht
 data:=fun x hx => ⟨(h.data x hx).1.kept hk (hd x hx),(h.data x hx).2⟩
 dblk:=fun x hx h0 a ha => by
  obtain ⟨h1,cur,hb⟩:=h.dblk x hx h0 a ha;exact ⟨h1,cur,hb.keptS hk (hd x hx h0 a ha)⟩
 flt:=h.flt
 base:=h.base
theorem RefA.none_ (h:RefA w B r M q m d vr vt rs) (hk:Kept noneB w w'):RefA w' B r M q m d vr vt rs:=h.kept hk (fun h => h) (fun _ _ h => h) (fun _ _ h => h) (fun _ _ _ _ _ h => h) (fun _ _ _ h => h)
theorem RefA.obj_ (h:RefA w B r M q m d vr vt rs) {M':SM} (hk:Kept (oneB r) w w') (ho:Blk w' r 31 #[.int .i64 (M'.room:Nat),.slice q m d,vr,vt,.int .i64 (M'.writes:Nat),.int .i64 (M'.peak:Nat)]) (h1:M'.fails=M.fails) (h2:M'.runs=M.runs):RefA w' B r M' q m d vr vt rs where
 obj:=ho
 fails:=by rw [h1];exact h.fails.kept hk (fun h0 a ha e => h.ne_fails h0 ha (.inl e))
 flen:=by rw [h1];exact h.flen
 says:=by rw [h2];exact h.says
 runs:=ownsRow_kept h.runs hk (fun b hb e => h.ne_rv.1 (by rw [← show b=r from e];exact hb))
 there:=ownsRow_kept h.there hk (fun b hb e => h.ne_rv.2.1 (by rw [← show b=r from e];exact hb))
 data:=fun x hx => ⟨(h.data x hx).1.kept hk (fun h0 a ha e => h.ne_data hx h0 ha (.inl e)),(h.data x hx).2⟩
 dblk:=fun x hx h0 a ha => by
  obtain ⟨g1,cur,hb⟩:=h.dblk x hx h0 a ha;exact ⟨g1,cur,hb.keptS hk (fun e => h.ne_data hx h0 ha (.inl e))⟩
 flt:=h.flt
 base:=h.base
theorem RefA.run_ (h:RefA w B r M q m d vr vt rs) {k:Nat} (hk:k < rs.length) {x:RR} (hd:BAt w x.p x.b.length x.b∧x.b.length≤x.c∧x.c≤maxLen) (hb:0 < x.b.length → ∀ a,x.p=some a → B≤a.block ∧ ∃ cur,Blk w a.block 5 cur) (ht:x.t=(rs.getD k zeroR).t) {g:Nat} {p:Option Addr} {n c:Nat} (hv:vr=.slice p n c) (hp:p=some ⟨g,0,none⟩) :
 RefA (w.setCell ⟨g,k,none⟩ x.cell) B r { M with runs:=M.runs.set k x.v } q m d vr vt (rs.set k x):=by
 have hvb:vr.ownBlock=some g:=by rw [hv,hp];rfl
 have hK:Kept (oneB g) w (w.setCell ⟨g,k,none⟩ x.cell):=(Kept.refl (oneB g) w).setCell (a:=⟨g,k,none⟩) (.inr rfl) _;have hxm:∀ y ∈ rs.set k x,y ∈ rs ∨ y=x:=fun y hy => List.mem_or_eq_of_mem_set hy
 have hrow:(w.setCell ⟨g,k,none⟩ x.cell).ownsRow B 32 1 vr (rs.set k x).length ((rs.set k x).map RR.cell):=by
  rcases h.runs.2 with ⟨h1,_⟩ | ⟨g',cap,cur,h1,h2,h3,h4,h5,h6,h7⟩
  ·rw [h1] at hvb;cases hvb
  ·have hg:g'=g:=by rw [h1] at hvb;cases hvb;rfl
   subst hg;have hlt:k < cur.size:=by omega
   have hbk:Blk w g' 32 cur:=h3;refine ⟨by rw [List.length_map,Nat.mul_one],.inr ⟨g',cap,cur.set k x.cell hlt,by rw [List.length_set];exact h1,h2,hbk.set k _ hlt,by rw [List.length_set];exact h4,h5,by rw [Array.size_set];exact h6,?_⟩⟩
   rw [List.map_set,List.length_set,Array.toList_set,List.take_set,h7]
 exact
 { obj:=h.obj.keptS hK (fun e => h.ne_rv.1 (by rw [hvb,show r=g from e]))
   fails:=h.fails.kept hK (fun h0 a ha e => h.ne_fails h0 ha (.inr (.inl (by rw [hvb,show a.block=g from e]))))
   flen:=h.flen
   says:=by rw [List.map_set,h.says]
   runs:=hrow
   there:=by
    have e:(rs.set k x).map (fun x => Value.bool x.t)=rs.map fun x => Value.bool x.t:=by
     rw [List.map_set];apply List.ext_getElem (by simp)
     intro i h1 h2;rw [List.getElem_set]
     split
     ·next e => subst e;rw [ht,List.getElem_map,List.getD,List.getElem?_eq_getElem hk];rfl
     ·rfl
    rw [e,List.length_set];exact ownsRow_kept h.there hK (fun b hb2 e => h.ne_rv.2.2 g hvb (by rw [← show b=g from e];exact hb2))
   data:=fun y hy => by
    rcases hxm y hy with hy | rfl
    ·exact ⟨(h.data y hy).1.kept hK (fun h0 a ha e => h.ne_data hy h0 ha (.inr (.inl (by rw [hvb,show a.block=g from e])))),(h.data y hy).2⟩
    ·refine ⟨hd.1.kept hK (fun h0 a ha e => ?_),hd.2⟩
     obtain ⟨_,cur,hc⟩:=hb h0 a ha;obtain ⟨cur',hc'⟩:=own_blk1 h.runs hvb;rw [show a.block=g from e] at hc
     exact absurd (blk_one hc' hc) (by decide)
   dblk:=fun y hy h0 a ha => by
    rcases hxm y hy with hy | rfl
    ·obtain ⟨g1,cur,hc⟩:=h.dblk y hy h0 a ha
     exact ⟨g1,cur,hc.keptS hK (fun e => h.ne_data hy h0 ha (.inr (.inl (by rw [hvb,show a.block=g from e]))))⟩
    ·obtain ⟨g1,cur,hc⟩:=hb h0 a ha
     refine ⟨g1,cur,hc.keptS hK (fun e => ?_)⟩
     obtain ⟨cur',hc'⟩:=own_blk1 h.runs hvb;rw [show a.block=g from e] at hc
     exact absurd (blk_one hc' hc) (by decide)
   flt:=h.flt
   base:=h.base }
end
theorem rhas_any (w:World) (B r:Nat) (M:SM) (q:Option Addr) (m d:Nat) (vr vt:Value) (rs:List RR) (h:RefA w B r M q m d vr vt rs) (hs:M.runs.length≤1000) (id:Int) (h1:-9223372036854775808≤id) (h2:id≤9223372036854775807) :
 Calls Try.prog 13 #[ptrS r,.int .i64 id] w fun e w' => e=.returned (.bool (hasS M id))∧w=w':=by
 obtain ⟨pr,cr,e1,_,_,_⟩:=own_form h.runs;obtain ⟨pt,ct,e2,hct,hct2,hcell⟩:=own_form h.there;subst e1;subst e2;have hl:=h.rlen;have hn:rs.length≤1000:=by rw [hl];exact hs
 obtain ⟨n,hnn⟩:∃ n,rs.length=n:=⟨_,rfl⟩;have c2:=h.obj.cell 2;have c3:=h.obj.cell 3;simp only [List.getElem?_toArray,List.getElem?_cons_zero,List.getElem?_cons_succ] at c2 c3;rw [hnn] at c2 c3 hn hct;have HH:=Lib.hid h;have HCELL:=Lib.hid hcell;have HN:=Lib.hid hnn;obtain ⟨T,hT⟩:∃ T,hasS M id=T:=⟨_,rfl⟩;have HT:=Lib.hid hT;rw [hT];clear h hs hnn hcell hl hT
 by_cases h0:0≤id
 ·obtain ⟨k,rfl⟩:∃ k:Nat,id=(k:Int):=⟨id.toNat,by omega⟩
  by_cases hk:k < n
  ·have hkz:(k:Int) < (n:Int):=by omega
   obtain ⟨g,cur,rfl,hb,_,hc⟩:=HCELL.out (by rw [HN.out];omega)
   have ht:w.cell? ⟨g,k,none⟩=some (.bool T):=by
    rw [hb.cell,hc k (by rw [HN.out];exact hk),List.getElem?_map,getR_eq (by rw [HN.out];exact hk),Option.map_some]
    congr 2
    rw [← HT.out];unfold hasS;rw [decide_eq_true (show (0:Int)≤(k:Int)∧(k:Int) < (M.runs.length:Nat) by rw [← HH.out.rlen,HN.out];omega),Bool.true_and]
    show _=(M.runs.getD k ([],false)).2;rw [HH.out.get]
   clear hb hc
   go_enter Try.func13,Try.ntmps13
   go_wp2
   go_ret
   exact ⟨rfl,rfl⟩
  ·have hkz:¬ ((k:Int) < (n:Int)):=by omega
   have E:Hid (T=false):=Lib.hid (by
    rw [← HT.out];unfold hasS
    rw [decide_eq_false (by rw [← HH.out.rlen,HN.out];omega),Bool.false_and])
   go_enter Try.func13,Try.ntmps13
   go_wp2
   go_ret
   exact ⟨by rw [E.out];rfl,rfl⟩
 ·have E:Hid (T=false):=Lib.hid (by
   rw [← HT.out];unfold hasS
   rw [decide_eq_false (by omega),Bool.false_and])
  go_enter Try.func13,Try.ntmps13
  go_wp2
  go_ret
  exact ⟨by rw [E.out];rfl,rfl⟩
theorem usedR_take {l:List (List UInt8 × Bool)} {i:Nat} (h:i < l.length):usedR (l.take (i+1))=usedR (l.take i)+(if (l.getD i ([],false)).2=true then (l.getD i ([],false)).1.length else 0):=by
 rw [List.take_add_one,List.getElem?_eq_getElem h,Option.toList_some,usedR_append,List.getD,List.getElem?_eq_getElem h];unfold usedR;simp
theorem usedR_take_le (l:List (List UInt8 × Bool)) (i:Nat):usedR (l.take i)≤usedR l:=by
 have:=usedR_append (l.take i) (l.drop i);rw [List.take_append_drop] at this;omega
set_option maxHeartbeats 1000000 in
theorem rused_any (w:World) (B r:Nat) (M:SM) (q:Option Addr) (m d:Nat) (vr vt:Value) (rs:List RR) (h:RefA w B r M q m d vr vt rs) (hs:M.runs.length≤1000) (hu:usedS M≤2000000000) :
 Calls Try.prog 16 #[ptrS r] w fun e w' => e=.returned (.int .i64 (usedS M:Nat))∧w=w':=by
 obtain ⟨pr,cr,e1,hcr,hcr2,hcellr⟩:=own_form h.runs;obtain ⟨pt,ct,e2,hct,hct2,hcellt⟩:=own_form h.there;subst e1;subst e2;have hl:=h.rlen;have hn:rs.length≤1000:=by rw [hl];exact hs
 obtain ⟨n,hnn⟩:∃ n,rs.length=n:=⟨_,rfl⟩;have c2:=h.obj.cell 2;have c3:=h.obj.cell 3;simp only [List.getElem?_toArray,List.getElem?_cons_zero,List.getElem?_cons_succ] at c2 c3;rw [hnn] at c2 c3 hn hct hcr;have HH:=Lib.hid h;have HR:=Lib.hid hcellr;have HT:=Lib.hid hcellt;have HN:=Lib.hid hnn;have HU:=Lib.hid hu;have HL:Hid (M.runs.length=n):=Lib.hid (by rw [← hl,hnn])
 clear h hs hu hnn hcellr hcellt hl
 go_enter Try.func16,Try.ntmps16
 go_wp2_with fail
 go_loopw [3,4] (fun u x wr => ∃ (i U:Nat),i≤n∧U≤2000000000∧u=.int .i64 (U:Int)∧x=.int .i64 (i:Int)∧w=wr∧Hid (usedR (M.runs.take i)=U)) (fun _ x _ => n - (RowKit.intOf x).toNat)
 case atStart => exact ⟨0,0,Nat.zero_le _,by omega,rfl,rfl,rfl,Lib.hid rfl⟩
 case round =>
  obtain ⟨i,U,hi,hU,rfl,rfl,rfl,hE⟩:=hrel
  by_cases hlt:i < n
  ·have hltz:(i:Int) < (n:Int):=by omega
   obtain ⟨gr,curr,rfl,hbr,_,hcr'⟩:=HR.out (by rw [HN.out];omega)
   obtain ⟨gt,curt,rfl,hbt,_,hct'⟩:=HT.out (by rw [HN.out];omega)
   obtain ⟨x,hx⟩:∃ x,rs.getD i zeroR=x:=⟨_,rfl⟩
   have cr':w.cell? ⟨gr,i,none⟩=some (.slice x.p x.b.length x.c):=by
    rw [hbr.cell,hcr' i (by rw [HN.out];exact hlt),List.getElem?_map,getR_eq (by rw [HN.out];exact hlt),hx]
    rfl
   have ct':w.cell? ⟨gt,i,none⟩=some (.bool x.t):=by
    rw [hbt.cell,hct' i (by rw [HN.out];exact hlt),List.getElem?_map,getR_eq (by rw [HN.out];exact hlt),hx]
    rfl
   have hT:=usedR_take (l:=M.runs) (i:=i) (by rw [HL.out];exact hlt)
   have hle:=usedR_take_le M.runs (i+1);have hus:usedR M.runs≤2000000000:=HU.out;rw [hE.out,HH.out.get,hx] at hT;obtain ⟨L,hL⟩:∃ L,x.b.length=L:=⟨_,rfl⟩;obtain ⟨b,hb⟩:∃ b,x.t=b:=⟨_,rfl⟩;rw [hL] at cr';rw [hb] at ct';simp only [hb,hL] at hT;rw [hT] at hle;have HTT:=Lib.hid hT;clear hbr hcr' hbt hct' hx hT hL hb
   cases b with
   | true =>
     have hb2:U+L≤2000000000:=by simp only [if_true] at hle;omega
     go_wp2
     go_roundw
     case rel => exact ⟨i+1,U+L,by omega,hb2,by go_num,by go_num,trivial,Lib.hid (by rw [HTT.out];rfl)⟩
     case measure => simp [RowKit.intOf];omega
   | false =>
     go_wp2
     go_roundw
     case rel => exact ⟨i+1,U,by omega,hU,rfl,by go_num,trivial,Lib.hid (by rw [HTT.out];rfl)⟩
     case measure => simp [RowKit.intOf];omega
  ·obtain rfl:i=n:=by omega
   have hks:¬ ((i:Int) < (i:Int)):=by omega
   have E:Hid (usedS M=U):=Lib.hid (by
    rw [← hE.out,List.take_of_length_le (by rw [HL.out];exact Nat.le_refl _)]
    rfl)
   go_wp2
   go_ret
   exact ⟨by rw [E.out];rfl,rfl⟩
end Go.Proofs.Ytfpoipamioaklaa.Sto
end
section
namespace Go.Proofs.Ytfpoipamioaklaa.Sto
open Go.ChangeShapes Go.WideShapes Go.ChangeAt Go.RowKit Base Byt Txt Bk Block Go.Lib
set_option linter.unusedVariables false
set_option maxRecDepth 100000
attribute [local irreducible] wpQuiet
def RefPost (w:World) (B r:Nat) (M':SM) (q:Option Addr) (m d:Nat) (vr vt:Value) (rs:List RR) (v:Value) (e:Ending) (w':World):Prop:=
 ∃ rs',e=.returned v∧RefA w' B r M' q m d vr vt rs'∧Kept (refS r vr vt) w w' ∧ ∀ x ∈ rs',x ∈ rs ∨ ∀ a,x.p=some a → w.heap.size≤a.block
theorem one_write {w:World} {B r:Nat} {M:SM} {q:Option Addr} {m d:Nat} {vr vt:Value} {rs:List RR} (h:RefA w B r M q m d vr vt rs) (v:Nat) :
 RefA (w.setCell ⟨r,4,none⟩ (.int .i64 (v:Nat))) B r { M with writes:=v } q m d vr vt rs∧Kept (oneB r) w (w.setCell ⟨r,4,none⟩ (.int .i64 (v:Nat))):=by
 have hk:Kept (oneB r) w (w.setCell ⟨r,4,none⟩ (.int .i64 (v:Nat))):=(Kept.refl (oneB r) w).setCell (a:=⟨r,4,none⟩) (.inr rfl) _;exact ⟨h.obj_ hk (h.obj.set 4 _ (by decide:4 < 6)) rfl rfl,hk⟩
theorem one_peak {w:World} {B r:Nat} {M:SM} {q:Option Addr} {m d:Nat} {vr vt:Value} {rs:List RR} (h:RefA w B r M q m d vr vt rs) (v:Nat) :
 RefA (w.setCell ⟨r,5,none⟩ (.int .i64 (v:Nat))) B r { M with peak:=v } q m d vr vt rs∧Kept (oneB r) w (w.setCell ⟨r,5,none⟩ (.int .i64 (v:Nat))):=by
 have hk:Kept (oneB r) w (w.setCell ⟨r,5,none⟩ (.int .i64 (v:Nat))):=(Kept.refl (oneB r) w).setCell (a:=⟨r,5,none⟩) (.inr rfl) _;exact ⟨h.obj_ hk (h.obj.set 5 _ (by decide:5 < 6)) rfl rfl,hk⟩
theorem drewN2 (w:World) (a b:Nat):(w.drewN a).drewN b=w.drewN (a+b):=by unfold World.drewN;simp only [Nat.add_assoc]
theorem tailCut {α β γ δ:Type} {T:α → β → γ → β → δ → Prop} {G:Prop} (H:α → β → γ → Prop) (main:(∀ a b c,H a b c → ∀ x y,T a b c x y) → G) (tail:∀ a b c,H a b c → ∀ x y,T a b c x y):G:=main tail
theorem ref_put {w4:World} {B r:Nat} {M:SM} {q:Option Addr} {m d:Nat} {vr vt:Value} {rs:List RR} {w1v:Nat} (h4:RefA w4 B r { M with writes:=w1v } q m d vr vt rs) (hs:SmallS M) (hw:M.writes+1=w1v)
 {k:Nat} (hk:k < rs.length) {xb:List UInt8} (hgk:M.runs.getD k ([],false)=(xb,true)) {Lx:Nat} (hx:xb.length=Lx) {bs:List UInt8} {n:Nat} (hn:bs.length=n) (hnb:n≤1000000)
 {b4:Nat} {p4:Option Addr} {c4:Nat} (hO:OwnB w4 b4 (.slice p4 (Lx+n) c4) (Lx+n) (xb++bs)) (hB:B≤b4) {g nn cv:Nat} (ev:vr=.slice (some ⟨g,0,none⟩) nn cv) :
 ∃ (M5:SM) (rs5:List RR) (V:Nat),RefA (w4.setCell ⟨g,k,none⟩ (.slice p4 (Lx+n) c4)) B r M5 q m d vr vt rs5∧usedS M5=V∧V≤2000000000∧M5.runs.length≤1000∧M5.peak=M.peak∧putS14 M (k:Int) bs = { M5 with peak:=max M.peak V } ∧ ∀ x ∈ rs5,x ∈ rs ∨ ∀ a,x.p=some a → b4≤a.block:=by
 have hlx:(xb++bs).length=Lx+n:=by rw [List.length_append,hx,hn]
 obtain ⟨p5,c5,e5,hle,hmx,hbt,_,hat⟩:=OwnB.slice hO
 cases e5
 have hxt:(rs.getD k zeroR).t=true:=by
  have h6:=h4.get k;rw [show ({ M with writes:=w1v }:SM).runs=M.runs from rfl,hgk] at h6
  injection h6 with _ h7
  exact h7.symm
 have h5:=h4.run_ (k:=k) hk (x:=⟨xb++bs,true,p4,c4⟩) ⟨by rw [hlx];exact hbt,by rw [hlx];exact hle,hmx⟩
  (fun h0 a ha => ⟨by have:=(hat a ha).1;omega,own_blk1 hO (hat a ha).2.2⟩) hxt.symm ev rfl
 rw [show (RR.cell ⟨xb++bs,true,p4,c4⟩)=.slice p4 (Lx+n) c4 by unfold RR.cell;rw [hlx]] at h5
 refine ⟨_,_,_,h5,rfl,?_,?_,rfl,?_,fun x hx => ?_⟩
 ·have hkl:k < M.runs.length:=by have:=h4.rlen;rw [show ({ M with writes:=w1v }:SM).runs=M.runs from rfl] at this;omega
  have h6:=usedR_set (l:=M.runs) hkl (xb++bs,true);rw [hgk] at h6;simp only [if_true,hlx,hx] at h6;have h7:usedR M.runs≤1000000000:=hs.used;show usedR (M.runs.set k (xb++bs,true))≤_;omega
 ·show (M.runs.set k (xb++bs,true)).length≤1000
  rw [List.length_set];exact hs.runs
 ·unfold putS14
  rw [show ((k:Int)).toNat=k from rfl,hgk,hw]
  rfl
 ·rcases List.mem_or_eq_of_mem_set hx with hx | rfl
  ·exact .inl hx
  ·exact .inr fun a ha => (hat a ha).1
set_option maxHeartbeats 8000000 in
theorem rappend_any (w:World) (B r:Nat) (M:SM) (q:Option Addr) (m d:Nat) (vr vt:Value) (rs:List RR) (h:RefA w B r M q m d vr vt rs) (hs:SmallS M) (hB:B≤w.heap.size) (hR:M.room≤9223372036854775807) (id:Int) (h1:-9223372036854775808≤id) (h2:id≤9223372036854775807)
 (p:Option Addr) (n c:Nat) (bs:List UInt8) (hb:BAt w p n bs) (hl:bs.length=n) (hn:n≤1000000) (hp:0 < n → ∀ a,p=some a → a.block < B) :
 Calls Try.prog 11 #[ptrS r,.int .i64 id,.slice p n c] w (RefPost w B r (appendS M id bs).2 q m d vr vt rs (.int .i64 (appendS M id bs).1)):=by
 have HAS:=Lib.hid (rhas_any w B r M q m d vr vt rs h hs.runs id h1 h2);obtain ⟨T,hT⟩:∃ T,hasS M id=T:=⟨_,rfl⟩;rw [hT] at HAS;have HH:=Lib.hid h;have HS:=Lib.hid hs;have HT:=Lib.hid hT;have HBT:=Lib.hid hb;have HL:=Lib.hid hl;have HPB:=Lib.hid hp;have c4:=h.obj.cell 4;have f4:=h.obj.frozen 4;simp only [List.getElem?_toArray,List.getElem?_cons_zero,List.getElem?_cons_succ] at c4;obtain ⟨wv,hwv⟩:∃ wv,M.writes=wv:=⟨_,rfl⟩;have hwb:wv≤1000000:=by rw [← hwv];exact hs.writes
 rw [hwv] at c4;have HW:=Lib.hid hwv;obtain ⟨w1v,hw1⟩:∃ w1v,wv+1=w1v:=⟨_,rfl⟩;have hw1z:(wv:Int)+1=(w1v:Int):=by omega
 have HWN:=Lib.hid hw1;clear h hs hT hb hl hp hwv
 go_enter Try.func11,Try.ntmps11
 go_wp2_with fail
 refine HAS.out.mono ?_
 rintro e w' ⟨rfl,rfl⟩
 cases T with
 | false =>
   clear c4 f4
   go_wp2
   go_ret
   rw [appendS_none HT.out];exact ⟨rs,rfl,HH.out,Kept.refl _ _,fun x hx => .inl hx⟩
 | true =>
   obtain ⟨g1,g2⟩:=one_write HH.out w1v;obtain ⟨W1,hW1⟩:∃ W1,w.setCell ⟨r,4,none⟩ (.int .i64 (w1v:Nat))=W1:=⟨_,rfl⟩;rw [hW1] at g1 g2;have H1:=Lib.hid g1;have HK1:Hid (Kept (refS r vr vt) w W1):=Lib.hid (g2.mono fun b hb => .inl hb)
   have d1:=g1.obj.cell 1;have d4:=g1.obj.cell 4;simp only [List.getElem?_toArray,List.getElem?_cons_zero,List.getElem?_cons_succ] at d1 d4;have HFL:Hid (IAt W1 q m M.fails):=Lib.hid g1.fails;have hml:M.fails.length=m:=HH.out.flen;have hm1000:m≤1000:=by rw [← hml];exact HS.out.fails
   have HML:=Lib.hid hml;have hwr:IntKind.i64.wrap ((w1v:Int) - 1)=(wv:Int):=by rw [IntKind.wrap_i64];omega
   have HW1:=Lib.hid hw1;clear g1 g2 hml
   go_upto_region 4 with fail
   clear hW1 c4 f4 hw1z hw1
   go_wp2_with fail
   go_loopw [7] (fun x wr => ∃ (i j:Nat),i≤m∧x=.int .i64 (i:Int)∧wr=W1.drewN j∧Hid (∀ k,k < i → M.fails.getD k 0≠(wv:Int))) (fun x _ => m - (RowKit.intOf x).toNat)
   case atStart => exact ⟨0,0,Nat.zero_le _,rfl,rfl,Lib.hid fun k hk => by omega⟩
   case round =>
    obtain ⟨i,j,hi,rfl,rfl,hF⟩:=hrel
    by_cases hlt:i < m
    ·have hltz:(i:Int) < (m:Int):=by omega
     obtain ⟨b,o,rfl,hbw,hcell⟩:=HFL.out (by omega)
     have hx:=hcell i hlt;obtain ⟨x,hxx⟩:∃ x,M.fails.getD i 0=x:=⟨_,rfl⟩;rw [hxx] at hx;have HX:=Lib.hid hxx;clear hcell hbw hxx;have e1:(W1.drewN j).cell? ⟨r,1,none⟩=some (.slice (some ⟨b,o,none⟩) m d):=d1;have e4:(W1.drewN j).cell? ⟨r,4,none⟩=some (.int .i64 (w1v:Nat)):=d4;have ex:(W1.drewN j).cell? ⟨b,o+i,none⟩=some (.int .i64 x):=hx;obtain ⟨W2,hW2⟩:∃ W2,W1.drewN j=W2:=⟨_,rfl⟩;rw [hW2] at e1 e4 ex ⊢;have HW2:=Lib.hid hW2;clear hx hW2 d1 d4
     by_cases hxw:x=(wv:Int)
     ·have hz:(x == (wv:Int))=true:=by simpa using hxw
      have E:Hid (appendS M id bs=(13,{ M with writes:=M.writes+1 })):=Lib.hid (appendS_io HT.out (by
       rw [HW.out,← hxw,← HX.out,List.getD,List.getElem?_eq_getElem (by rw [HML.out];exact hlt)]
       exact List.getElem_mem _))
      clear hxw
      go_upto_region 7 with fail
      go_quiet (fail)
      go_wp2
      go_ret
      rw [E.out,HW.out,HW1.out];exact ⟨rs,rfl,by rw [← HW2.out];exact H1.out.none_ (((Kept.refl noneB W1).drewN _).drewN _),by rw [← HW2.out];exact (HK1.out.drewN _).drewN _,fun x hx => .inl hx⟩
     ·have hz:(x == (wv:Int))=false:=by simpa using hxw
      have HF2:Hid (∀ k,k < i+1 → M.fails.getD k 0≠(wv:Int)):=Lib.hid (fun k hk => by
       by_cases e:k=i
       ·subst e;rw [HX.out];exact hxw
       ·exact hF.out k (by omega))
      clear hxw
      go_upto_region 7 with fail
      go_quiet (fail)
      go_wp2
      go_roundw
      case rel => exact ⟨i+1,j+_,by omega,by go_num,by rw [← HW2.out];exact drewN2 _ _ _,HF2⟩
      case measure => simp [RowKit.intOf];omega
    ·obtain rfl:i=m:=by omega
     have hks:¬ ((i:Int) < (i:Int)):=by omega
     have HNF:Hid (¬ (M.writes:Int) ∈ M.fails):=Lib.hid (fun hmem => by
      rw [HW.out] at hmem;obtain ⟨k,hk,he⟩:=List.mem_iff_getElem.1 hmem
      exact hF.out k (by rw [HML.out] at hk;exact hk) (by rw [List.getD,List.getElem?_eq_getElem hk];exact he))
     have e1:(W1.drewN j).cell? ⟨r,1,none⟩=some (.slice q i d):=d1;obtain ⟨W2,hW2⟩:∃ W2,W1.drewN j=W2:=⟨_,rfl⟩;have h2':RefA W2 B r { M with writes:=w1v } q i d vr vt rs:=by rw [← hW2];exact H1.out.none_ ((Kept.refl noneB W1).drewN _)
     have hk2:Kept (refS r vr vt) w W2:=by rw [← hW2];exact HK1.out.drewN _
     have H2:=Lib.hid h2';have HK2:=Lib.hid hk2;have e0:=h2'.obj.cell 0;simp only [List.getElem?_toArray,List.getElem?_cons_zero] at e0;have se0:=since_cell e0;have HUS:Hid (∀ p:Since W2,Calls Try.prog 16 #[ptrS r] p.w' fun e w' => e=.returned (.int .i64 (usedS M:Nat))∧p.w'=w'):=Lib.hid (fun p => rused_any p.w' B r { M with writes:=w1v } q i d vr vt rs (H2.out.none_ (Kept.of_below p.bel noneB)) HS.out.runs (Nat.le_trans HS.out.used (by decide)))
     obtain ⟨U,hU⟩:∃ U,usedS M=U:=⟨_,rfl⟩;have hUb:U≤1000000000:=by rw [← hU];exact HS.out.used
     rw [hU] at HUS;have HUU:=Lib.hid hU;obtain ⟨R,hRR⟩:∃ R,M.room=R:=⟨_,rfl⟩;rw [hRR] at hR se0;have HRR:=Lib.hid hRR;have hwu:IntKind.i64.wrap ((R:Int) - (U:Int))=(R:Int) - (U:Int):=by rw [IntKind.wrap_i64];omega
     rw [hW2] at e1 ⊢;obtain ⟨FF,hFF⟩:∃ FF:Bool,decide ((R:Int) - (U:Int) < (n:Int))=FF:=⟨_,rfl⟩;have HFF:=Lib.hid hFF;clear d1 d4 hW2 h2' hk2 e0 hU hRR hF H1 HK1
     go_upto_region 9 with fail
     clear e1;refine wp_region_since (by kernel_rfl) (by kernel_rfl) ?_
     repeat (quiet_step (first | (go_at_call 16;exact Calls.since_same (HUS.out _))))
     refine wpQuiet_nil ?_
     intro wq hw';have hwq:=since_bel hw';clear hw' se0 HUS hwu hFF;have H3:=Lib.hid (H2.out.none_ (Kept.of_below hwq noneB));have HK3:=Lib.hid (HK2.out.then (Kept.of_below hwq noneB) (fun _ h => h.elim))
     clear hwq H2 HK2
     cases FF with
     | true =>
       have E:Hid (appendS M id bs=(12,{ M with writes:=M.writes+1 })):=Lib.hid (appendS_full HT.out HNF.out (by
        have:=of_decide_eq_true HFF.out
        rw [HRR.out,HUU.out,HL.out];omega))
       go_wp2
       go_ret
       rw [E.out,HW.out,HW1.out];exact ⟨rs,rfl,H3.out,HK3.out,fun x hx => .inl hx⟩
     | false =>
       have E:Hid (appendS M id bs=(0,putS14 M id bs)):=Lib.hid (appendS_ok HT.out HNF.out (by
        have:=of_decide_eq_false HFF.out
        rw [HRR.out,HUU.out,HL.out];omega))
       obtain ⟨k,hk,hkl,hkt⟩:=has_iff.1 HT.out;subst hk;have hrl:k < rs.length:=by rw [H3.out.rlen];exact hkl
       obtain ⟨pv,cv,ev,hcv,hcv2,hcell⟩:=own_form H3.out.runs;obtain ⟨g,cur,hpv,hbg,_,hcc⟩:=hcell (by omega)
       subst hpv;obtain ⟨x,hx⟩:∃ x,rs.getD k zeroR=x:=⟨_,rfl⟩;have hxm:x ∈ rs:=by rw [← hx,List.getD,List.getElem?_eq_getElem hrl];exact List.getElem_mem hrl
       have hxt:x.t=true:=by have:=H3.out.get k;rw [show ({ M with writes:=w1v }:SM).runs=M.runs from rfl] at this;rw [this,hx] at hkt;exact hkt
       have ck:wq.cell? ⟨g,k,none⟩=some (.slice x.p x.b.length x.c):=by
        rw [hbg.cell,hcc k hrl,List.getElem?_map,getR_eq hrl,hx];rfl
       have cr2:=H3.out.obj.cell 2;simp only [List.getElem?_toArray,List.getElem?_cons_zero,List.getElem?_cons_succ] at cr2
       have HFC:Hid (∀ w',Kept noneB wq w' → w'.cell? ⟨r,2,none⟩=some vr∧w'.cell? ⟨g,k,none⟩=some (.slice x.p x.b.length x.c)∧w'.frozen? ⟨g,k,none⟩=false):=Lib.hid (fun w' hk => by
        have h5:=H3.out.none_ hk;have h6:=hbg.keptS hk (fun h => h)
        refine ⟨?_,?_,h6.frozen k⟩
        ·have:=h5.obj.cell 2
         simp only [List.getElem?_toArray,List.getElem?_cons_zero,List.getElem?_cons_succ] at this;exact this
        ·rw [h6.cell,← hbg.cell];exact ck)
       obtain ⟨nn,hnn⟩:∃ nn,rs.length=nn:=⟨_,rfl⟩;rw [hnn] at ev hcv hrl;have HEV:=Lib.hid (And.intro ev (And.intro hx (And.intro hxm (And.intro hxt hnn))));have hnk:(k:Int) < (nn:Int):=by omega
       have HDX:=Lib.hid (H3.out.data x hxm)
       have hxl:x.b.length≤1000000:=by
        have h5:=H3.out.get k;rw [hx] at h5;have h6:=HS.out.each (M.runs.getD k ([],false)) (by rw [List.getD,List.getElem?_eq_getElem hkl];exact List.getElem_mem hkl)
        rw [show M.runs.getD k ([],false)=_ from h5] at h6
        exact h6
       obtain ⟨xb,hxb⟩:∃ xb,x.b=xb:=⟨_,rfl⟩;obtain ⟨Lx,hLx⟩:∃ Lx,xb.length=Lx:=⟨_,rfl⟩;rw [hxb,hLx] at HFC hxl;rw [hxb,hLx] at HDX;have HXB:=Lib.hid (And.intro hxb hLx);rw [ev] at HFC;have HKD:Hid (Kept noneB wq wq.drew):=Lib.hid (Kept.refl noneB wq).drew;have HKE:Hid (Kept noneB wq (wq.alloc (.cells #[] 5))):=Lib.hid ((Kept.refl noneB wq).alloc _);have HKA:Hid (Kept noneB wq (wq.alloc (.cells #[] 5)).drew):=Lib.hid ((Kept.refl noneB wq).alloc _).drew;have HO1:Hid (OwnB (wq.alloc (.cells #[] 5)).drew wq.heap.size (.slice (some ⟨wq.heap.size,0,none⟩) 0 0) 0 []):=Lib.hid (World.ownsRow_made wq.drew #[] 0 (Nat.le_refl _) (by decide) rfl:OwnB (wq.drew.alloc (.cells #[] 5)) wq.heap.size (.slice (some ⟨wq.heap.size,0,none⟩) 0 0) 0 [])
       have HBB:Hid (∀ w',Kept noneB wq w' → BAt w' p n bs):=Lib.hid (fun w' hk => (HBT.out.kept HK3.out (fun h0 a ha hr => by
        have:=HPB.out h0 a ha;rcases hr with hr | hr | hr
        ·have:=HH.out.base;omega
        ·have:=(HH.out.runs.lt _ hr).1;omega
        ·have:=(HH.out.there.lt _ hr).1;omega)).kept hk (fun _ _ _ h => h))
       obtain ⟨a0,a1,a2⟩:=HFC.out _ HKD.out;obtain ⟨b0,b1,b2⟩:=HFC.out _ HKA.out;obtain ⟨i0,i1,i2⟩:=HFC.out _ HKE.out;clear ev hx hxm hxt hnn hxb hLx hbg hcc hcell ck cr2 hcv hcv2
       go_upto_region 11 with fail
       apply tailCut (δ:=Nat) (fun (w4:World) (p4:Option Addr) (c4:Nat) => Hid (Kept noneB wq w4)∧Hid (OwnB w4 wq.heap.size (.slice p4 (Lx+n) c4) (Lx+n) (xb++bs)))
       case main =>
        intro TAIL
        go_region_law (first
         | (refine step_own (by kernel_rfl) (.tmp 57) (.tmp 64) (by rfl) wq.heap.size _ 0 [] (by rfl) HO1.out x.p Lx x.c xb (by rfl) (HDX.out.1.kept HKA.out (fun _ _ _ h => h)) HXB.out.2 (by omega) (by simp) ?_
            intro v3 w3 hown hgrow;rw [Nat.zero_add,List.nil_append] at hown;have HKB:Hid (Kept noneB wq w3):=Lib.hid (HKA.out.grown hgrow (by intro k hk;simp [Value.ownBlock] at hk;omega))
            obtain ⟨p3,c3,rfl,_,_,_,_,_⟩:=OwnB.slice hown;have HO3:=Lib.hid hown;obtain ⟨e0,e1,e2⟩:=HFC.out _ HKB.out
            clear hown hgrow)
         | (refine step_own (by kernel_rfl) (.tmp 65) (.tmp 66) (by rfl) wq.heap.size _ Lx xb (by rfl) HO3.out p n c bs (by rfl) (HBB.out _ HKB.out) HL.out (by omega) HKB.out.size ?_
            intro v4 w4 hown hgrow;have HKC:Hid (Kept noneB wq w4):=Lib.hid (HKB.out.grown hgrow (fun k hk => .inl (HO3.out.lt k hk).1))
            obtain ⟨p4,c4,rfl,hle4,hmx4,hbt4,hln4,hat4⟩:=OwnB.slice hown;have HO4:=Lib.hid hown;have HP4:=Lib.hid (And.intro hle4 (And.intro hmx4 (And.intro hbt4 (And.intro hln4 hat4))));obtain ⟨f0,f1,f2⟩:=HFC.out _ HKC.out
            clear hown hgrow hle4 hmx4 hbt4 hln4 hat4)
         | fail)
        all_goals exact TAIL w4 p4 c4 ⟨HKC,HO4⟩ p3 c3
       case tail =>
        rintro w4 p4 c4 ⟨HKC,HO4⟩ p3 c3;clear HKD HKE HKA HO1 HBB a0 a1 a2 b0 b1 b2 i0 i1 i2 HFC;have hrl2:k < rs.length:=by rw [HEV.out.2.2.2.2];exact hrl
        have hgk:M.runs.getD k ([],false)=(xb,true):=by
         have h6:=H3.out.get k;rw [HEV.out.2.1,HEV.out.2.2.2.1,HXB.out.1] at h6;exact h6
        obtain ⟨M5,rs5,V,h5',hV,hVb,hrn,hpk,hE5,hfr⟩:=ref_put (H3.out.none_ HKC.out) HS.out (by rw [HW.out];exact HWN.out) hrl2 hgk HXB.out.2 HL.out hn HO4.out (by have:=HK3.out.size;omega) HEV.out.1
        have hk5:Kept (refS r vr vt) w (w4.setCell ⟨g,k,none⟩ (.slice p4 (Lx+n) c4)):=(HK3.out.then HKC.out (fun _ h => h.elim)).setCell (a:=⟨g,k,none⟩) (.inr (.inr (.inl (by rw [HEV.out.1];rfl)))) _
        obtain ⟨W5,hW5⟩:∃ W5,w4.setCell ⟨g,k,none⟩ (.slice p4 (Lx+n) c4)=W5:=⟨_,rfl⟩;rw [hW5] at h5' hk5 ⊢;obtain ⟨P,hP⟩:∃ P,M.peak=P:=⟨_,rfl⟩;have hPb:P≤1000000000:=by rw [← hP];exact HS.out.peak
        rw [hP] at hpk hE5;have c5:=h5'.obj.cell 5;have f5:=h5'.obj.frozen 5;simp only [List.getElem?_toArray,List.getElem?_cons_zero,List.getElem?_cons_succ] at c5;rw [hpk] at c5;have HE5:=Lib.hid hE5;have H5:=Lib.hid h5';have HK5:=Lib.hid hk5;have HPK:=Lib.hid hpk;have HFR:Hid (∀ x ∈ rs5,x ∈ rs ∨ ∀ a,x.p=some a → w.heap.size≤a.block):=Lib.hid (fun x hx => (hfr x hx).imp id fun h a ha => Nat.le_trans HK3.out.size (h a ha))
        clear hfr
        have HU5:Hid (Calls Try.prog 16 #[ptrS r] W5 fun e w' => e=.returned (.int .i64 (V:Nat))∧W5=w'):=Lib.hid (by
         have:=rused_any W5 B r M5 q i d vr vt _ H5.out hrn (by rw [hV];exact hVb)
         rw [hV] at this
         exact this)
        clear h5' hk5 hgk hW5 hV hP hE5 hrn hrl2 hpk
        go_wp2_with fail
        refine HU5.out.mono ?_
        rintro e5 w5 ⟨rfl,rfl⟩
        by_cases hPV:P < V
        ·go_wp2
         go_ret
         rw [E.out,HE5.out,show max P V=V by omega]
         obtain ⟨g6,g7⟩:=one_peak H5.out V;exact ⟨rs5,rfl,g6,HK5.out.then g7 (fun b hb => .inr (.inl hb)),HFR.out⟩
        ·go_wp2
         go_ret
         rw [E.out,HE5.out,show max P V=P by omega,← HPK.out]
         exact ⟨rs5,rfl,H5.out,HK5.out,HFR.out⟩
end Go.Proofs.Ytfpoipamioaklaa.Sto
end
section
namespace Go.Proofs.Ytfpoipamioaklaa.Sto
open Go.ChangeShapes Go.WideShapes Go.ChangeAt Go.RowKit Base Byt Txt Bk Block Go.Lib
set_option linter.unusedVariables false
set_option maxRecDepth 100000
theorem ext_take14 (s:ByteArray) (k:Nat):s.extract 0 k=str (s.data.toList.take k):=by
 apply ByteArray.ext;apply Array.toList_inj.1;rw [ByteArray.data_extract,Array.toList_extract];rfl
theorem str_take14 (l:List UInt8) (k:Nat):(str l).extract 0 k=str (l.take k):=by rw [ext_take14];simp [str]
structure SmallN (i:Nat) (M:SM):Prop where
 runs:M.runs.length≤i
 each:∀ r ∈ M.runs,r.1.length≤500 * i
 writes:M.writes≤i
 peak:M.peak≤5000000
theorem SmallN.small {i:Nat} {M:SM} (h:SmallN i M) (hi:i≤100) (hf:M.fails.length≤1000):SmallS M where
 runs:=by have:=h.runs;omega
 each:=fun r hr => by have:=h.each r hr;omega
 writes:=by have:=h.writes;omega
 peak:=by have:=h.peak;omega
 fails:=hf
theorem SmallN.mono {i j:Nat} {M:SM} (h:SmallN i M) (hj:i≤j):SmallN j M where
 runs:=by have:=h.runs;omega
 each:=fun r hr => by have:=h.each r hr;omega
 writes:=by have:=h.writes;omega
 peak:=h.peak
theorem SmallN.new (room:Int) (zs:List Int):SmallN 0 (newS room zs) where
 runs:=by simp [newS]
 each:=fun r hr => by simp [newS] at hr
 writes:=Nat.le_refl _
 peak:=by simp [newS]
theorem SmallN.create {i:Nat} {M:SM} (h:SmallN i M):SmallN (i+1) (createS M) where
 runs:=by have:=h.runs;simp only [createS,List.length_append,List.length_cons,List.length_nil];omega
 each:=fun r hr => by
  simp only [createS,List.mem_append,List.mem_singleton] at hr;rcases hr with hr | rfl
  ·have:=h.each r hr;omega
  ·simp
 writes:=by have:=h.writes;simp only [createS];omega
 peak:=h.peak
theorem getD_each {i:Nat} {M:SM} (h:SmallN i M) (k:Nat):(M.runs.getD k ([],false)).1.length≤500 * i:=by
 rw [List.getD]
 cases e:M.runs[k]? with
 | none => simp
 | some r => exact h.each r (List.mem_of_getElem? e)
theorem used_le {l:List (List UInt8 × Bool)} {c:Nat} (h:∀ r ∈ l,r.1.length≤c):usedR l≤l.length * c:=by
 unfold usedR
 have:=sum_le (l.map fun r => if r.2=true then r.1.length else 0) c (fun x hx => by
  obtain ⟨r,hr,rfl⟩:=List.mem_map.1 hx;have:=h r hr
  split<;>omega)
 rwa [List.length_map] at this
theorem SmallN.append {i:Nat} {M:SM} (h:SmallN i M) (hi:i < 100) (id:Int) {b:List UInt8} (hb:b.length≤500):SmallN (i+1) (appendS M id b).2:=by
 have hw:SmallN (i+1) { M with writes:=M.writes+1 }:=
  { runs:=by have:=h.runs;show M.runs.length≤_;omega
    each:=fun r hr => by have:=h.each r hr;omega
    writes:=by have:=h.writes;show M.writes+1≤_;omega
    peak:=h.peak }
 unfold appendS
 split
 ·exact h.mono (by omega)
 split
 ·exact hw
 split
 ·exact hw
 have he:∀ r ∈ M.runs.set id.toNat ((M.runs.getD id.toNat ([],false)).1++b,true),r.1.length≤500 * (i+1):=fun r hr => by
  rcases List.mem_or_eq_of_mem_set hr with hr | rfl
  ·have:=h.each r hr;omega
  ·have:=getD_each h id.toNat
   rw [List.length_append];omega
 have hl:(M.runs.set id.toNat ((M.runs.getD id.toNat ([],false)).1++b,true)).length≤i:=by rw [List.length_set];exact h.runs
 exact
 { runs:=by unfold putS14;exact Nat.le_succ_of_le hl
   each:=he
   writes:=by have:=h.writes;unfold putS14;show M.writes+1≤_;omega
   peak:=by
    have h1:=used_le he;have h2:=Nat.mul_le_mul hl (show 500 * (i+1)≤50000 by omega)
    have h3:i * 50000≤100 * 50000:=Nat.mul_le_mul_right _ (by omega)
    have h4:=h.peak;unfold putS14;show max M.peak _≤_
    omega }
theorem SmallN.drop {i:Nat} {M:SM} (h:SmallN i M) (id:Int):SmallN (i+1) (dropS M id).2:=by
 unfold dropS
 split
 ·exact h.mono (by omega)
 exact
 { runs:=by have:=h.runs;show (M.runs.set _ _).length≤_;rw [List.length_set];omega
   each:=fun r hr => by
    rcases List.mem_or_eq_of_mem_set hr with hr | rfl
    ·have:=h.each r hr;omega
    ·exact Nat.le_trans (getD_each h id.toNat) (by omega)
   writes:=by have:=h.writes;show M.writes≤_;omega
   peak:=h.peak }
theorem appendS_fails (M:SM) (id:Int) (b:List UInt8):(appendS M id b).2.fails=M.fails:=by
 unfold appendS putS14
 split
 ·rfl
 split
 ·rfl
 split<;>rfl
theorem appendS_room (M:SM) (id:Int) (b:List UInt8):(appendS M id b).2.room=M.room:=by
 unfold appendS putS14
 split
 ·rfl
 split
 ·rfl
 split<;>rfl
section
variable {w w':World} {B r:Nat} {M:SM} {q:Option Addr} {m d:Nat} {vr vt:Value} {rs:List RR}
theorem RefA.there_ (h:RefA w B r M q m d vr vt rs) {k:Nat} (hk:k < rs.length) {g:Nat} {p:Option Addr} {n c:Nat} (hv:vt=.slice p n c) (hp:p=some ⟨g,0,none⟩) (b:Bool) :
 RefA (w.setCell ⟨g,k,none⟩ (.bool b)) B r { M with runs:=M.runs.set k ((M.runs.getD k ([],false)).1,b) } q m d vr vt (rs.set k { rs.getD k zeroR with t:=b }):=by
 have hvb:vt.ownBlock=some g:=by rw [hv,hp];rfl
 have hK:Kept (oneB g) w (w.setCell ⟨g,k,none⟩ (.bool b)):=(Kept.refl (oneB g) w).setCell (a:=⟨g,k,none⟩) (.inr rfl) _
 have hxm:∀ y ∈ rs.set k { rs.getD k zeroR with t:=b },∃ y' ∈ rs,y.b=y'.b∧y.p=y'.p∧y.c=y'.c:=fun y hy => by
  rcases List.mem_or_eq_of_mem_set hy with hy | rfl
  ·exact ⟨y,hy,rfl,rfl,rfl⟩
  ·exact ⟨rs.getD k zeroR,by rw [List.getD,List.getElem?_eq_getElem hk];exact List.getElem_mem hk,rfl,rfl,rfl⟩
 have hrow:(w.setCell ⟨g,k,none⟩ (.bool b)).ownsRow B 4 1 vt (rs.set k { rs.getD k zeroR with t:=b }).length ((rs.set k { rs.getD k zeroR with t:=b }).map fun x => .bool x.t):=by
  rcases h.there.2 with ⟨h1,_⟩ | ⟨g',cap,cur,h1,h2,h3,h4,h5,h6,h7⟩
  ·rw [h1] at hvb;cases hvb
  ·have hg:g'=g:=by rw [h1] at hvb;cases hvb;rfl
   subst hg;have hlt:k < cur.size:=by omega
   have hbk:Blk w g' 4 cur:=h3;refine ⟨by rw [List.length_map,Nat.mul_one],.inr ⟨g',cap,cur.set k (.bool b) hlt,by rw [List.length_set];exact h1,h2,hbk.set k _ hlt,by rw [List.length_set];exact h4,h5,by rw [Array.size_set];exact h6,?_⟩⟩
   rw [List.map_set,List.length_set,Array.toList_set,List.take_set,h7]
 exact
 { obj:=h.obj.keptS hK (fun e => h.ne_rv.2.1 (by rw [hvb,show r=g from e]))
   fails:=h.fails.kept hK (fun h0 a ha e => h.ne_fails h0 ha (.inr (.inr (by rw [hvb,show a.block=g from e]))))
   flen:=h.flen
   says:=by
    rw [List.map_set,h.says,show RR.v { rs.getD k zeroR with t:=b }=((rs.getD k zeroR).b,b) from rfl,h.get k]
   runs:=by
    have e:(rs.set k { rs.getD k zeroR with t:=b }).map RR.cell=rs.map RR.cell:=by
     rw [List.map_set];apply List.ext_getElem (by simp)
     intro i h1 h2;rw [List.getElem_set]
     split
     ·next e => subst e;rw [List.getElem_map,List.getD,List.getElem?_eq_getElem hk];rfl
     ·rfl
    rw [e,List.length_set];exact ownsRow_kept h.runs hK (fun b hb2 e => h.ne_rv.2.2 g (by rw [← show b=g from e];exact hb2) hvb)
   there:=hrow
   data:=fun y hy => by
    obtain ⟨y',hy',e1,e2,e3⟩:=hxm y hy;rw [e1,e2,e3];exact ⟨(h.data y' hy').1.kept hK (fun h0 a ha e => h.ne_data hy' h0 ha (.inr (.inr (by rw [hvb,show a.block=g from e])))),(h.data y' hy').2⟩
   dblk:=fun y hy h0 a ha => by
    obtain ⟨y',hy',e1,e2,e3⟩:=hxm y hy;rw [e1] at h0;rw [e2] at ha;obtain ⟨g1,cur,hc⟩:=h.dblk y' hy' h0 a ha;exact ⟨g1,cur,hc.keptS hK (fun e => h.ne_data hy' h0 ha (.inr (.inr (by rw [hvb,show a.block=g from e]))))⟩
   flt:=h.flt
   base:=h.base }
theorem RefA.grow_ {vr' vt':Value} (h:RefA w B r M q m d vr vt rs) (hk:Kept (refS r vr vt) w w') (ho:Blk w' r 31 #[.int .i64 (M.room:Nat),.slice q m d,vr',vt',.int .i64 (M.writes:Nat),.int .i64 (M.peak:Nat)])
 (h1:w'.ownsRow B 32 1 vr' (rs.length+1) (rs.map RR.cell++[.slice none 0 0])) (h2:w'.ownsRow B 4 1 vt' (rs.length+1) ((rs.map fun x => Value.bool x.t)++[.bool true])):RefA w' B r (createS M) q m d vr' vt' (rs++[⟨[],true,none,0⟩]) where
 obj:=ho
 fails:=h.fails.kept hk (fun h0 a ha => h.ne_fails h0 ha)
 flen:=h.flen
 says:=by rw [List.map_append,h.says];rfl
 runs:=by rw [List.length_append,List.map_append];exact h1
 there:=by rw [List.length_append,List.map_append];exact h2
 data:=fun x hx => by
  rcases List.mem_append.1 hx with hx | hx
  ·exact ⟨(h.data x hx).1.kept hk (fun h0 a ha => h.ne_data hx h0 ha),(h.data x hx).2⟩
  ·rw [List.mem_singleton.1 hx]
   exact ⟨fun h0 => absurd h0 (by simp),by simp,by decide⟩
 dblk:=fun x hx h0 a ha => by
  rcases List.mem_append.1 hx with hx | hx
  ·obtain ⟨g1,cur,hc⟩:=h.dblk x hx h0 a ha
   exact ⟨g1,cur,hc.keptS hk (h.ne_data hx h0 ha)⟩
  ·rw [List.mem_singleton.1 hx] at h0
   simp at h0
 flt:=h.flt
 base:=h.base
end
structure PlayQ (At:World → Nat → SM → (Nat → Prop) → Prop) (w0 wr:World) (g:Nat) (own:Nat → Prop) (r:Nat) (Ma Mr:SM) (q:Option Addr) (m d:Nat) (vr vt:Value) (rs:List RR):Prop where
 at_:At wr g Ma own
 ref:RefA wr w0.heap.size r Mr q m d vr vt rs
 bel:Below w0.heap.size w0 wr
 base:∀ b,own b → w0.heap.size≤b
 sep:∀ b,own b → ¬ refS r vr vt b
 sepd:∀ x ∈ rs,0 < x.b.length → ∀ a,x.p=some a → ¬ own a.block
section
variable {At:World → Nat → SM → (Nat → Prop) → Prop} {w0 wr w':World} {g r:Nat} {own own':Nat → Prop} {Ma Mr M':SM} {q:Option Addr} {m d:Nat} {vr vt vr' vt':Value} {rs rs':List RR}
theorem RefA.lt {w:World} {B:Nat} {M:SM} (h:RefA w B r M q m d vr vt rs):∀ b,refS r vr vt b → B≤b∧b < w.heap.size:=by
 rintro b (rfl | hb | hb)
 ·exact ⟨h.base,h.obj.lt⟩
 ·exact h.runs.lt b hb
 ·exact h.there.lt b hb
theorem RefA.dlt {w:World} {B:Nat} {M:SM} (h:RefA w B r M q m d vr vt rs) {x:RR} (hx:x ∈ rs) (h0:0 < x.b.length) {a:Addr} (ha:x.p=some a):a.block < w.heap.size:=by
 obtain ⟨_,cur,hb⟩:=h.dblk x hx h0 a ha;exact hb.lt
theorem PlayQ.none_ (H:StoC At) (h:PlayQ At w0 wr g own r Ma Mr q m d vr vt rs) (hk:Kept noneB wr w'):PlayQ At w0 w' g own r Ma Mr q m d vr vt rs where
 at_:=H.frame h.at_ hk (fun b _ h => h.elim)
 ref:=h.ref.none_ hk
 bel:=h.bel.trans (hk.below h.bel.size (fun _ h => h.elim))
 base:=h.base
 sep:=h.sep
 sepd:=h.sepd
theorem PlayQ.prog (h:PlayQ At w0 wr g own r Ma Mr q m d vr vt rs) (ha:At w' g M' own') (hs:∀ b,own' b → own b ∨ wr.heap.size≤b) (hk:Kept own wr w'):PlayQ At w0 w' g own' r M' Mr q m d vr vt rs where
 at_:=ha
 ref:=h.ref.kept hk (fun ho => h.sep _ ho (.inl rfl)) (fun b hb ho => h.sep _ ho (.inr (.inl hb))) (fun b hb ho => h.sep _ ho (.inr (.inr hb))) (fun x hx h0 a ha => h.sepd x hx h0 a ha)
  (fun h0 a ha ho => by have:=h.ref.flt h0 a ha;have:=h.base _ ho;omega)
 bel:=h.bel.trans (hk.below h.bel.size h.base)
 base:=fun b hb => by rcases hs b hb with h1 | h1;exact h.base b h1;have:=h.bel.size;omega
 sep:=fun b hb hr => by
  rcases hs b hb with h1 | h1
  ·exact h.sep b h1 hr
  ·have:=(h.ref.lt b hr).2;omega
 sepd:=fun x hx h0 a ha ho => by
  rcases hs _ ho with h1 | h1
  ·exact h.sepd x hx h0 a ha h1
  ·have:=h.ref.dlt hx h0 ha;omega
theorem PlayQ.refd (H:StoC At) (h:PlayQ At w0 wr g own r Ma Mr q m d vr vt rs) (hr:RefA w' w0.heap.size r M' q m d vr' vt' rs') (hk:Kept (refS r vr vt) wr w') (hv:∀ b,refS r vr' vt' b → refS r vr vt b ∨ wr.heap.size≤b) (hd:∀ x ∈ rs',0 < x.b.length → ∀ a,x.p=some a → (∃ y ∈ rs,0 < y.b.length∧y.p=some a) ∨ wr.heap.size≤a.block):PlayQ At w0 w' g own r Ma M' q m d vr' vt' rs' where
 at_:=H.frame h.at_ hk h.sep
 ref:=hr
 bel:=h.bel.trans (hk.below h.bel.size (fun b hb => (h.ref.lt b hb).1))
 base:=h.base
 sep:=fun b ho hb => by
  rcases hv b hb with h1 | h1
  ·exact h.sep b ho h1
  ·have:=(H.lt h.at_).2 b ho;omega
 sepd:=fun x hx h0 a ha ho => by
  rcases hd x hx h0 a ha with ⟨y,hy,h1,h2⟩ | h1
  ·exact h.sepd y hy h1 a h2 ho
  ·have:=(H.lt h.at_).2 _ ho;omega
theorem PlayQ.start (H:StoC At) {w w2 w3:World} {room:Int} {zs:List Int} {R:Nat} (hR:room.toNat=R) (hk:Kept noneB w w2) (ha:At w3 g (newS room zs) own) (ho:∀ b,own b → w2.heap.size≤b) (hb:Below w2.heap.size w2 w3) (hi:IAt w q m zs) (hl:zs.length=m) (hlt:0 < m → ∀ a,q=some a → a.block < w.heap.size) :
 PlayQ At w (w3.alloc (.cells #[.int .i64 (R:Int),.slice q m d,.slice none 0 0,.slice none 0 0,.int .i64 0,.int .i64 0] 31)) g own w3.heap.size (newS room zs) (newS room zs) q m d (.slice none 0 0) (.slice none 0 0) [] where
 at_:=H.frame ha ((Kept.refl noneB w3).alloc _) (fun b _ h => h.elim)
 ref:=
 { obj:=by
    have:=Blk.new w3 31 #[.int .i64 (R:Int),.slice q m d,.slice none 0 0,.slice none 0 0,.int .i64 0,.int .i64 0];rw [← hR] at this ⊢;exact this
   fails:=((hi.kept hk (fun _ _ _ h => h)).kept (Kept.of_below hb noneB) (fun _ _ _ h => h)).kept ((Kept.refl noneB w3).alloc _) (fun _ _ _ h => h)
   flen:=hl
   says:=rfl
   runs:=⟨rfl,.inl ⟨rfl,rfl⟩⟩
   there:=⟨rfl,.inl ⟨rfl,rfl⟩⟩
   data:=fun x hx => by simp at hx
   dblk:=fun x hx => by simp at hx
   flt:=hlt
   base:=Nat.le_trans hk.size hb.size }
 bel:=(hk.below (Nat.le_refl _) (fun _ h => h.elim)).trans ((hb.mono hk.size).trans ((Below.refl _ _).alloc (Nat.le_trans hk.size hb.size) _))
 base:=fun b h => Nat.le_trans hk.size (ho b h)
 sep:=fun b h hr => by
  have h1:=(H.lt ha).2 b h;rcases hr with hr | hr | hr
  ·rw [hr] at h1;exact Nat.lt_irrefl _ h1
  ·cases hr
  ·cases hr
 sepd:=fun x hx => by simp at hx
end
structure PlayY (At:World → Nat → SM → (Nat → Prop) → Prop) (w0 wr:World) (g:Nat) (own:Nat → Prop) (r:Nat) (Ma Mr:SM) (q:Option Addr) (m d:Nat) (vr vt:Value) (rs:List RR) (yb:Nat) (cs:Array Value):Prop where
 q:PlayQ At w0 wr g own r Ma Mr q m d vr vt rs
 blk:Blk wr yb 34 cs
 no:¬ own yb
 nr:¬ refS r vr vt yb
section
variable {At:World → Nat → SM → (Nat → Prop) → Prop} {w0 wr w':World} {g r yb:Nat} {own own':Nat → Prop} {Ma Mr M':SM} {q:Option Addr} {m d:Nat} {vr vt vr' vt':Value} {rs rs':List RR} {cs:Array Value}
theorem PlayY.start (H:StoC At) (h:PlayQ At w0 wr g own r Ma Mr q m d vr vt rs) (cs:Array Value):PlayY At w0 (wr.alloc (.cells cs 34)) g own r Ma Mr q m d vr vt rs wr.heap.size cs where
 q:=h.none_ H ((Kept.refl noneB wr).alloc _)
 blk:=Blk.new wr _ _
 no:=fun ho => Nat.lt_irrefl _ ((H.lt h.at_).2 _ ho)
 nr:=fun hr => Nat.lt_irrefl _ (h.ref.lt _ hr).2
theorem PlayY.none_ (H:StoC At) (h:PlayY At w0 wr g own r Ma Mr q m d vr vt rs yb cs) (hk:Kept noneB wr w'):PlayY At w0 w' g own r Ma Mr q m d vr vt rs yb cs where
 q:=h.q.none_ H hk
 blk:=h.blk.keptS hk (fun h => h)
 no:=h.no
 nr:=h.nr
theorem PlayY.prog (h:PlayY At w0 wr g own r Ma Mr q m d vr vt rs yb cs) (ha:At w' g M' own') (hs:∀ b,own' b → own b ∨ wr.heap.size≤b) (hk:Kept own wr w'):PlayY At w0 w' g own' r M' Mr q m d vr vt rs yb cs where
 q:=h.q.prog ha hs hk
 blk:=h.blk.keptS hk h.no
 no:=fun ho => by
  rcases hs _ ho with h1 | h1
  ·exact h.no h1
  ·have:=h.blk.lt;omega
 nr:=h.nr
theorem PlayY.refd (H:StoC At) (h:PlayY At w0 wr g own r Ma Mr q m d vr vt rs yb cs) (hr:RefA w' w0.heap.size r M' q m d vr' vt' rs') (hk:Kept (refS r vr vt) wr w') (hv:∀ b,refS r vr' vt' b → refS r vr vt b ∨ wr.heap.size≤b) (hd:∀ x ∈ rs',0 < x.b.length → ∀ a,x.p=some a → (∃ y ∈ rs,0 < y.b.length∧y.p=some a) ∨ wr.heap.size≤a.block):PlayY At w0 w' g own r Ma M' q m d vr' vt' rs' yb cs where
 q:=h.q.refd H hr hk hv hd
 blk:=h.blk.keptS hk h.nr
 no:=h.no
 nr:=fun hb => by
  rcases hv _ hb with h1 | h1
  ·exact h.nr h1
  ·have:=h.blk.lt;omega
theorem PlayY.there (H:StoC At) (h:PlayY At w0 wr g own r Ma Mr q m d vr vt rs yb cs) {k:Nat} (hk:k < rs.length) {g3 n3 c3:Nat} (hv:vt=.slice (some ⟨g3,0,none⟩) n3 c3) :
 PlayY At w0 (wr.setCell ⟨g3,k,none⟩ (.bool false)) g own r Ma { Mr with runs:=Mr.runs.set k ((Mr.runs.getD k ([],false)).1,false) } q m d vr vt (rs.set k { rs.getD k zeroR with t:=false }) yb cs:=
 h.refd H (h.q.ref.there_ hk hv rfl false) ((Kept.refl _ wr).setCell (a:=⟨g3,k,none⟩) (.inr (.inr (.inr (by rw [hv];rfl)))) _) (fun b hb => .inl hb) (fun x hx h0 a ha => by
  rcases List.mem_or_eq_of_mem_set hx with hx | rfl
  ·exact .inl ⟨x,hx,h0,ha⟩
  ·exact .inl ⟨rs.getD k zeroR,by rw [List.getD,List.getElem?_eq_getElem hk];exact List.getElem_mem hk,h0,ha⟩)
end
end Go.Proofs.Ytfpoipamioaklaa.Sto
end
