/- Texts of this seat, merged: what the proof reaches. -/
import Derived.Test.YtfpoipamioaklaaStoreFullX7
import Derived.Test.YtfpoipamioaklaaStoreFullX6
import Derived.Lib.SlBytesConst
import Derived.Deep.DeepCutAuto
import Derived.Test.YtfpoipamioaklaaStoreFullX5
import Derived.Test.YtfpoipamioaklaaStoreFullX8
namespace Go.Proofs.Ytfpoipamioaklaa
namespace Base
end Base
namespace Bk
end Bk
namespace Block
end Block
namespace Byt
end Byt
namespace Sto
end Sto
namespace Txt
end Txt
end Go.Proofs.Ytfpoipamioaklaa
section
namespace Go.Proofs.Ytfpoipamioaklaa.Sto
open Go.ChangeShapes Go.WideShapes Go.ChangeAt Go.RowKit Base Byt Txt Bk Block Go.Lib
set_option linter.unusedVariables false
set_option maxRecDepth 100000
section
variable {At:World → Nat → SM → (Nat → Prop) → Prop} {w w':World} {g:Nat} {M:SM} {own own':Nat → Prop}
theorem chg_below {B:Nat} (hB:B≤w.heap.size) (ho:∀ b,own b → B≤b) (hs:∀ b,own' b → own b ∨ w.heap.size≤b) (hk:Kept own w w'):Below B w w' ∧ ∀ b,own' b → B≤b:=
 ⟨hk.below hB ho,fun b hb => by rcases hs b hb with h | h;exact ho b h;omega⟩
end
theorem iat_lit (w:World) (zs:List Int):IAt (w.alloc (.cells (zs.map (Value.int .i64)).toArray 3)) (some ⟨w.heap.size,0,none⟩) zs.length zs:=fun _ => ⟨w.heap.size,0,rfl,by simp,fun i hi => by
 rw [Nat.zero_add,(Blk.new w _ _).cell]
 simp [List.getD,hi]⟩
theorem bat_lit (w:World) (bs:List UInt8) (fr:Nat × Nat):BAt (w.alloc (.cells ((nums bs).map (Value.int .u8)).toArray 5 fr)) (some ⟨w.heap.size,0,none⟩) bs.length bs:=fun _ => ⟨w.heap.size,0,rfl,fun i hi => by
 unfold World.cell?;rw [heap_alloc_new]
 simp [nums,List.getD,hi]⟩
def A1:SM:=⟨3,[1],[([],true)],0,0⟩
def A2:SM:=⟨3,[1],[([97,98],true)],1,2⟩
def A3:SM:=⟨3,[1],[([97,98],true)],2,2⟩
def A4:SM:=⟨3,[1],[([97,98],true)],3,2⟩
theorem small_A (M:SM) (h1:M.runs.length≤1) (h2:∀ r ∈ M.runs,r.1.length≤2) (h3:M.writes≤3) (h4:M.peak≤2) (h5:M.fails.length≤1):SmallS M:=⟨by omega,fun r hr => by have:=h2 r hr;omega,by omega,by omega,by omega⟩
theorem small_A1:SmallS A1:=small_A _ (by decide) (by decide) (by decide) (by decide) (by decide)
theorem small_A2:SmallS A2:=small_A _ (by decide) (by decide) (by decide) (by decide) (by decide)
theorem small_A3:SmallS A3:=small_A _ (by decide) (by decide) (by decide) (by decide) (by decide)
theorem small_A4:SmallS A4:=small_A _ (by decide) (by decide) (by decide) (by decide) (by decide)
theorem small_A0:SmallS (newS 3 [1]):=⟨by decide,by decide,by decide,by decide,by decide⟩
set_option maxHeartbeats 2000000 in
theorem ans14_any {At:World → Nat → SM → (Nat → Prop) → Prop} (H:StoC At) (w:World) :
 Calls Try.prog 7 #[] w fun e w' => e=.returned (.bool true)∧Below w.heap.size w w':=by
 have HC:=Lib.hid H;obtain ⟨W,hW⟩:∃ W,w.alloc (.cells #[.int .i64 1] 3)=W:=⟨_,rfl⟩;have HB:=Lib.hid (show Below w.heap.size w W by rw [← hW];exact (Below.refl _ _).alloc (Nat.le_refl _) _)
 have HNEW:=Lib.hid (H.new W 3 (some ⟨w.heap.size,0,none⟩) 1 1 [1] (by rw [← hW];exact iat_lit w [1]) rfl (Nat.le_refl _) (by decide) (by decide) (by decide) (by decide))
 clear H
 go_enter Try.func7,Try.ntmps7
 go_wp2_with fail
 clear hW;refine HNEW.out.mono ?_
 rintro e w1 ⟨g,own,rfl,ha,ho,hb⟩;have HA:=Lib.hid ha;have HO:Hid (∀ b,own b → w.heap.size≤b):=Lib.hid (fun b hb => Nat.le_trans HB.out.size (ho b hb))
 have HB1:=Lib.hid (HB.out.trans (hb.mono HB.out.size));clear ha ho hb HNEW HB
 go_wp2_with fail
 refine (HC.out.create HA.out small_A0).mono ?_
 rintro e w2 ⟨o2,rfl,ha,hs,hk⟩;obtain ⟨h1,h2⟩:=chg_below HB1.out.size HO.out hs hk;have HA2:Hid (At w2 g A1 o2):=Lib.hid ha;have HB2:=Lib.hid (HB1.out.trans h1);have HO2:=Lib.hid h2;clear ha hs hk h1 h2 HA HO HB1
 have kc2:(convert 32 32 (.slice (some ⟨w2.heap.size,0,none⟩) 2 2)).run Try.prog (w2.alloc (.cells #[.int .u8 97,.int .u8 98] 5))=.ok (.slice (some ⟨w2.heap.size,0,none⟩) 2 2) (w2.alloc (.cells #[.int .u8 97,.int .u8 98] 5 (2,3))):=
  Lib.run_convert_bytes_const (P:=Try.prog) w2 32 5 #[.int .u8 97,.int .u8 98] 2 2 Try.underlying32 Try.underlying5
 obtain ⟨V2,hV2⟩:∃ V,w2.alloc (.cells #[.int .u8 97,.int .u8 98] 5 (2,3))=V:=⟨_,rfl⟩;have hb2:Below w2.heap.size w2 V2:=by rw [← hV2];exact (Below.refl _ _).alloc (Nat.le_refl _) _
 have HAV:=Lib.hid (HC.out.frame HA2.out (Kept.of_below hb2 noneB) (fun b _ h => h.elim))
 have HCA:=Lib.hid (HC.out.append 0 (some ⟨w2.heap.size,0,none⟩) 2 2 [97,98] HAV.out small_A1 (by rw [← hV2];exact bat_lit w2 [97,98] (2,3)) rfl (Nat.le_refl _) (by decide) (by decide) (fun _ a ha hoa => by cases ha;exact Nat.lt_irrefl _ ((HC.out.lt HA2.out).2 _ hoa)) (by decide) (by decide))
 have HBV:=Lib.hid (HB2.out.trans (hb2.mono HB2.out.size));clear hb2 HA2 HB2 HAV
 go_wp2_with fail
 clear kc2 hV2;refine HCA.out.mono ?_
 rintro e w3 ⟨o3,rfl,ha,hs,hk⟩;obtain ⟨h1,h2⟩:=chg_below HBV.out.size HO2.out hs hk;have HA3:Hid (At w3 g A2 o3):=Lib.hid ha;have HB3:=Lib.hid (HBV.out.trans h1);have HO3:=Lib.hid h2;clear ha hs hk h1 h2 HCA HBV HO2
 have kc3:(convert 32 32 (.slice (some ⟨w3.heap.size,0,none⟩) 1 1)).run Try.prog (w3.alloc (.cells #[.int .u8 99] 5))=.ok (.slice (some ⟨w3.heap.size,0,none⟩) 1 1) (w3.alloc (.cells #[.int .u8 99] 5 (1,2))):=
  Lib.run_convert_bytes_const (P:=Try.prog) w3 32 5 #[.int .u8 99] 1 1 Try.underlying32 Try.underlying5
 obtain ⟨V3,hV3⟩:∃ V,w3.alloc (.cells #[.int .u8 99] 5 (1,2))=V:=⟨_,rfl⟩;have hb3:Below w3.heap.size w3 V3:=by rw [← hV3];exact (Below.refl _ _).alloc (Nat.le_refl _) _
 have HAV:=Lib.hid (HC.out.frame HA3.out (Kept.of_below hb3 noneB) (fun b _ h => h.elim))
 have HCA:=Lib.hid (HC.out.append 0 (some ⟨w3.heap.size,0,none⟩) 1 1 [99] HAV.out small_A2 (by rw [← hV3];exact bat_lit w3 [99] (1,2)) rfl (Nat.le_refl _) (by decide) (by decide) (fun _ a ha hoa => by cases ha;exact Nat.lt_irrefl _ ((HC.out.lt HA3.out).2 _ hoa)) (by decide) (by decide))
 have HBV:=Lib.hid (HB3.out.trans (hb3.mono HB3.out.size));clear hb3 HA3 HB3 HAV
 go_wp2_with fail
 clear kc3 hV3;refine HCA.out.mono ?_
 rintro e w4 ⟨o4,rfl,ha,hs,hk⟩;obtain ⟨h1,h2⟩:=chg_below HBV.out.size HO3.out hs hk;have HA4:Hid (At w4 g A3 o4):=Lib.hid ha;have HB4:=Lib.hid (HBV.out.trans h1);have HO4:=Lib.hid h2;clear ha hs hk h1 h2 HCA HBV HO3
 have kc4:(convert 32 32 (.slice (some ⟨w4.heap.size,0,none⟩) 2 2)).run Try.prog (w4.alloc (.cells #[.int .u8 99,.int .u8 100] 5))=.ok (.slice (some ⟨w4.heap.size,0,none⟩) 2 2) (w4.alloc (.cells #[.int .u8 99,.int .u8 100] 5 (2,3))):=
  Lib.run_convert_bytes_const (P:=Try.prog) w4 32 5 #[.int .u8 99,.int .u8 100] 2 2 Try.underlying32 Try.underlying5
 obtain ⟨V4,hV4⟩:∃ V,w4.alloc (.cells #[.int .u8 99,.int .u8 100] 5 (2,3))=V:=⟨_,rfl⟩;have hb4:Below w4.heap.size w4 V4:=by rw [← hV4];exact (Below.refl _ _).alloc (Nat.le_refl _) _
 have HAV:=Lib.hid (HC.out.frame HA4.out (Kept.of_below hb4 noneB) (fun b _ h => h.elim))
 have HCA:=Lib.hid (HC.out.append 0 (some ⟨w4.heap.size,0,none⟩) 2 2 [99,100] HAV.out small_A3 (by rw [← hV4];exact bat_lit w4 [99,100] (2,3)) rfl (Nat.le_refl _) (by decide) (by decide) (fun _ a ha hoa => by cases ha;exact Nat.lt_irrefl _ ((HC.out.lt HA4.out).2 _ hoa)) (by decide) (by decide))
 have HBV:=Lib.hid (HB4.out.trans (hb4.mono HB4.out.size));clear hb4 HA4 HB4 HAV
 go_wp2_with fail
 clear kc4 hV4;refine HCA.out.mono ?_
 rintro e w5 ⟨o5,rfl,ha,hs,hk⟩;obtain ⟨h1,h2⟩:=chg_below HBV.out.size HO4.out hs hk;have HA5:Hid (At w5 g A4 o5):=Lib.hid ha;have HB5:=Lib.hid (HBV.out.trans h1);have HO5:=Lib.hid h2;clear ha hs hk h1 h2 HCA HBV HO4;have hrd:=HC.out.read 0 1 9 HA5.out small_A4 (by decide) (by decide) (by decide) (by decide) (by decide) (by decide)
 rw [show readS A4 0 1 9=([98],0) by decide] at hrd
 have HRD:=Lib.hid hrd;clear hrd
 go_wp2_with fail
 refine HRD.out.mono ?_
 rintro e w6 ⟨v6,rfl,ho6,hk6⟩;have HA6:=Lib.hid (HC.out.frame HA5.out hk6 (fun b _ h => h.elim))
 have HB6:=Lib.hid (HB5.out.trans (hk6.below HB5.out.size (fun _ h => h.elim)))
 obtain ⟨p6,c6,rfl,_,_,hbt,hln,_⟩:=OwnB.slice ho6;have cv:=conv_at (P:=Try.prog) hbt rfl _ _ _ Try.underlying32 Try.underlying5 Try.underlying9 c6;change (convert 32 9 (.slice p6 1 c6)).run Try.prog w6=.ok (.string ⟨#[98]⟩) w6 at cv;change Hid (At w6 g A4 o5) at HA6;clear ho6 hk6 hln hbt HA5 HB5 HRD
 go_wp2_with fail
 clear cv;refine (HC.out.writes HA6.out small_A4).mono ?_
 rintro e w7 ⟨rfl,hk7⟩;have HA7:=Lib.hid (HC.out.frame HA6.out hk7 (fun b _ h => h.elim))
 have HB7:=Lib.hid (HB6.out.trans (hk7.below HB6.out.size (fun _ h => h.elim)))
 clear hk7 HA6 HB6
 go_wp2_with fail
 refine (HC.out.used HA7.out small_A4).mono ?_
 rintro e w8 ⟨rfl,hk8⟩;have HB8:=Lib.hid (HB7.out.trans (hk8.below HB7.out.size (fun _ h => h.elim)))
 clear hk8 HA7 HB7
 go_wp2
 go_ret
 exact ⟨rfl,HB8.out⟩
end Go.Proofs.Ytfpoipamioaklaa.Sto
end
section
namespace Go.Proofs.Ytfpoipamioaklaa.Sto
open Go.ChangeShapes Go.WideShapes Go.ChangeAt Go.RowKit Base Byt Txt Bk Block Go.Lib
set_option linter.unusedVariables false
set_option maxRecDepth 100000
def rowB (p:Option Addr) (n:Nat) (b:Nat):Prop:=0 < n ∧ ∃ z,p=some z∧z.block=b
structure FlipB (w0 wr:World) (p:Option Addr) (n:Nat):Prop where
 kept:Kept (rowB p n) w0 wr
 bytes:0 < n → ∃ b o cur,p=some ⟨b,o,none⟩∧Blk wr b 5 cur ∧ ∀ k,k < n → ∃ m:Nat,m < 256∧cur[o+k]? = some (.int .u8 (m:Int))
theorem FlipB.start {w:World} {B:Nat} {p:Option Addr} {n c:Nat} {bs:List UInt8} (h:OwnB w B (.slice p n c) n bs):FlipB w w p n:=⟨Kept.refl _ _,fun h0 => by
 have hb:BAt w p n bs:=by
  obtain ⟨p2,c2,he,_,_,hb,_⟩:=OwnB.slice h
  cases he;exact hb
 rcases h.2 with ⟨h1,_⟩ | ⟨g,cap,cur,h1,_,hg,_⟩
 ·cases h1;omega
 ·cases h1
  refine ⟨g,0,cur,rfl,hg,fun k hk => ⟨(bs.getD k 0).toNat,UInt8.toNat_lt _,?_⟩⟩
  obtain ⟨b,o,he,hc⟩:=hb h0
  cases he
  have hg2:Blk w g 5 cur:=hg;rw [← hg2.cell]
  exact hc k hk⟩
end Go.Proofs.Ytfpoipamioaklaa.Sto
end
section
namespace Go.Proofs.Ytfpoipamioaklaa.Walk
open Go.ChangeShapes Go.WideShapes Go.ChangeAt Go.RowKit Base Byt Txt Bk Block Sto Go.Lib
set_option linter.unusedVariables false
set_option maxRecDepth 100000
structure FullQ (At:World → Nat → SM → (Nat → Prop) → Prop) (w wr:World) (g:Nat) (v7 v8:Value) (own:Nat → Prop) (M:SM) (ids szs:List Int):Prop where
 at_:At wr g M own
 bel:Below w.heap.size w wr
 base:∀ b,own b → w.heap.size≤b
 q7:QR wr v7 ids
 q8:QR wr v8 szs
 b7:∀ b,qB v7 b → w.heap.size≤b∧¬ own b
 b8:∀ b,qB v8 b → w.heap.size≤b∧¬ own b
 ne:∀ b,qB v7 b → ¬ qB v8 b
section
variable {At:World → Nat → SM → (Nat → Prop) → Prop} {w wr w':World} {g:Nat} {v7 v8:Value} {own own':Nat → Prop} {M M':SM} {ids szs:List Int}
theorem FullQ.chg (h:FullQ At w wr g v7 v8 own M ids szs) (ha:At w' g M' own') (hs:∀ b,own' b → own b ∨ wr.heap.size≤b) (hk:Kept own wr w'):FullQ At w w' g v7 v8 own' M' ids szs where
 at_:=ha
 bel:=h.bel.trans (hk.below h.bel.size h.base)
 base:=fun b hb => by rcases hs b hb with h1 | h1;exact h.base b h1;have:=h.bel.size;omega
 q7:=h.q7.kept hk (fun b hb => (h.b7 b hb).2)
 q8:=h.q8.kept hk (fun b hb => (h.b8 b hb).2)
 b7:=fun b hb => ⟨(h.b7 b hb).1,fun ho => by rcases hs b ho with h1 | h1;exact (h.b7 b hb).2 h1;have:=h.q7.lt hb;omega⟩
 b8:=fun b hb => ⟨(h.b8 b hb).1,fun ho => by rcases hs b ho with h1 | h1;exact (h.b8 b hb).2 h1;have:=h.q8.lt hb;omega⟩
 ne:=h.ne
theorem FullQ.none_ (H:StoC At) (h:FullQ At w wr g v7 v8 own M ids szs) (hk:Kept noneB wr w'):FullQ At w w' g v7 v8 own M ids szs where
 at_:=H.frame h.at_ hk (fun b _ h => h.elim)
 bel:=h.bel.trans (hk.below h.bel.size (fun _ h => h.elim))
 base:=h.base
 q7:=h.q7.kept hk (fun b _ h => h.elim)
 q8:=h.q8.kept hk (fun b _ h => h.elim)
 b7:=h.b7
 b8:=h.b8
 ne:=h.ne
theorem FullQ.put7 (H:StoC At) (h:FullQ At w wr g v7 v8 own M ids szs) {v:Value} {l:List Int} (hq:QR w' v l) (hk:Kept (qB v7) wr w') (hb:∀ b,qB v b → qB v7 b ∨ wr.heap.size≤b):FullQ At w w' g v v8 own M l szs where
 at_:=H.frame h.at_ hk (fun b ho h7 => (h.b7 b h7).2 ho)
 bel:=h.bel.trans (hk.below h.bel.size (fun b h7 => (h.b7 b h7).1))
 base:=h.base
 q7:=hq
 q8:=h.q8.kept hk (fun b h8 h7 => h.ne b h7 h8)
 b7:=fun b hv => by
  rcases hb b hv with h1 | h1
  ·exact h.b7 b h1
  ·exact ⟨by have:=h.bel.size;omega,fun ho => by have:=(H.lt h.at_).2 b ho;omega⟩
 b8:=h.b8
 ne:=fun b hv h8 => by
  rcases hb b hv with h1 | h1
  ·exact h.ne b h1 h8
  ·have:=h.q8.lt h8;omega
theorem FullQ.put8 (H:StoC At) (h:FullQ At w wr g v7 v8 own M ids szs) {v:Value} {l:List Int} (hq:QR w' v l) (hk:Kept (qB v8) wr w') (hb:∀ b,qB v b → qB v8 b ∨ wr.heap.size≤b):FullQ At w w' g v7 v own M ids l where
 at_:=H.frame h.at_ hk (fun b ho h7 => (h.b8 b h7).2 ho)
 bel:=h.bel.trans (hk.below h.bel.size (fun b h7 => (h.b8 b h7).1))
 base:=h.base
 q7:=h.q7.kept hk (fun b h7 h8 => h.ne b h7 h8)
 q8:=hq
 b7:=h.b7
 b8:=fun b hv => by
  rcases hb b hv with h1 | h1
  ·exact h.b8 b h1
  ·exact ⟨by have:=h.bel.size;omega,fun ho => by have:=(H.lt h.at_).2 b ho;omega⟩
 ne:=fun b h7 hv => by
  rcases hb b hv with h1 | h1
  ·exact h.ne b h7 h1
  ·have:=h.q7.lt h7;omega
theorem FullQ.cut (h:FullQ At w wr g v7 v8 own M ids szs) {v v':Value} {l l':List Int} (hq:QR wr v l) (hb:∀ b,qB v b → qB v7 b) (hq':QR wr v' l') (hb':∀ b,qB v' b → qB v8 b):FullQ At w wr g v v' own M l l' where
 at_:=h.at_
 bel:=h.bel
 base:=h.base
 q7:=hq
 q8:=hq'
 b7:=fun b hv => h.b7 b (hb b hv)
 b8:=fun b hv => h.b8 b (hb' b hv)
 ne:=fun b hv hv' => h.ne b (hb b hv) (hb' b hv')
end
theorem append_q {w:World} {ops:Array Oper} {rest:List Oper} {o:Oper} {a:Act} {Q:Exit → Act → World → Prop} (hgd:o.guard=none) (s x:Operand)
 (ho:o.op=.call { callee:=.builtin .append,args:=#[s,x],argTypes:=#[22,22] })
 {p:Option Addr} {n c:Nat} {zs:List Int} (hs:a.eval s=.slice p n c) (hq:QR w (.slice p n c) zs) (b1 c1:Nat) (y:Int) (hx:a.eval x=.slice (some ⟨b1,0,none⟩) 1 c1) (hy:w.cell? ⟨b1,0,none⟩=some (.int .i64 y)) (hn:n≤100000)
 (h:∀ p' c' w',QR w' (.slice p' (n+1) c') (zs++[y]) → Kept (qB (.slice p n c)) w w' → (∀ b,qB (.slice p' (n+1) c') b → qB (.slice p n c) b ∨ w.heap.size≤b) → wpList Try.prog ops Q rest (a.put o.dst (.slice p' (n+1) c')) w'):wpList Try.prog ops Q (o :: rest) a w:=by
 obtain ⟨p',c',w',hr,h1,h2,h3⟩:=run_append_q (c1:=c1) o.type hq hy hn;refine wpList_plain hgd fun K hK => ?_
 unfold Oper.wp execOp;simp only [ho,resolve,invoke,builtin,Sem.run_bind,Sem.run_pure,Result.andThen_ok,List.map_toArray,List.map_cons,List.map_nil,hs,hx,hr];exact hK _ _ (h p' c' w' h1 h2 h3)
theorem bytesOf_zeros (n:Nat):((nums (List.replicate n (0:UInt8))).map (Value.int .u8))=(madeCells #[Value.int .u8 0] n).toList:=by
 unfold nums;rw [toList_madeCells_one,List.map_map,List.map_replicate];rfl
set_option maxHeartbeats 8000000 in
theorem storeFullC {At:World → Nat → SM → (Nat → Prop) → Prop} (H:StoC At) (r:Int) (p:Option Addr) (n c:Nat) (zs:List Int) (w:World) (wk:(Lit.int .u16 r).wf=true) (w1:IsRow .u8 w p n c zs) (b1:c * 1≤140737488351232) :
 Calls Try.prog 6 #[.int .u16 r,.slice p n c] w fun e w' => e=.returned (.bool true)∧Below w.heap.size w w':=by
 obtain ⟨i0,hi,hz0,hz1,hz2⟩:=info_parts infoU8;have HI:=Lib.hid hi;have HZ0:=Lib.hid hz0;have HZ1:=Lib.hid hz1;have HZ2:=Lib.hid hz2;obtain ⟨hb,hl,hc,hm⟩:=bat_of_row w1;obtain ⟨bs,hbs⟩:∃ bs,bytesOf (zs.take n)=bs:=⟨_,rfl⟩;rw [hbs] at hb hl;have HC:=Lib.hid H;have HBT:=Lib.hid hb;have HL:=Lib.hid hl
 have hrw:0≤r∧r≤65535:=by
  simp only [Lit.wf,Bool.and_eq_true,decide_eq_true_eq] at wk;have h1:IntKind.u16.min=0:=rfl;have h2:IntKind.u16.max=65535:=rfl;omega
 obtain ⟨R,rfl⟩:∃ R:Nat,r=(R:Int):=⟨r.toNat,by omega⟩
 have hR:R≤65535:=by omega
 have hnew:=H.new w (R:Int) none 0 0 [] (fun h => by omega) rfl (Nat.le_refl _) (by decide) (by decide) (by omega) (by omega)
 have HNEW:=Lib.hid hnew;clear w1 hbs hb hl H wk hc hm hi hz0 hz1 hz2 hnew
 go_enter Try.func6,Try.ntmps6
 go_wp2_with fail
 refine HNEW.out.mono ?_
 rintro e wa ⟨g,own,rfl,ha,ho,hb⟩
 have HF:Hid (∃ own M ids szs,FullQ At w wa g (.slice none 0 0) (.slice none 0 0) own M ids szs∧FullJ R 0 M 0 ids szs):=Lib.hid ⟨own,⟨R,[],[],0,0⟩,[],[],
  { at_:=by have e:newS (R:Int) []=⟨R,[],[],0,0⟩:=by unfold newS;simp
            rw [← e];exact ha
    bel:=hb
    base:=ho
    q7:=qr_nil _
    q8:=qr_nil _
    b7:=fun b h => by obtain ⟨p,n,c,he,h0,_⟩:=h;cases he;omega
    b8:=fun b h => by obtain ⟨p,n,c,he,h0,_⟩:=h;cases he;omega
    ne:=fun b h => by obtain ⟨p,n,c,he,h0,_⟩:=h;cases he;omega },FullJ.start R⟩
 clear ha ho hb HNEW hrw
 go_wp2_with fail
 go_loopw [6,7,8,9] (fun u v7 v8 x wr => ∃ (i U:Nat),i≤200∧i≤n∧U≤65535∧u=.int .i64 (U:Int)∧x=.int .i64 (i:Int)∧Hid (∃ own M ids szs,FullQ At w wr g v7 v8 own M ids szs∧FullJ R i M U ids szs)) (fun _ _ _ x _ => n - (RowKit.intOf x).toNat)
 case atStart => exact ⟨0,0,by omega,by omega,by omega,rfl,rfl,HF⟩
 case round =>
  obtain ⟨i,U,hi2,hin,hU,rfl,rfl,hW⟩:=hrel;clear HF;obtain ⟨own,M,ids,szs,hQ,hJ⟩:=hW.out;have HQ:=Lib.hid hQ;have HJ:=Lib.hid hJ;obtain ⟨p7,n7,c7,e7,l7,m7,x7,_⟩:=hQ.q7;obtain ⟨p8,n8,c8,e8,l8,m8,x8,_⟩:=hQ.q8;subst e7;subst e8;have HS:=Lib.hid (hJ.isSmall hi2 hR);have HP:=Lib.hid hJ.peak;clear hW hQ hJ
  by_cases hgo:i < n∧i < 200
  ·have hz1:(i:Int) < (n:Int):=by omega
   have hz2:(i:Int) < 200:=by omega
   go_wp2_with fail
   refine (HC.out.create HQ.out.at_ HS.out).mono ?_
   rintro e wb ⟨o2,rfl,ha,hs,hk⟩;rw [HJ.out.runs];have HQ2:=Lib.hid (HQ.out.chg ha hs hk);clear ha hs hk;obtain ⟨b,o,hpb,hbw,hcell⟩:=(HBT.out.below HQ2.out.bel).cell hgo.1;subst hpb;have hx:=hcell i hgo.1;obtain ⟨B,hB⟩:∃ B,(bs.getD i 0).toNat=B:=⟨_,rfl⟩;have hB8:B < 256:=by rw [← hB];exact UInt8.toNat_lt _
   rw [hB] at hx;clear hcell hbw hB
   go_wp2_with (at_make;refine wpList_make_full _ rfl _ _ 32 rfl wb.heap.size 5 i0 (.int .u8 0) 1 Try.underlying32 HI.out HZ0.out HZ1.out .i64 .i64 _ _ B rfl rfl rfl rfl (by rw [HZ2.out];omega) (by unfold maxLen;omega) (Nat.le_refl _) ?_)
   intro wc hown hgrow;have hkc:Kept noneB wb wc:=(Kept.refl noneB wb).grown hgrow (by intro k hk;cases hk)
   have HQ3:=Lib.hid (HQ2.out.none_ HC.out hkc);rw [← bytesOf_zeros] at hown;have hob:OwnB wc wb.heap.size (.slice (some ⟨wb.heap.size,0,none⟩) B B) B (List.replicate B 0):=hown;obtain ⟨_,_,he,_,_,hbt,_,_⟩:=OwnB.slice hob
   cases he
   have hrl:(List.replicate B (0:UInt8)).length=B:=List.length_replicate;have hap:=HC.out.append (i:Int) (some ⟨wb.heap.size,0,none⟩) B B (List.replicate B 0) HQ3.out.at_ (HJ.out.create hi2 hR).1 hbt hrl (Nat.le_refl _) (by unfold maxLen;omega) (by omega) (fun _ a ha hoa => by cases ha;have:=(HC.out.lt HQ2.out.at_).2 _ hoa;exact Nat.lt_irrefl _ this) (by omega) (by omega)
   by_cases hfull:R < U+B
   ·have hzf:¬ ((U:Int)+(B:Int)≤(R:Int)):=by omega
    obtain ⟨M2,hM2,hJ2⟩:=HJ.out.full hi2 hR (b:=List.replicate B 0) (by rw [hrl];exact hfull)
    rw [hM2] at hap;have HAP:=Lib.hid hap;have HJ2:=Lib.hid hJ2;clear hown hgrow hkc hob hbt hrl hap hM2 hJ2
    go_wp2_with fail
    refine HAP.out.mono ?_
    rintro e wd ⟨o4,rfl,ha,hs,hk⟩;have HQ4:=Lib.hid (HQ3.out.chg ha hs hk);clear ha hs hk HQ3 HQ2 HAP
    by_cases h0:0 < n7
    ·have h0z:(0:Int) < (n7:Int):=by omega
     obtain ⟨g7,q7,hp7,hc7⟩:=HQ4.out.q7.first h0
     obtain ⟨g8,q8,hp8,hc8⟩:=HQ4.out.q8.first (by have:=HJ2.out.len;omega)
     subst hp7;subst hp8;have h08:(0:Int) < (n8:Int):=by have:=HJ2.out.len;omega
     obtain ⟨M5,z,hM5,hz,hzU,hz255,hJ5⟩:=HJ2.out.drop (by rw [l7];exact h0)
     have hdr:=HC.out.drop (ids.getD 0 0) HQ4.out.at_ (HJ2.out.isSmall (by omega) hR) (by obtain ⟨k,e1,e2,_⟩:=HJ2.out.each 0 (by rw [l7];exact h0);omega) (by obtain ⟨k,e1,e2,_⟩:=HJ2.out.each 0 (by rw [l7];exact h0);omega)
     rw [hM5] at hdr;have HDR:=Lib.hid hdr;have HJ5:=Lib.hid hJ5;have HZ:=Lib.hid hz;obtain ⟨I7,hI7⟩:∃ I7,ids.getD 0 0=I7:=⟨_,rfl⟩;rw [hI7] at hc7 HDR;rw [hz] at hc8;clear hM5 hz hdr hJ5 hI7 hc8
     go_wp2_with fail
     clear hc7;refine HDR.out.mono ?_
     rintro e we ⟨o5,rfl,ha,hs,hk⟩;have HQ5:=Lib.hid (HQ4.out.chg ha hs hk);clear ha hs hk HQ4 HDR HJ2;obtain ⟨_,_,hp8,hc8⟩:=HQ5.out.q8.first (by omega)
     cases hp8
     rw [HZ.out] at hc8;obtain ⟨t7,u7⟩:=HQ5.out.q7.tail h0;obtain ⟨t8,u8⟩:=HQ5.out.q8.tail (show 0 < n8 by omega)
     have HQ6:=Lib.hid (HQ5.out.cut t7 u7 t8 u8);obtain ⟨V,hV⟩:∃ V,U - z=V:=⟨_,rfl⟩;have hVz:(U:Int) - (z:Int)=(V:Int):=by omega
     rw [hV] at HJ5;have hw7:(1:Int)≤(c7:Int):=by omega
     have hw8:(1:Int)≤(c8:Int):=by omega
     have hm7:(1:Int)≤(n7:Int):=by omega
     have hm8:(1:Int)≤(n8:Int):=by omega
     have hV2:V≤65535:=by omega
     have HUSED:Hid (∀ w',Kept noneB we w' → Calls Try.prog 15 #[ptrS g] w' (ValPost w' (.int .i64 (V:Int)))):=Lib.hid (fun w' hk => by
      have:=HC.out.used (HQ6.out.none_ HC.out hk).at_ (HJ5.out.isSmall (by omega) hR)
      rw [HJ5.out.used] at this
      exact this)
     clear t7 u7 t8 u8 hV HQ5
     go_upto_region 19 with fail
     clear hc8 hVz
     by_cases k7:c7=1
     ·by_cases k8:c8=1
      ·have HV:Hid (FullQ At w we.drew g (.slice (some ⟨g7,q7,none⟩) (n7 - 1) 0) (.slice (some ⟨g8,q8,none⟩) (n8 - 1) 0) o5 M5 ids.tail szs.tail):=Lib.hid (by
        have h:=HQ6.out.none_ HC.out (Kept.refl noneB we).drew;rw [if_pos k7,show c7 - 1=0 by omega] at h
        rw [if_pos k8,show c8 - 1=0 by omega] at h
        exact h)
       have HU:=HUSED;clear HUSED
       go_region
       all_goals
        go_wp2_with fail
        refine (HU.out we.drew (Kept.refl noneB we).drew).mono ?_
        rintro e wf ⟨rfl,hk⟩;have HV2:=Lib.hid (HV.out.none_ HC.out hk);clear hk
        go_wp2
        go_roundw
        case rel => exact ⟨i+1,V,by omega,by omega,hV2,rfl,by go_num,Lib.hid ⟨o5,M5,_,_,HV2.out,HJ5.out⟩⟩
        case measure => simp [RowKit.intOf];omega
      ·have HV:Hid (FullQ At w we.drew g (.slice (some ⟨g7,q7,none⟩) (n7 - 1) 0) (.slice (some ⟨g8,q8+1,none⟩) (n8 - 1) (c8 - 1)) o5 M5 ids.tail szs.tail):=Lib.hid (by
        have h:=HQ6.out.none_ HC.out (Kept.refl noneB we).drew;rw [if_pos k7,show c7 - 1=0 by omega] at h
        rw [if_neg k8,Option.map_some,WideShapes.add_plain] at h
        exact h)
       have HU:=HUSED;clear HUSED
       go_region
       all_goals
        go_wp2_with fail
        refine (HU.out we.drew (Kept.refl noneB we).drew).mono ?_
        rintro e wf ⟨rfl,hk⟩;have HV2:=Lib.hid (HV.out.none_ HC.out hk);clear hk
        go_wp2
        go_roundw
        case rel => exact ⟨i+1,V,by omega,by omega,hV2,rfl,by go_num,Lib.hid ⟨o5,M5,_,_,HV2.out,HJ5.out⟩⟩
        case measure => simp [RowKit.intOf];omega
     ·by_cases k8:c8=1
      ·have HV:Hid (FullQ At w we.drew g (.slice (some ⟨g7,q7+1,none⟩) (n7 - 1) (c7 - 1)) (.slice (some ⟨g8,q8,none⟩) (n8 - 1) 0) o5 M5 ids.tail szs.tail):=Lib.hid (by
        have h:=HQ6.out.none_ HC.out (Kept.refl noneB we).drew;rw [if_neg k7,Option.map_some,WideShapes.add_plain] at h;rw [if_pos k8,show c8 - 1=0 by omega] at h
        exact h)
       have HU:=HUSED;clear HUSED
       go_region
       all_goals
        go_wp2_with fail
        refine (HU.out we.drew (Kept.refl noneB we).drew).mono ?_
        rintro e wf ⟨rfl,hk⟩;have HV2:=Lib.hid (HV.out.none_ HC.out hk);clear hk
        go_wp2
        go_roundw
        case rel => exact ⟨i+1,V,by omega,by omega,hV2,rfl,by go_num,Lib.hid ⟨o5,M5,_,_,HV2.out,HJ5.out⟩⟩
        case measure => simp [RowKit.intOf];omega
      ·have HV:Hid (FullQ At w we.drew g (.slice (some ⟨g7,q7+1,none⟩) (n7 - 1) (c7 - 1)) (.slice (some ⟨g8,q8+1,none⟩) (n8 - 1) (c8 - 1)) o5 M5 ids.tail szs.tail):=Lib.hid (by
        have h:=HQ6.out.none_ HC.out (Kept.refl noneB we).drew;rw [if_neg k7,Option.map_some,WideShapes.add_plain] at h;rw [if_neg k8,Option.map_some,WideShapes.add_plain] at h
        exact h)
       have HU:=HUSED;clear HUSED
       go_region
       all_goals
        go_wp2_with fail
        refine (HU.out we.drew (Kept.refl noneB we).drew).mono ?_
        rintro e wf ⟨rfl,hk⟩;have HV2:=Lib.hid (HV.out.none_ HC.out hk);clear hk
        go_wp2
        go_roundw
        case rel => exact ⟨i+1,V,by omega,by omega,hV2,rfl,by go_num,Lib.hid ⟨o5,M5,_,_,HV2.out,HJ5.out⟩⟩
        case measure => simp [RowKit.intOf];omega
    ·have h0z:¬ ((0:Int) < (n7:Int)):=by omega
     have HUSED:Hid (∀ w',Kept noneB wd w' → Calls Try.prog 15 #[ptrS g] w' (ValPost w' (.int .i64 (U:Int)))):=Lib.hid (fun w' hk => by
      have:=HC.out.used (HQ4.out.none_ HC.out hk).at_ (HJ2.out.isSmall (by omega) hR)
      rw [HJ2.out.used] at this
      exact this)
     go_wp2_with fail
     refine (HUSED.out wd (Kept.refl noneB wd)).mono ?_
     rintro e wf ⟨rfl,hk⟩;have HV2:=Lib.hid (HQ4.out.none_ HC.out hk);clear hk
     go_wp2
     go_roundw
     case rel => exact ⟨i+1,U,by omega,by omega,hU,rfl,by go_num,Lib.hid ⟨o4,M2,_,_,HV2.out,HJ2.out⟩⟩
     case measure => simp [RowKit.intOf];omega
   ·have hzf:(U:Int)+(B:Int)≤(R:Int):=by omega
    obtain ⟨M2,hM2,hJ2⟩:=HJ.out.ok hi2 hR (b:=List.replicate B 0) (by rw [hrl];exact hfull) (by rw [hrl];omega)
    rw [hM2] at hap;rw [hrl] at hJ2;have HAP:=Lib.hid hap;have HJ2:=Lib.hid hJ2;obtain ⟨V,hV⟩:∃ V,U+B=V:=⟨_,rfl⟩;have hVz:(U:Int)+(B:Int)=(V:Int):=by omega
    have hV2:V≤65535:=by omega
    rw [hV] at HJ2;have hVR:(V:Int)≤(R:Int):=by omega
    clear hown hgrow hkc hob hbt hrl hap hM2 hJ2 hV hzf
    go_wp2_with fail
    refine HAP.out.mono ?_
    rintro e wd ⟨o4,rfl,ha,hs,hk⟩;have HQ4:=Lib.hid (HQ3.out.chg ha hs hk);clear ha hs hk HQ3 HQ2 HAP;obtain ⟨X1,hX1⟩:∃ X,wd.alloc (.cells #[.int .i64 (i:Int)] 3)=X:=⟨_,rfl⟩
    have HX1:Hid (FullQ At w X1 g (.slice p7 n7 c7) (.slice p8 n8 c8) o4 M2 ids szs∧X1.cell? ⟨wd.heap.size,0,none⟩=some (.int .i64 (i:Int))):=Lib.hid (by
     rw [← hX1]
     exact ⟨HQ4.out.none_ HC.out ((Kept.refl noneB wd).alloc _),(Blk.new wd _ _).cell 0⟩)
    go_wp2_with (at_builtin;refine append_q rfl _ _ rfl rfl HX1.out.1.q7 wd.heap.size 1 (i:Int) rfl HX1.out.2 (by have:=HJ.out.cnt;omega) ?_)
    intro p9 c9 we h1 h2 h3;have HQ5:=Lib.hid (HX1.out.1.put7 HC.out h1 h2 h3);clear hX1 h1 h2 h3 HX1 HQ4;obtain ⟨X2,hX2⟩:∃ X,we.alloc (.cells #[.int .i64 (B:Int)] 3)=X:=⟨_,rfl⟩
    have HX2:Hid (FullQ At w X2 g (.slice p9 (n7+1) c9) (.slice p8 n8 c8) o4 M2 (ids++[(i:Int)]) szs∧X2.cell? ⟨we.heap.size,0,none⟩=some (.int .i64 (B:Int))):=Lib.hid (by
     rw [← hX2]
     exact ⟨HQ5.out.none_ HC.out ((Kept.refl noneB we).alloc _),(Blk.new we _ _).cell 0⟩)
    go_wp2_with (at_builtin;refine append_q rfl _ _ rfl rfl HX2.out.1.q8 we.heap.size 1 (B:Int) rfl HX2.out.2 (by have:=HJ.out.cnt;have:=HJ.out.len;omega) ?_)
    intro p10 c10 wf h1 h2 h3;have HQ6:=Lib.hid (HX2.out.1.put8 HC.out h1 h2 h3);clear hX2 h1 h2 h3 HX2 HQ5;have hus:=HC.out.used HQ6.out.at_ (HJ2.out.isSmall (by omega) hR)
    rw [HJ2.out.used] at hus;have HUS:=Lib.hid hus;clear hus
    go_wp2_with fail
    refine HUS.out.mono ?_
    rintro e wg ⟨rfl,hk⟩;have HV2:=Lib.hid (HQ6.out.none_ HC.out hk);clear hk HUS
    go_wp2
    go_roundw
    case rel => exact ⟨i+1,V,by omega,by omega,hV2,rfl,by go_num,Lib.hid ⟨o4,M2,_,_,HV2.out,HJ2.out⟩⟩
    case measure => simp [RowKit.intOf];omega
  ·have HAN:=Lib.hid (ans14_any HC.out wr)
   have hpz:(M.peak:Int)≤(R:Int):=by have:=HP.out;omega
   by_cases hz1:i < n
   ·have hz1z:(i:Int) < (n:Int):=by omega
    have hz2:¬ ((i:Int) < 200):=by omega
    clear hgo
    go_wp2_with fail
    refine HAN.out.mono ?_
    rintro e wb ⟨rfl,hbb⟩;have HQ2:=Lib.hid (HQ.out.none_ HC.out (Kept.of_below hbb noneB));clear hbb HAN
    go_wp2_with fail
    refine (HC.out.peak HQ2.out.at_ HS.out).mono ?_
    rintro e wc ⟨rfl,hk⟩;have HQ3:=Lib.hid (HQ2.out.none_ HC.out hk);clear hk
    go_wp2
    go_ret
    exact ⟨rfl,HQ3.out.bel⟩
   ·have hz1z:¬ ((i:Int) < (n:Int)):=by omega
    clear hgo
    go_wp2_with fail
    refine HAN.out.mono ?_
    rintro e wb ⟨rfl,hbb⟩;have HQ2:=Lib.hid (HQ.out.none_ HC.out (Kept.of_below hbb noneB));clear hbb HAN
    go_wp2_with fail
    refine (HC.out.peak HQ2.out.at_ HS.out).mono ?_
    rintro e wc ⟨rfl,hk⟩;have HQ3:=Lib.hid (HQ2.out.none_ HC.out hk);clear hk
    go_wp2
    go_ret
    exact ⟨rfl,HQ3.out.bel⟩
end Go.Proofs.Ytfpoipamioaklaa.Walk
end
