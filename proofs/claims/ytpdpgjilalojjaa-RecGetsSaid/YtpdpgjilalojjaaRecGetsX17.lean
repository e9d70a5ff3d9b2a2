/- Texts of this seat, merged: what the proof reaches. -/
import Derived.Test.YtpdpgjilalojjaaRecGetsX16
import Derived.BigQuiet
import Derived.Lib.SlBytesConst
namespace Go.Proofs.Ytpdpgjilalojjaa
namespace Base
end Base
namespace Bk
end Bk
namespace Block
end Block
namespace Byt
end Byt
namespace Itm
end Itm
namespace Mem
end Mem
namespace Rec
end Rec
namespace Tre
end Tre
namespace Txt
end Txt
end Go.Proofs.Ytpdpgjilalojjaa
section
namespace Go.Proofs.Ytpdpgjilalojjaa.Itm
open Go.ChangeShapes Go.WideShapes Go.ChangeAt Go.RowKit Base Byt Txt Bk Rec Block Mem Tre Go.Lib
set_option linter.unusedVariables false
set_option maxRecDepth 100000
def oneI:ItemV:=⟨[107],7,[100]⟩
theorem may_one:mayI oneI=true:=by decide
theorem bytes_one:(bytesI oneI).length=18:=by rw [bytesI_length];rfl
def aI:ItemV:=⟨[97],0,[]⟩
theorem begins_one:beginsI (bytesI oneI)=(oneI,18,true):=by
 have h:=begins_bytes may_one [];rw [List.append_nil,bytes_one] at h;exact h
theorem dat_a (w:World):DatAt w ⟨aI,none,0⟩:=⟨fun h => absurd h (by decide),Nat.le_refl _,by show (0:Nat)≤maxLen;decide⟩
set_option maxHeartbeats 4000000 in
theorem ans13_any (H:ItmC4) (w:World) :
 Calls Try.prog 9 #[] w fun e w' => e=.returned (.bool true)∧Below w.heap.size w w':=by
 have kc:(convert 22 22 (.slice (some ⟨w.heap.size,0,none⟩) 1 1)).run Try.prog (w.alloc (.cells #[.int .u8 100] 5))=.ok (.slice (some ⟨w.heap.size,0,none⟩) 1 1) (w.alloc (.cells #[.int .u8 100] 5 (1,2))):=
  Lib.run_convert_bytes_const (P:=Try.prog) w 22 5 #[.int .u8 100] 1 1 Try.underlying22 Try.underlying5
 obtain ⟨W1,hW1⟩:∃ W1,(w.alloc (.cells #[.int .u8 100] 5 (1,2))).alloc (.cells #[.string ⟨#[107]⟩,.int .i64 7,.slice (some ⟨w.heap.size,0,none⟩) 1 1] 24)=W1:=⟨_,rfl⟩;have hB1:Below w.heap.size w W1:=by rw [← hW1];exact ((Below.refl _ w).alloc (Nat.le_refl _) _).alloc (by simp) _
 have hb1:Blk W1 (w.heap.size+1) 24 #[.string ⟨#[107]⟩,.int .i64 7,.slice (some ⟨w.heap.size,0,none⟩) 1 1]:=by
  have:=Blk.new (w.alloc (.cells #[.int .u8 100] 5 (1,2))) 24 #[.string ⟨#[107]⟩,.int .i64 7,.slice (some ⟨w.heap.size,0,none⟩) 1 1];rw [World.size_alloc] at this;rw [← hW1];exact this
 have ht1:BAt W1 (some ⟨w.heap.size,0,none⟩) 1 [100]:=fun _ => ⟨w.heap.size,0,rfl,fun i hi => by
  obtain rfl:i=0:=by omega
  rw [← hW1]
  have:(w.alloc (.cells #[.int .u8 100] 5 (1,2))).cell? ⟨w.heap.size,0,none⟩=some (.int .u8 100):=by
   unfold World.cell?;rw [heap_alloc_new];rfl
  exact (((Below.refl (w.heap.size+1) (w.alloc (.cells #[.int .u8 100] 5 (1,2)))).alloc (by simp) _).cell (p:=⟨w.heap.size,0,none⟩) (by show w.heap.size < w.heap.size+1;omega)).trans this⟩
 have hdx:DatAt W1 ⟨oneI,some ⟨w.heap.size,0,none⟩,1⟩:=⟨ht1,by show (1:Nat)≤1;decide,by show (1:Nat)≤maxLen;decide⟩
 have hp1:=H.put W1 ⟨oneI,some ⟨w.heap.size,0,none⟩,1⟩ hdx (by show (Lit.int .i64 7).wf=true;decide) (by show (1:Nat)≤_;decide) (by show (1:Nat)≤_;decide)
 unfold PutIPost at hp1
 dsimp only at hp1
 rw [bytes_one] at hp1;have HP1:=Lib.hid hp1;have HC:=Lib.hid H;have HW1:=Lib.hid hW1;have HB1:=Lib.hid hB1;have HX:=Lib.hid hb1;have HDX:=Lib.hid hdx;clear hW1 hB1 hb1 ht1 hp1 H hdx
 go_enter Try.func9,Try.ntmps9
 go_upto_region 2 with fail
 rw [HW1.out];have c0:=HX.out.cell 0;have c1:=HX.out.cell 1;have c2:=HX.out.cell 2;simp only [List.getElem?_toArray,List.getElem?_cons_zero,List.getElem?_cons_succ] at c0 c1 c2
 go_wp2_with fail
 refine HP1.out.mono ?_
 rintro e w2 (⟨_,p2,c2,rfl,hle2,hmx2,hbt2,hb2⟩ | ⟨hf,_⟩)
 rotate_left
 ·exact absurd may_one (by rw [hf];decide)
 have HB2:=Lib.hid (HB1.out.trans (hb2.mono HB1.out.size));have hg:=HC.out.get w2 p2 18 c2 (bytesI oneI) hbt2 bytes_one hle2 hmx2 (by decide)
 unfold GetIPost at hg;rw [begins_one] at hg;have HG:Hid (Calls Try.prog 12 #[.slice p2 18 c2] w2 fun e w' => ∃ q d,e=.returned (.tuple #[.agg #[.string ⟨#[107]⟩,.int .i64 7,.slice q 1 d],.int .i64 18,.bool true])∧DatAt w' ⟨oneI,q,d⟩∧Below w2.heap.size w2 w'):=Lib.hid hg
 have HX2:=Lib.hid (HX.out.below hb2 HX.out.lt);have HDX2:=Lib.hid (HDX.out.below hb2);clear hle2 hmx2 hbt2 hb2 hg HP1 HW1 kc c0 c1
 go_wp2_with fail
 refine HG.out.mono ?_
 rintro e w3 ⟨q3,d3,rfl,hd3,hb3⟩;obtain ⟨W4,hW4⟩:∃ W4,w3.alloc (.cells #[.string ⟨#[107]⟩,.int .i64 7,.slice q3 1 d3] 24)=W4:=⟨_,rfl⟩;have h34:Below w3.heap.size w3 W4:=by rw [← hW4];exact (Below.refl _ _).alloc (Nat.le_refl _) _
 have hY4:Blk W4 w3.heap.size 24 #[.string ⟨#[107]⟩,.int .i64 7,.slice q3 1 d3]:=by rw [← hW4];exact Blk.new w3 _ _
 have hX3:=HX2.out.below hb3 HX2.out.lt
 have HBY:Hid (∀ w',Below W4.heap.size W4 w' → Blk w' (w.heap.size+1) 24 #[.string ⟨#[107]⟩,.int .i64 7,.slice (some ⟨w.heap.size,0,none⟩) 1 1]∧Blk w' w3.heap.size 24 #[.string ⟨#[107]⟩,.int .i64 7,.slice q3 1 d3]∧DatAt w' ⟨oneI,some ⟨w.heap.size,0,none⟩,1⟩∧DatAt w' ⟨oneI,q3,d3⟩):=Lib.hid (fun w' h => by
  have hX4:=hX3.below h34 hX3.lt
  exact ⟨hX4.below h hX4.lt,hY4.below h hY4.lt,((HDX2.out.below hb3).below h34).below h,(hd3.below h34).below h⟩)
 have HB4:=Lib.hid ((HB2.out.trans (hb3.mono HB2.out.size)).trans (h34.mono (by have:=hb3.size;have:=HB2.out.size;omega)))
 clear hd3 hb3 h34 hY4 hX3
 go_upto_region 4 with fail
 clear hW4;have k:=HBY.out W4 (Below.refl _ _);have c0:=k.1.cell 0;have c1:=k.1.cell 1;have c2:=k.1.cell 2;have d0:=k.2.1.cell 0;have d1:=k.2.1.cell 1;have d2:=k.2.1.cell 2;simp only [List.getElem?_toArray,List.getElem?_cons_zero,List.getElem?_cons_succ] at c0 c1 c2 d0 d1 d2;have hs:=HC.out.same W4 ⟨oneI,some ⟨w.heap.size,0,none⟩,1⟩ ⟨oneI,q3,d3⟩ k.2.2.1 k.2.2.2
 dsimp only at hs
 rw [show decide (oneI=oneI)=true from rfl] at hs
 have HS:=Lib.hid hs;clear k hs
 go_wp2_with fail
 refine HS.out.mono ?_
 rintro e w5 ⟨rfl,hb5⟩;clear c0 c1 c2 d0 d1 d2;have k:=HBY.out w5 hb5;have c0:=k.1.cell 0;have c1:=k.1.cell 1;have c2:=k.1.cell 2;simp only [List.getElem?_toArray,List.getElem?_cons_zero,List.getElem?_cons_succ] at c0 c1 c2;have hs:=HC.out.less w5 ⟨aI,none,0⟩ ⟨oneI,some ⟨w.heap.size,0,none⟩,1⟩ (dat_a _) k.2.2.1
 dsimp only at hs
 rw [show lessI aI oneI=true by decide] at hs
 have HS2:=Lib.hid hs;have HB5:=Lib.hid hb5;clear k hs hb5 HS
 go_wp2_with fail
 refine HS2.out.mono ?_
 rintro e w6 ⟨rfl,hb6⟩;clear c0 c1 c2;have HB6:=Lib.hid (HB5.out.trans (hb6.mono HB5.out.size));have k:=HBY.out w6 HB6.out;have c0:=k.1.cell 0;have c1:=k.1.cell 1;have c2:=k.1.cell 2;simp only [List.getElem?_toArray,List.getElem?_cons_zero,List.getElem?_cons_succ] at c0 c1 c2;have hs:=HC.out.less w6 ⟨oneI,some ⟨w.heap.size,0,none⟩,1⟩ ⟨oneI,some ⟨w.heap.size,0,none⟩,1⟩ k.2.2.1 k.2.2.1
 dsimp only at hs
 rw [show lessI oneI oneI=false by decide] at hs
 have HS3:=Lib.hid hs;clear k hs hb6 HS2
 go_wp2_with fail
 refine HS3.out.mono ?_
 rintro e w7 ⟨rfl,hb7⟩;have HB7:=Lib.hid (HB4.out.trans ((HB6.out.trans (hb7.mono HB6.out.size)).mono HB4.out.size));clear hb7 c0 c1 c2
 go_wp2
 go_ret
 exact ⟨rfl,HB7.out⟩
end Go.Proofs.Ytpdpgjilalojjaa.Itm
end
section
namespace Go.Proofs.Ytpdpgjilalojjaa.Walk
open Go.ChangeShapes Go.WideShapes Go.ChangeAt Go.RowKit Base Byt Txt Bk Rec Block Mem Tre Itm Go.Lib
set_option linter.unusedVariables false
set_option maxRecDepth 100000
set_option maxHeartbeats 8000000 in
theorem recGetsC (H:ItmC4) (p:Option Addr) (n c:Nat) (zs:List Int) (w:World) (w0:IsRow .u8 w p n c zs) (b0:c * 1≤140737488351232) :
 Calls Try.prog 4 #[.slice p n c] w fun e w' => e=.returned (.bool true)∧Below w.heap.size w w':=by
 obtain ⟨hb,hl,hc,hm⟩:=bat_of_row w0;obtain ⟨bs,hbs⟩:∃ bs,bytesOf (zs.take n)=bs:=⟨_,rfl⟩;rw [hbs] at hb hl;have HC:=Lib.hid H;have HBT:=Lib.hid hb;have HL:=Lib.hid hl;have HCM:=Lib.hid (And.intro hc hm);obtain ⟨R,hR⟩:∃ R,beginsI bs=R:=⟨_,rfl⟩;obtain ⟨Y,cnt,ok⟩:=R;have HR:=Lib.hid hR;have hnb:n≤140737488351232:=by omega
 clear w0 hbs hb hl H hR
 go_enter Try.func4,Try.ntmps4
 by_cases h3:3000 < n
 ·have h3z:(3000:Int) < (n:Int):=by omega
  go_wp2_with fail
  refine (ans13_any HC.out w).mono ?_
  rintro e w6 ⟨rfl,hb6⟩;have HB6:=Lib.hid hb6;clear hb6
  go_wp2
  go_ret
  exact ⟨rfl,HB6.out⟩
 ·have h3z:¬ (3000:Int) < (n:Int):=by omega
  have HO0:Hid (OwnB (w.alloc (.cells #[] 5)) w.heap.size (.slice (some ⟨w.heap.size,0,none⟩) 0 0) 0 []):=Lib.hid (World.ownsRow_made w #[] 0 (Nat.le_refl _) (by decide) rfl)
  have HBA:Hid (Below w.heap.size w (w.alloc (.cells #[] 5))):=Lib.hid ((Below.refl _ _).alloc (Nat.le_refl _) _)
  go_wp2_with (at_builtin;refine append_own rfl _ _ rfl w.heap.size (.slice (some ⟨w.heap.size,0,none⟩) 0 0) 0 [] rfl HO0.out p n c bs rfl (HBT.out.below HBA.out) HL.out (by omega) HBA.out.size ?_)
  intro v1 w1 hown hgrow;have HB1:=Lib.hid (own_grown HBA.out HO0.out (Nat.le_refl _) hgrow);obtain ⟨p1,c1,rfl,hle1,hmx1,hbt1,_,_⟩:=OwnB.slice hown;have hg:=HC.out.get w1 p1 n c1 bs hbt1 HL.out hle1 hmx1 hnb;unfold GetIPost itmC at hg;rw [HR.out] at hg
  dsimp only at hg
  have HG:=Lib.hid hg;clear hown hgrow hle1 hmx1 hbt1 hg
  go_wp2_with fail
  refine HG.out.mono ?_
  rintro e w2 ⟨q2,d2,rfl,hd2,hb2⟩;have HB2:=Lib.hid (HB1.out.trans (hb2.mono HB1.out.size));obtain ⟨W3,hW3⟩:∃ W3,w2.alloc (.cells #[.string (str Y.key),.int .i64 Y.seq,.slice q2 Y.data.length d2] 24)=W3:=⟨_,rfl⟩;have h23:Below w2.heap.size w2 W3:=by rw [← hW3];exact (Below.refl _ _).alloc (Nat.le_refl _) _
  have hX3:Blk W3 w2.heap.size 24 #[.string (str Y.key),.int .i64 Y.seq,.slice q2 Y.data.length d2]:=by rw [← hW3];exact Blk.new w2 _ _
  have HB3:=Lib.hid (HB2.out.trans (h23.mono HB2.out.size));have HX3:=Lib.hid hX3;have HD3:=Lib.hid (hd2.below h23);have hg:=rbegins_any p n c bs W3 (HBT.out.below HB3.out) HL.out HCM.out.1 hnb;unfold GetIPost itmC at hg;rw [HR.out] at hg
  dsimp only at hg
  have HG2:=Lib.hid hg;clear hd2 hb2 h23 hX3 hg HG
  go_upto_region 4 with fail
  clear hW3
  go_wp2_with fail
  refine HG2.out.mono ?_
  rintro e w4 ⟨q4,d4,rfl,hd4,hb4⟩;have HB4:=Lib.hid (HB3.out.trans (hb4.mono HB3.out.size));obtain ⟨W5,hW5⟩:∃ W5,w4.alloc (.cells #[.string (str Y.key),.int .i64 Y.seq,.slice q4 Y.data.length d4] 24)=W5:=⟨_,rfl⟩;have h45:Below w4.heap.size w4 W5:=by rw [← hW5];exact (Below.refl _ _).alloc (Nat.le_refl _) _
  have hX5:Blk W5 w4.heap.size 24 #[.string (str Y.key),.int .i64 Y.seq,.slice q4 Y.data.length d4]:=by rw [← hW5];exact Blk.new w4 _ _
  have HB5:=Lib.hid (HB4.out.trans (h45.mono HB4.out.size));have hX3:=(HX3.out.below hb4 HX3.out.lt).below h45 (HX3.out.below hb4 HX3.out.lt).lt;have HXX:=Lib.hid (And.intro hX3 hX5);have HDD:=Lib.hid (And.intro ((HD3.out.below hb4).below h45) (hd4.below h45));clear hd4 hb4 h45 hX5 hX3 HG2
  go_upto_region 5 with fail
  clear hW5
  go_wp2_with fail
  refine (ans13_any HC.out W5).mono ?_
  rintro e w6 ⟨rfl,hb6⟩;have HB6:=Lib.hid (HB5.out.trans (hb6.mono HB5.out.size));have c0:=(HXX.out.1.below hb6 HXX.out.1.lt).cell 0;have c1:=(HXX.out.1.below hb6 HXX.out.1.lt).cell 1;have c2:=(HXX.out.1.below hb6 HXX.out.1.lt).cell 2;have e0:=(HXX.out.2.below hb6 HXX.out.2.lt).cell 0;have e1:=(HXX.out.2.below hb6 HXX.out.2.lt).cell 1;have e2:=(HXX.out.2.below hb6 HXX.out.2.lt).cell 2;simp only [List.getElem?_toArray,List.getElem?_cons_zero,List.getElem?_cons_succ] at c0 c1 c2 e0 e1 e2;have hs:=rsame_any ⟨Y,q2,d2⟩ ⟨Y,q4,d4⟩ w6 (HDD.out.1.below hb6) (HDD.out.2.below hb6)
  dsimp only at hs
  rw [decide_eq_true rfl] at hs;unfold IP.cs itmC at hs
  dsimp only at hs
  have HS:=Lib.hid hs;have g1:(ok == ok)=true:=by simp
  have g2:((cnt:Int) == (cnt:Int))=true:=by simp
  clear hb6 hs
  go_wp2_with fail
  refine HS.out.mono ?_
  rintro e w7 ⟨rfl,hb7⟩;have HB7:=Lib.hid (HB6.out.trans (hb7.mono HB6.out.size));clear hb7 c0 c1 c2 e0 e1 e2
  go_wp2
  go_ret
  exact ⟨rfl,HB7.out⟩
end Go.Proofs.Ytpdpgjilalojjaa.Walk
end
section
namespace Go.Proofs.Ytpdpgjilalojjaa.Walk
open Go.ChangeShapes Go.WideShapes Go.ChangeAt Go.RowKit Base Byt Bk Itm Go.Lib
set_option linter.unusedVariables false
theorem recGets (p:Option Addr) (n c:Nat) (zs:List Int) (w:World) (w0:IsRow .u8 w p n c zs) (b0:c * 1≤140737488351232) :
 Calls Try.prog 4 #[.slice p n c] w fun e w' => e=.returned (.bool true)∧Below w.heap.size w w':=recGetsC itemC4 p n c zs w w0 b0
end Go.Proofs.Ytpdpgjilalojjaa.Walk
end
