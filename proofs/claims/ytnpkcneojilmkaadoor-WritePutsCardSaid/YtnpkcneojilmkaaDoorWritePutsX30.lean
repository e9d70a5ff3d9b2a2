/- Texts of this seat, merged: what the proof reaches. -/
import Derived.Test.YtnpkcneojilmkaaDoorWritePutsX29
import Derived.Deep.RegionHeldLaw
section
namespace Go.Proofs.YtnpkcneojilmkaaDoor.Wr
open Go.ChangeShapes Go.WideShapes Go.ChangeAt Go.RowKit Base Byt Txt Bk Hp Head Rec Attr Mem Block Go.Lib
set_option linter.unusedVariables false
set_option maxRecDepth 100000
def fileA:MemV:=⟨[97],[],48,0,0,0,0,[120]⟩
def dirA:MemV:=⟨[97],[],53,0,0,0,0,[]⟩
theorem fileA_good:goodD fileA=true:=by decide +kernel
theorem dirA_good:goodD dirA=true:=by decide +kernel
theorem zeroA_bad:goodD zeroM=false:=by decide +kernel
theorem mems_one {w:World} {b:Nat} {y:MP} (hb:Blk w b 26 y.cs) (hB:BodyAt w y):MemsAt w (some ⟨b,0,none⟩) 1 [y]:=by
 refine ⟨rfl,fun x hx => by rw [List.mem_singleton] at hx;subst hx;exact hB,fun _ => ⟨b,0,rfl,hb.lt,fun i hi j hj => ?_⟩⟩
 obtain rfl:i=0:=by omega
 rw [show 0+8 * 0+j=j by omega]
 exact hb.cell j
theorem archA:(archD [fileA]).length=2048∧(archD [fileA]).getD 0 0=97∧(archD [fileA]).getD 512 0=120:=by decide +kernel
theorem sizeA:sizeM [dirA]=512:=by
 have h:=putM_plain (good_facts dirA_good) (by decide +kernel)
 have e:blocksOf dirA.body.length=0:=by decide
 simp only [sizeM,List.map_cons,List.map_nil,dirA_good,if_true,List.sum_cons,List.sum_nil,h,e];rfl
theorem body_empty (w:World) (m:MemV) (h:m.body=[]):BodyAt w ⟨m,none,0⟩:=by
 refine ⟨?_,?_,?_⟩
 ·show BAt w none m.body.length m.body
  rw [h];exact fun h0 => absurd h0 (by decide)
 ·show m.body.length≤0
  rw [h];exact Nat.le_refl _
 ·show (0:Nat)≤_
  decide
set_option maxHeartbeats 4000000 in
theorem ans09_any (w:World) (hN:Need w):Calls Tryd.prog 7 #[] w fun e w' => e=.returned (.bool true)∧Below w.heap.size w w':=by
 have kc:(convert 24 24 (.slice (some ⟨w.heap.size,0,none⟩) 1 1)).run Tryd.prog (w.alloc (.cells #[.int .u8 120] 5))=.ok (.slice (some ⟨w.heap.size,0,none⟩) 1 1) (w.alloc (.cells #[.int .u8 120] 5 (1,2))):=
  Lib.run_convert_bytes_const (P:=Tryd.prog) w 24 5 #[.int .u8 120] 1 1 Tryd.underlying24 Tryd.underlying5
 obtain ⟨W1,hW1⟩:∃ W1,(w.alloc (.cells #[.int .u8 120] 5 (1,2))).alloc (.cells #[.string ⟨#[97]⟩,.string ⟨#[]⟩,.int .u8 48,.int .i64 0,.int .i64 0,.int .i64 0,.int .i64 0,.slice (some ⟨w.heap.size,0,none⟩) 1 1] 26)=W1:=⟨_,rfl⟩;have hB1:Below w.heap.size w W1:=by rw [← hW1];exact ((Below.refl _ w).alloc (Nat.le_refl _) _).alloc (by simp) _
 have hb1:Blk W1 (w.heap.size+1) 26 (MP.cs ⟨fileA,some ⟨w.heap.size,0,none⟩,1⟩):=by
  have:=Blk.new (w.alloc (.cells #[.int .u8 120] 5 (1,2))) 26 (MP.cs ⟨fileA,some ⟨w.heap.size,0,none⟩,1⟩);rw [World.size_alloc] at this;rw [← hW1];exact this
 have ht1:BAt W1 (some ⟨w.heap.size,0,none⟩) 1 [120]:=fun _ => ⟨w.heap.size,0,rfl,fun i hi => by
  obtain rfl:i=0:=by omega
  rw [← hW1]
  have:(w.alloc (.cells #[.int .u8 120] 5 (1,2))).cell? ⟨w.heap.size,0,none⟩=some (.int .u8 120):=by
   unfold World.cell?;rw [heap_alloc_new];rfl
  exact (((Below.refl (w.heap.size+1) (w.alloc (.cells #[.int .u8 120] 5 (1,2)))).alloc (by simp) _).cell (p:=⟨w.heap.size,0,none⟩) (by show w.heap.size < w.heap.size+1;omega)).trans this⟩
 have hm1:MemsAt W1 (some ⟨w.heap.size+1,0,none⟩) 1 [⟨fileA,some ⟨w.heap.size,0,none⟩,1⟩]:=mems_one hb1 ⟨ht1,by show (1:Nat)≤1;decide,by show (1:Nat)≤maxLen;decide⟩
 have hA:=warch_yes (some ⟨w.heap.size+1,0,none⟩) 1 1 [⟨fileA,some ⟨w.heap.size,0,none⟩,1⟩] W1 hm1 (by decide) (fun x hx => by rw [List.mem_singleton.1 hx];exact fileA_good) (hN.below hB1)
 have HW1:=Lib.hid hW1;have HB1:=Lib.hid hB1;have HA:=Lib.hid hA;have HN:=Lib.hid hN;clear hW1 hB1 hb1 ht1 hm1 hA hN
 go_enter Tryd.func7,Tryd.ntmps7
 go_wp2_with fail
 rw [HW1.out];refine HA.out.mono ?_
 rintro e w2 ⟨v2,rfl,ho2,hb2⟩;obtain ⟨p2,c2,rfl,_,_,hbt2,_,_⟩:=ho2.slice;rw [show ([⟨fileA,some ⟨w.heap.size,0,none⟩,1⟩]:List MP).map MP.m=[fileA] from rfl,archA.1] at hbt2 ⊢
 have HB2:=Lib.hid (HB1.out.trans (hb2.mono HB1.out.size));obtain ⟨b,o,rfl,hbw,hcell⟩:=hbt2.cell (show 0 < 2048 by decide)
 have k0:=hcell 0 (by decide)
 have k1:=hcell 512 (by decide)
 rw [archA.2.1,Nat.add_zero] at k0;rw [archA.2.2] at k1;have HK:=Lib.hid (And.intro hbw (And.intro k0 k1));obtain ⟨W3,hW3⟩:∃ W3,w2.alloc (.cells #[.string ⟨#[]⟩,.string ⟨#[]⟩,.int .u8 0,.int .i64 0,.int .i64 0,.int .i64 0,.int .i64 0,.slice none 0 0] 26)=W3:=⟨_,rfl⟩;have h23:Below w2.heap.size w2 W3:=by rw [← hW3];exact (Below.refl _ _).alloc (Nat.le_refl _) _
 have hm3:MemsAt W3 (some ⟨w2.heap.size,0,none⟩) 1 [⟨zeroM,none,0⟩]:=mems_one (by rw [← hW3];exact Blk.new w2 _ _) (body_empty W3 zeroM rfl)
 have HB3:=Lib.hid (HB2.out.trans (h23.mono HB2.out.size));have HA3:=Lib.hid (warch_bad (some ⟨w2.heap.size,0,none⟩) 1 1 [⟨zeroM,none,0⟩] W3 hm3 (by decide) (fun x hx => by rw [List.mem_singleton.1 hx];decide) (by show (goodD zeroM && true)=false;rw [zeroA_bad];rfl) (HN.out.below HB3.out))
 have HW3:=Lib.hid hW3;have H23:=Lib.hid h23;clear hb2 ho2 hbt2 hbw hcell k0 k1 hW3 h23 hm3
 go_wp2_with fail
 rw [HW3.out];refine HA3.out.mono ?_
 rintro e w4 ⟨rfl,hb4⟩;have HB4:=Lib.hid (HB3.out.trans (hb4.mono HB3.out.size));have h24:Below w2.heap.size w2 w4:=H23.out.trans (hb4.mono H23.out.size);have k0:w4.cell? ⟨b,o,none⟩=some (.int .u8 97):=(h24.cell (p:=⟨b,o,none⟩) HK.out.1).trans HK.out.2.1;have k1:w4.cell? ⟨b,o+512,none⟩=some (.int .u8 120):=(h24.cell (p:=⟨b,o+512,none⟩) HK.out.1).trans HK.out.2.2;obtain ⟨W5,hW5⟩:∃ W5,w4.alloc (.cells #[.string ⟨#[97]⟩,.string ⟨#[]⟩,.int .u8 53,.int .i64 0,.int .i64 0,.int .i64 0,.int .i64 0,.slice none 0 0] 26)=W5:=⟨_,rfl⟩;have h45:Below w4.heap.size w4 W5:=by rw [← hW5];exact (Below.refl _ _).alloc (Nat.le_refl _) _
 have hm5:MemsAt W5 (some ⟨w4.heap.size,0,none⟩) 1 [⟨dirA,none,0⟩]:=mems_one (by rw [← hW5];exact Blk.new w4 _ _) (body_empty W5 dirA rfl)
 have HB5:=Lib.hid (HB4.out.trans (h45.mono HB4.out.size));have hZ:=wsize_any (some ⟨w4.heap.size,0,none⟩) 1 1 [⟨dirA,none,0⟩] W5 hm5 (by decide) (fun x hx => by rw [List.mem_singleton.1 hx];decide) (HN.out.below HB5.out)
 rw [show ([⟨dirA,none,0⟩]:List MP).map MP.m=[dirA] from rfl,sizeA] at hZ
 have HZ:=Lib.hid hZ;have HW5:=Lib.hid hW5;clear hb4 h24 hW5 h45 hm5 hZ
 go_wp2_with fail
 rw [HW5.out];refine HZ.out.mono ?_
 rintro e w6 ⟨rfl,hb6⟩;have FIN:=Lib.hid (HB5.out.trans (hb6.mono HB5.out.size));clear hb6 k0 k1
 go_wp2
 go_ret
 exact ⟨rfl,FIN.out⟩
end Go.Proofs.YtnpkcneojilmkaaDoor.Wr
end
section
namespace Go.Proofs.YtnpkcneojilmkaaDoor.Wr
open Go.ChangeShapes Go.WideShapes Go.ChangeAt Go.RowKit Base Byt Txt Bk Hp Head Rec Attr Mem Block Go.Lib
set_option linter.unusedVariables false
set_option maxRecDepth 100000
def Box8 (w:World) (b:Nat) (y:MP):Prop:=
 w.cell? ⟨b,0,none⟩=some (.string (str y.m.path))∧w.cell? ⟨b,1,none⟩=some (.string (str y.m.target))∧w.cell? ⟨b,2,none⟩=some (.int .u8 (y.m.kind.toNat:Int))∧w.cell? ⟨b,3,none⟩=some (.int .i64 y.m.mode) ∧
  w.cell? ⟨b,4,none⟩=some (.int .i64 y.m.uid)∧w.cell? ⟨b,5,none⟩=some (.int .i64 y.m.gid)∧w.cell? ⟨b,6,none⟩=some (.int .i64 y.m.time)∧w.cell? ⟨b,7,none⟩=some (.slice y.p y.m.body.length y.c)
theorem box8_of {w:World} {b:Nat} {y:MP} (h:Blk w b 26 y.cs):Box8 w b y:=⟨h.cell 0,h.cell 1,h.cell 2,h.cell 3,h.cell 4,h.cell 5,h.cell 6,h.cell 7⟩
theorem one_at (x:MP) (W:World) (hB:BodyAt W x):MemsAt (W.alloc (.cells x.cs 26)) (some ⟨W.heap.size,0,none⟩) 1 [x]:=
 mems_one (Blk.new W _ _) (hB.below ((Below.refl _ _).alloc (Nat.le_refl _) _))
theorem light1_any (x:MP) (W:World) (hB:BodyAt W x) (hR:RoomM x) :
 Calls Tryd.prog 6 #[.slice (some ⟨W.heap.size,0,none⟩) 1 1] (W.alloc (.cells x.cs 26)) fun e w' => e=.returned (.bool (lightD [x.m]))∧Below W.heap.size W w':=
 (light_any _ 1 1 [x] _ (one_at x W hB) (fun y hy => by rw [List.mem_singleton.1 hy];exact hR)).mono fun _ _ ⟨h1,h2⟩ => ⟨h1,h2 ▸ (Below.refl _ _).alloc (Nat.le_refl _) _⟩
theorem wsize1_any (x:MP) (W:World) (hB:BodyAt W x) (hF:x.m.path.length≤1000000000000∧x.m.target.length≤1000000000000) (hN:Need W) :
 Calls Tryd.prog 10 #[.slice (some ⟨W.heap.size,0,none⟩) 1 1] (W.alloc (.cells x.cs 26)) fun e w' => e=.returned (.int .i64 (sizeM [x.m]:Nat))∧Below W.heap.size W w':=by
 have hb:Below W.heap.size W (W.alloc (.cells x.cs 26)):=(Below.refl _ _).alloc (Nat.le_refl _) _;exact (wsize_any _ 1 1 [x] _ (one_at x W hB) (by decide) (fun y hy => by rw [List.mem_singleton.1 hy];exact hF) (hN.below hb)).mono fun _ _ ⟨h1,h2⟩ => ⟨h1,hb.trans (h2.mono hb.size)⟩
end Go.Proofs.YtnpkcneojilmkaaDoor.Wr
end
section
namespace Go.Proofs.YtnpkcneojilmkaaDoor.Walk
open Go.ChangeShapes Go.WideShapes Go.ChangeAt Go.RowKit Base Byt Txt Bk Rec Mem Wr Block Go.Lib
set_option linter.unusedVariables false
set_option maxRecDepth 100000
set_option maxHeartbeats 4000000 in
theorem writePuts (x:MP) (w:World) (ba:BodyAt w x) (wm:WfM x.m) (rm:RoomM x) (hT:Need w) :
 Calls Tryd.prog 3 #[.agg x.cs] w fun e w' => e=.returned (.bool true)∧Below w.heap.size w w':=by
 obtain ⟨W0,hW0⟩:∃ W0,w.alloc (.cells x.cs 26)=W0:=⟨_,rfl⟩;have hB0:Below w.heap.size w W0:=by rw [← hW0];exact (Below.refl _ _).alloc (Nat.le_refl _) _
 have hM0:Blk W0 w.heap.size 26 x.cs:=by rw [← hW0];exact Blk.new w _ _
 have hL:=light1_any x W0 (ba.below hB0) rm;obtain ⟨lt,hlt⟩:∃ lt,lightD [x.m]=lt:=⟨_,rfl⟩;rw [hlt] at hL;obtain ⟨y0,y1,y2,y3,y4,y5,y6,y7⟩:=box8_of hM0;have HW0:=Lib.hid hW0;have HB0:=Lib.hid hB0;have HM0:=Lib.hid hM0;have HL:=Lib.hid hL;have HBA:=Lib.hid ba;have HRM:=Lib.hid rm;have HN:=Lib.hid hT;have HLT:=Lib.hid hlt;unfold MP.cs memC at HW0 HL ⊢;clear hW0 hB0 hM0 hL ba wm rm hT hlt
 go_enter Tryd.func3,Tryd.ntmps3
 go_upto_region 1 with fail
 rw [HW0.out]
 go_wp2_with fail
 refine HL.out.mono ?_
 rintro e w1 ⟨rfl,hb1⟩;have HB1:=Lib.hid (HB0.out.trans (hb1.mono HB0.out.size));have HM1:=Lib.hid (HM0.out.below hb1 HM0.out.lt);clear hb1 y0 y1 y2 y3 y4 y5 y6 y7
 cases lt with
 | false =>
   go_wp2_with fail
   refine (ans09_any _ (HN.out.below HB1.out)).mono ?_
   rintro e w2 ⟨rfl,hb2⟩;have FIN:=Lib.hid (HB1.out.trans (hb2.mono HB1.out.size));clear hb2
   go_wp2
   go_ret
   exact ⟨rfl,FIN.out⟩
 | true =>
   obtain ⟨_,hlf⟩:=lightD_facts HLT.out;obtain ⟨hp1,hp2,hp3⟩:=hlf x.m (List.mem_singleton.2 rfl);have HF:Hid (x.m.path.length≤1000000000000∧x.m.target.length≤1000000000000):=Lib.hid ⟨by omega,by omega⟩
   clear hlf hp1 hp2 hp3;obtain ⟨y0,y1,y2,y3,y4,y5,y6,y7⟩:=box8_of HM1.out
   cases hg:goodD x.m with
   | false =>
     have hP:=wput_no x.m x.p x.c w1 HF.out.1 HF.out.2 hg (HN.out.below HB1.out);have hZ:sizeM [x.m]=0:=by simp [sizeM,hg]
     unfold memC at hP;have HP:=Lib.hid hP;have HZ:=Lib.hid hZ;have HG:=Lib.hid hg;clear hP hZ hg
     go_wp2_with fail
     refine HP.out.mono ?_
     rintro e w2 ⟨rfl,hb2⟩;have HB2:=Lib.hid (HB1.out.trans (hb2.mono HB1.out.size));have HM2:=Lib.hid (HM1.out.below hb2 HM1.out.lt);clear hb2 y0 y1 y2 y3 y4 y5 y6 y7;obtain ⟨y0,y1,y2,y3,y4,y5,y6,y7⟩:=box8_of HM2.out;have hR:=rgood_any x.m x.p x.c w2 (by have:=HF.out.1;omega) (by have:=HF.out.2;omega)
     rw [HG.out] at hR;unfold memC at hR;have HR:=Lib.hid hR;clear hR
     go_wp2_with fail
     refine HR.out.mono ?_
     rintro e w3 ⟨rfl,hb3⟩;have HB3:=Lib.hid (HB2.out.trans (hb3.mono HB2.out.size));have HM3:=Lib.hid (HM2.out.below hb3 HM2.out.lt);clear hb3 y0 y1 y2 y3 y4 y5 y6 y7
     go_wp2_with fail
     refine (ans09_any _ (HN.out.below HB3.out)).mono ?_
     rintro e w4 ⟨rfl,hb4⟩;have HB4:=Lib.hid (HB3.out.trans (hb4.mono HB3.out.size));have HM4:=Lib.hid (HM3.out.below hb4 HM3.out.lt);clear hb4;obtain ⟨y0,y1,y2,y3,y4,y5,y6,y7⟩:=box8_of HM4.out;have hS:=wsize1_any x w4 (HBA.out.below HB4.out) HF.out (HN.out.below HB4.out);rw [HZ.out] at hS;unfold MP.cs memC at hS;have HS:=Lib.hid hS;clear hS
     go_wp2_with fail
     refine HS.out.mono ?_
     rintro e w5 ⟨rfl,hb5⟩;have FIN:=Lib.hid (HB4.out.trans (hb5.mono HB4.out.size));clear hb5 y0 y1 y2 y3 y4 y5 y6 y7
     go_wp2
     go_ret
     exact ⟨rfl,FIN.out⟩
   | true =>
     have hP:=wput_yes x.m x.p x.c w1 hg (HBA.out.bat.below HB1.out) (HN.out.below HB1.out);have hgm:=good_facts hg;have hmod:=(putM_mod hgm).1;have hle:=putM_le hgm;obtain ⟨k,hk⟩:∃ k,(putM x.m).length=k:=⟨_,rfl⟩;have hZ:sizeM [x.m]=k:=by simp [sizeM,hg,hk]
     rw [hk] at hmod hle;unfold memC at hP;have HP:=Lib.hid hP;have HZ:=Lib.hid hZ;have HG:=Lib.hid hg;have HGM:=Lib.hid hgm;have HK:=Lib.hid hk;clear hP hZ hg hgm hk
     go_wp2_with fail
     refine HP.out.mono ?_
     rintro e w2 ⟨v2,rfl,ho2,hb2⟩;obtain ⟨p2,c2,rfl,hc1,hc2,hbt2,hl2,_⟩:=ho2.slice;rw [HK.out] at hbt2 hl2 hc1 ⊢;have HB2:=Lib.hid (HB1.out.trans (hb2.mono HB1.out.size));have HM2:=Lib.hid (HM1.out.below hb2 HM1.out.lt);have HT2:=Lib.hid (And.intro hbt2 trivial);clear hb2 ho2 hbt2 hl2 y0 y1 y2 y3 y4 y5 y6 y7;obtain ⟨y0,y1,y2,y3,y4,y5,y6,y7⟩:=box8_of HM2.out;have hR:=rgood_any x.m x.p x.c w2 (by have:=HF.out.1;omega) (by have:=HF.out.2;omega)
     rw [HG.out] at hR;unfold memC at hR;have HR:=Lib.hid hR;clear hR
     go_wp2_with fail
     refine HR.out.mono ?_
     rintro e w3 ⟨rfl,hb3⟩;have HB3:=Lib.hid (HB2.out.trans (hb3.mono HB2.out.size));have HM3:=Lib.hid (HM2.out.below hb3 HM2.out.lt);have hT3:=HT2.out.1.below hb3;obtain ⟨ds,hds⟩:∃ ds,str (putM x.m)=ds:=⟨_,rfl⟩;have HDS:=Lib.hid hds
     have hall:∀ w',Below w3.heap.size w3 w' → Box8 w' w.heap.size x∧Sem.run Tryd.prog (convert 24 9 (.slice p2 k c2)) w'=.ok (.string ds) w':=fun w' h => by
      refine ⟨box8_of (HM3.out.below h HM3.out.lt),?_⟩;have:=conv_at (hT3.below h) HK.out 24 5 9 Tryd.underlying24 Tryd.underlying5 Tryd.underlying9 c2;rw [← hds];exact this
     unfold Box8 at hall;have HALL:=Lib.hid hall;have HBB:Hid (Below w3.heap.size w3 w3.drew):=Lib.hid (((Kept.refl noneB w3).drew).below (Nat.le_refl _) (fun _ h => h.elim))
     clear hb3 hT3 hds hall y0 y1 y2 y3 y4 y5 y6 y7;have hm0:(k:Int) % 512=0:=by omega
     have htm:(k:Int).tmod 512=0:=by rw [Int.tmod_eq_emod_of_nonneg (by omega)];exact hm0
     have HBA3:=Lib.hid (HBA.out.below HB3.out);have HN3:=Lib.hid (HN.out.below HB3.out)
     go_wp2_with fail
     go_region_held_law (fun w' => (w'.cell? ⟨w.heap.size,0,none⟩=some (.string (str x.m.path))∧w'.cell? ⟨w.heap.size,1,none⟩=some (.string (str x.m.target))∧w'.cell? ⟨w.heap.size,2,none⟩=some (.int .u8 (x.m.kind.toNat:Int))∧w'.cell? ⟨w.heap.size,3,none⟩=some (.int .i64 x.m.mode)∧w'.cell? ⟨w.heap.size,4,none⟩=some (.int .i64 x.m.uid)∧w'.cell? ⟨w.heap.size,5,none⟩=some (.int .i64 x.m.gid)∧w'.cell? ⟨w.heap.size,6,none⟩=some (.int .i64 x.m.time)∧w'.cell? ⟨w.heap.size,7,none⟩=some (.slice x.p x.m.body.length x.c)) ∧
      Sem.run Tryd.prog (convert 24 9 (.slice p2 k c2)) w'=.ok (.string ds) w') (first | exact HALL.out _ HBB.out | exact HALL.out _ (HBB.out.alloc HBB.out.size _)) (first
      | (go_at_call 7
         refine (ans09_any _ (HN3.out.below HBB.out)).mono ?_
         rintro e wa ⟨rfl,hba⟩;have HBB:=Lib.hid (HBB.out.trans (hba.mono HBB.out.size))
         clear hba)
      | (go_at_call 11
         refine (rput_any x.m x.p x.c _ HGM.out (HBA3.out.below HBB.out).bat).mono ?_
         rintro e wp ⟨vp,rfl,hop,hkp⟩;rw [HK.out] at hop;obtain ⟨pp,cp,rfl,_,_,hbp,hlp,_⟩:=hop.slice
         have cs1:Sem.run Tryd.prog (convert 24 9 (.slice pp k cp)) wp=.ok (.string ds) wp:=by
          rw [← HDS.out];exact conv_at hbp hlp 24 5 9 Tryd.underlying24 Tryd.underlying5 Tryd.underlying9 cp
         have HBB:=Lib.hid (HBB.out.trans ((hkp.below (Nat.le_refl _) (fun _ h => h.elim)).mono HBB.out.size))
         clear hop hkp hbp hlp)
      | (go_at_call 10
         refine (wsize1_any x _ (HBA3.out.below HBB.out) HF.out (HN3.out.below HBB.out)).mono ?_
         rw [HZ.out];rintro e ws ⟨rfl,hbs⟩;have HBB:=Lib.hid (HBB.out.trans (hbs.mono HBB.out.size))
         clear hbs))
     all_goals
      have FIN:=Lib.hid (HB3.out.trans (HBB.out.mono HB3.out.size))
      go_wp2
      go_ret
      exact ⟨rfl,FIN.out⟩
end Go.Proofs.YtnpkcneojilmkaaDoor.Walk
end
