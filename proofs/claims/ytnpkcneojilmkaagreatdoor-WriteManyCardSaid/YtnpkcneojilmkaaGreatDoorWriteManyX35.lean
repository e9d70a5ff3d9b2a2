/- Texts of this seat, merged: what the proof reaches. -/
import Derived.Test.YtnpkcneojilmkaaGreatDoorWriteManyX34
import Derived.Test.YtnpkcneojilmkaaGreatDoorWriteManyX32
import Derived.Deep.RegionHeld3
import Derived.Deep.RegionHeldLaw
section
namespace Go.Proofs.YtnpkcneojilmkaaGreatDoor.Mem
open Go.ChangeShapes Go.WideShapes Go.ChangeAt Go.RowKit Base Byt Txt Bk Hp Head Num Path Block Rec Go.Lib
set_option linter.unusedVariables false
set_option maxRecDepth 100000
def Cells8 (w:World) (b o:Nat) (y:MP):Prop:=
 w.cell? ⟨b,o,none⟩=some (.string (str y.m.path))∧w.cell? ⟨b,o+1,none⟩=some (.string (str y.m.target))∧w.cell? ⟨b,o+2,none⟩=some (.int .u8 (y.m.kind.toNat:Int))∧w.cell? ⟨b,o+3,none⟩=some (.int .i64 y.m.mode) ∧
 w.cell? ⟨b,o+4,none⟩=some (.int .i64 y.m.uid)∧w.cell? ⟨b,o+5,none⟩=some (.int .i64 y.m.gid)∧w.cell? ⟨b,o+6,none⟩=some (.int .i64 y.m.time)∧w.cell? ⟨b,o+7,none⟩=some (.slice y.p y.m.body.length y.c)
theorem Cells8.below {w w':World} {b o:Nat} {y:MP} (h:Cells8 w b o y) (hb:b < w.heap.size) (hw:Below w.heap.size w w'):Cells8 w' b o y:=by
 unfold Cells8 at h ⊢;simp only [hw.cell (p:=⟨b,_,none⟩) hb];exact h
theorem MemsAt.cells8 {w:World} {p:Option Addr} {n:Nat} {xs:List MP} (h:MemsAt w p n xs) {i:Nat} (hi:i < n):∃ b o,p=some ⟨b,o,none⟩∧b < w.heap.size∧BodyAt w (xs.getD i zeroP)∧Cells8 w b (o+i * 8) (xs.getD i zeroP):=by
 obtain ⟨b,o,hp,hb,hB,c0,c1,c2,c3,c4,c5,c6,c7⟩:=h.cells hi;rw [Nat.mul_comm] at c0 c1 c2 c3 c4 c5 c6 c7;exact ⟨b,o,hp,hb,hB,c0,c1,c2,c3,c4,c5,c6,c7⟩
end Go.Proofs.YtnpkcneojilmkaaGreatDoor.Mem
end
section
namespace Go.Proofs.YtnpkcneojilmkaaGreatDoor.Wr
open Go.ChangeShapes Go.WideShapes Go.ChangeAt Go.RowKit Base Byt Txt Mem Go.Lib
theorem archD_le {ms:List MemV} (h:∀ m ∈ ms,GoodM m) (hl:ms.length≤4096):(archD ms).length≤12288001024:=by
 have:=putAllM_len ms h;rw [archD_eq,List.length_append,List.length_replicate];omega
theorem read_back {ms:List MemV} (h:∀ m ∈ ms,GoodM m) (hl:ms.length≤4096):membersD (archD ms)=(ms,0,0):=by
 have:=read_arch h hl 0
 rwa [List.replicate_zero,List.append_nil] at this
theorem iat_none (w:World):IAt w none 0 []:=fun h => absurd h (by decide)
end Go.Proofs.YtnpkcneojilmkaaGreatDoor.Wr
namespace Go.Proofs.YtnpkcneojilmkaaGreatDoor.Walk
open Go.ChangeShapes Go.WideShapes Go.ChangeAt Go.RowKit Base Byt Txt Bk Rec Mem Wr Block Go.Lib
set_option linter.unusedVariables false
set_option maxRecDepth 100000
end Go.Proofs.YtnpkcneojilmkaaGreatDoor.Walk
end
section
namespace Go.Proofs.YtnpkcneojilmkaaGreatDoor.Wr
open Go.ChangeShapes Go.WideShapes Go.ChangeAt Go.RowKit Base Byt Txt Bk Mem Go.Lib
theorem wf16 {a:Int} (h:(Lit.int .u16 a).wf=true):0≤a∧a≤65535:=by
 have e1:IntKind.u16.min=0:=rfl;have e2:IntKind.u16.max=65535:=rfl;simp only [Lit.wf,Bool.and_eq_true,decide_eq_true_eq] at h;omega
theorem rep_mem {x:MP} {k:Nat}:∀ z ∈ List.replicate k x,z=x:=fun _ hy => (List.mem_replicate.1 hy).2
end Go.Proofs.YtnpkcneojilmkaaGreatDoor.Wr
namespace Go.Proofs.YtnpkcneojilmkaaGreatDoor.Walk
open Go.ChangeShapes Go.WideShapes Go.ChangeAt Go.RowKit Base Byt Txt Bk Rec Mem Wr Block Go.Lib
set_option linter.unusedVariables false
set_option maxRecDepth 100000
set_option maxHeartbeats 4000000 in
theorem writeMany (a0:Int) (x:MP) (w:World) (w0:(Lit.int .u16 a0).wf=true) (ba:BodyAt w x) (wm:WfM x.m) (rm:RoomM x) (hT:Need w) :
 Calls Tryz.prog 6 #[.int .u16 a0,.agg x.cs] w fun e w' => e=.returned (.bool true)∧Below w.heap.size w w':=by
 obtain ⟨h0,h1⟩:=wf16 w0;obtain ⟨n,rfl⟩:∃ n:Nat,a0=(n:Int):=⟨a0.toNat,by omega⟩
 obtain ⟨W0,hW0⟩:∃ W0,w.alloc (.cells x.cs 26)=W0:=⟨_,rfl⟩;have hB0:Below w.heap.size w W0:=by rw [← hW0];exact (Below.refl _ _).alloc (Nat.le_refl _) _
 have hM0:Blk W0 w.heap.size 26 x.cs:=by rw [← hW0];exact Blk.new w _ _
 have hR:=rgood_any x.m x.p x.c W0 (by have:=rm.1;omega) (by have:=rm.2.1;omega)
 obtain ⟨gd,hgd⟩:∃ gd,goodD x.m=gd:=⟨_,rfl⟩;rw [hgd] at hR;obtain ⟨y0,y1,y2,y3,y4,y5,y6,y7⟩:=box8_of hM0;have HAN:Hid (∀ w1,Below w.heap.size w w1 → Calls Tryz.prog 18 #[] w1 fun e w' => e=.returned (.bool true)∧Below w1.heap.size w1 w'):=Lib.hid (fun w1 h => ans09_any w1 (hT.below h))
 have HW0:=Lib.hid hW0;have HB0:=Lib.hid hB0;have HM0:=Lib.hid hM0;have HR:=Lib.hid hR;have HBA:=Lib.hid ba;have HN:=Lib.hid hT;have HGD:=Lib.hid hgd;unfold MP.cs at HW0 ⊢;unfold memC at HW0 HR ⊢;clear hW0 hB0 hM0 hR ba wm rm hT hgd w0
 go_enter Tryz.func6,Tryz.ntmps6
 go_upto_region 1 with fail
 rw [HW0.out]
 go_wp2_with fail
 refine HR.out.mono ?_
 rintro e w2 ⟨rfl,hb2⟩;have HB2:=Lib.hid (HB0.out.trans (hb2.mono HB0.out.size));have HM2:=Lib.hid (HM0.out.below hb2 HM0.out.lt);clear hb2 y0 y1 y2 y3 y4 y5 y6 y7;have hs0:(str x.m.path).size=x.m.path.length:=str_size _;have hs1:(str x.m.target).size=x.m.target.length:=str_size _;obtain ⟨pl,hpl⟩:∃ pl,x.m.path.length=pl:=⟨_,rfl⟩;obtain ⟨tl,htl⟩:∃ tl,x.m.target.length=tl:=⟨_,rfl⟩;obtain ⟨bl,hbl⟩:∃ bl,x.m.body.length=bl:=⟨_,rfl⟩;obtain ⟨y0,y1,y2,y3,y4,y5,y6,y7⟩:=box8_of HM2.out;rw [hpl] at hs0;rw [htl] at hs1;rw [hbl] at y7;have HLS:=Lib.hid (And.intro hpl (And.intro htl hbl))
 clear hpl htl hbl
 cases gd with
 | false =>
   go_wp2_with fail
   refine (HAN.out _ HB2.out).mono ?_
   rintro e w3 ⟨rfl,hb3⟩;have FIN:=Lib.hid (HB2.out.trans (hb3.mono HB2.out.size));clear hb3
   go_wp2
   go_ret
   exact ⟨rfl,FIN.out⟩
 | true =>
   by_cases hb:0 < bl
   ·have hbi:(0:Int) < (bl:Int):=by omega
    go_wp2_with fail
    refine (HAN.out _ HB2.out).mono ?_
    rintro e w3 ⟨rfl,hb3⟩;have FIN:=Lib.hid (HB2.out.trans (hb3.mono HB2.out.size));clear hb3
    go_wp2
    go_ret
    exact ⟨rfl,FIN.out⟩
   ·have hbi:¬ (0:Int) < (bl:Int):=by omega
    by_cases hp:50 < pl
    ·have hpi:(50:Int) < (pl:Int):=by omega
     go_wp2_with fail
     refine (HAN.out _ HB2.out).mono ?_
     rintro e w3 ⟨rfl,hb3⟩;have FIN:=Lib.hid (HB2.out.trans (hb3.mono HB2.out.size));clear hb3
     go_wp2
     go_ret
     exact ⟨rfl,FIN.out⟩
    ·have hpi:¬ (50:Int) < (pl:Int):=by omega
     by_cases ht:50 < tl
     ·have hti:(50:Int) < (tl:Int):=by omega
      go_wp2_with fail
      refine (HAN.out _ HB2.out).mono ?_
      rintro e w3 ⟨rfl,hb3⟩;have FIN:=Lib.hid (HB2.out.trans (hb3.mono HB2.out.size));clear hb3
      go_wp2
      go_ret
      exact ⟨rfl,FIN.out⟩
     ·have hti:¬ (50:Int) < (tl:Int):=by omega
      by_cases h16:n % 16=3
      ·have hqi:((n:Int) % 16 != 3)=false:=by
        rw [show (n:Int) % 16=3 by omega];rfl
       obtain ⟨K,hK⟩:∃ K,4095+n / 16 % 3=K:=⟨_,rfl⟩;have hKI:(4095:Int)+(n:Int) / 16 % 3=(K:Int):=by rw [← hK];omega
       have hKb:4095≤K∧K≤4097:=by omega
       have HKI:=Lib.hid hKI;have HKB:=Lib.hid hKb;clear hK hKI hKb
       go_upto_region 4 with fail
       go_cut [6] (fun s wx => s=.int .i64 (K:Int)∧wx=w2)
       case first =>
        go_wp2
        go_meet
        exact ⟨by rw [← HKI.out],rfl⟩
       case rest =>
        obtain ⟨rfl,hwc⟩:=hcut;subst hwc;have hall:∀ w',Below wc.heap.size wc w' → Box8 w' w.heap.size x:=fun w' h => box8_of (HM2.out.below h HM2.out.lt)
        unfold Box8 at hall;rw [HLS.out.2.2] at hall;have HALL:=Lib.hid hall;have HBAC:=Lib.hid (HBA.out.below HB2.out);clear hall y0 y1 y2 y3 y4 y5 y6 y7 hb hp ht hbi hpi hti hqi h16 hs0 hs1 h0 h1
        go_wp2_with fail
        go_loopw [5,7] (fun s i wr => ∃ (j:Nat),j≤K∧i=.int .i64 (j:Int)∧Hid (wr.ownsRow wc.heap.size 26 8 s (List.replicate j x).length (flatM (List.replicate j x)))∧Hid (Below wc.heap.size wc wr)) (fun _ i _ => K - (RowKit.intOf i).toNat)
        case atStart => exact ⟨0,Nat.zero_le _,rfl,Lib.hid (World.ownsRow_nil _ _ _ _),Lib.hid (Below.refl _ _)⟩
        case round =>
         obtain ⟨j,hj,rfl,hO,hB⟩:=hrel
         by_cases hlt:j < K
         ·have hltz:(j:Int) < (K:Int):=by omega
          have hjb:(j:Int) < 4097:=by have:=HKB.out.2;omega
          obtain ⟨y0,y1,y2,y3,y4,y5,y6,y7⟩:=HALL.out _ hB.out;have hb1:Below wr.heap.size wr (wr.alloc (.cells #[.string (str x.m.path),.string (str x.m.target),.int .u8 (x.m.kind.toNat:Int),.int .i64 x.m.mode,.int .i64 x.m.uid,.int .i64 x.m.gid,.int .i64 x.m.time,.slice x.p bl x.c] 26)):=(Below.refl _ _).alloc (Nat.le_refl _) _
          have hbk:Blk (wr.alloc (.cells #[.string (str x.m.path),.string (str x.m.target),.int .u8 (x.m.kind.toNat:Int),.int .i64 x.m.mode,.int .i64 x.m.uid,.int .i64 x.m.gid,.int .i64 x.m.time,.slice x.p bl x.c] 26)) wr.heap.size 26 x.cs:=by
           have:=Blk.new wr 26 x.cs;unfold MP.cs memC at this ⊢;rw [HLS.out.2.2] at this ⊢;exact this
          have HO1:=Lib.hid (row_below hO.out hb1);have HB1:=Lib.hid (hB.out.trans (hb1.mono hB.out.size));have HBK:=Lib.hid hbk;clear hb1 hbk
          go_wp2_with (at_builtin;refine append_member rfl _ _ rfl wc.heap.size _ (List.replicate j x) rfl HO1.out wr.heap.size 1 x rfl HBK.out (by rw [List.length_replicate];have:=HKB.out.2;omega) HB1.out.size ?_)
          intro v3 w3 hown hgrow _;have HB3:Hid (Below wc.heap.size wc w3):=Lib.hid (HB1.out.trans (((Kept.refl _ _).grown hgrow (fun k hk => .inr hk)).below HB1.out.size (fun k hk => (World.ownsRow.lt HO1.out k hk).1)))
          have HO3:Hid (w3.ownsRow wc.heap.size 26 8 v3 (List.replicate (j+1) x).length (flatM (List.replicate (j+1) x))):=Lib.hid (by
           rw [List.replicate_succ']
           first | exact hown | simpa using hown)
          clear hown hgrow y0 y1 y2 y3 y4 y5 y6 y7
          go_wp2
          go_roundw
          case rel => exact ⟨j+1,by omega,by go_num,HO3,HB3⟩
          case measure => simp [RowKit.intOf];omega
         ·obtain rfl:j=K:=by omega
          have hks:¬ ((j:Int) < (j:Int)):=by omega
          obtain ⟨p3,c3,rfl,_,_,hm3⟩:=mems_own hO.out (fun y hy => by rw [rep_mem y hy];exact HBAC.out.below hB.out)
          rw [List.length_replicate] at hm3 ⊢;have HB3:=Lib.hid (HB2.out.trans (hB.out.mono HB2.out.size));have HM3:=Lib.hid hm3;have hgm:=good_facts HGD.out;have hfit:Fit (List.replicate j x):=fun y hy => by rw [rep_mem y hy];have:=hgm.pathL;have:=hgm.targL;omega
          have hag:allG (List.replicate j x)=true:=allG_iff.2 (fun y hy => by rw [rep_mem y hy];exact HGD.out)
          have hms:∀ m ∈ (List.replicate j x).map MP.m,GoodM m:=fun m hm => by
           obtain ⟨y,hy,rfl⟩:=List.mem_map.1 hm;rw [rep_mem y hy];exact hgm
          have HMS:=Lib.hid hms;clear hm3 hgm hms
          by_cases hbig:4096 < j
          ·have hbi:(4096:Int) < (j:Int):=by omega
           have HA:=Lib.hid (warch_many p3 j c3 (List.replicate j x) wr HM3.out (by have:=HKB.out.2;omega) hfit hag hbig (HN.out.below HB3.out))
           clear hfit hag hbig
           go_wp2_with fail
           refine HA.out.mono ?_
           rintro e w4 ⟨rfl,hb4⟩;have HB4:=Lib.hid (HB3.out.trans (hb4.mono HB3.out.size));clear hb4
           go_wp2_with fail
           refine (HAN.out _ HB4.out).mono ?_
           rintro e w5 ⟨rfl,hb5⟩;have FIN:=Lib.hid (HB4.out.trans (hb5.mono HB4.out.size));clear hb5
           go_wp2
           go_ret
           exact ⟨rfl,FIN.out⟩
          ·have hbi:¬ (4096:Int) < (j:Int):=by omega
           have hjl:j≤4096:=by omega
           have HA:=Lib.hid (warch_yes p3 j c3 (List.replicate j x) wr HM3.out hjl (allG_iff.1 hag) (HN.out.below HB3.out));have hNl:=archD_le HMS.out (by rw [List.length_map,List.length_replicate];exact hjl)
           have hRB:=read_back HMS.out (by rw [List.length_map,List.length_replicate];exact hjl)
           obtain ⟨N,hN⟩:∃ N,(archD ((List.replicate j x).map MP.m)).length=N:=⟨_,rfl⟩;rw [hN] at hNl;have HNN:=Lib.hid hN;have HRB:=Lib.hid hRB;clear hfit hag hbig hN hRB
           go_wp2_with fail
           refine HA.out.mono ?_
           rintro e w4 ⟨v4,rfl,ho4,hb4⟩;obtain ⟨p4,c4,rfl,_,_,hbt4,_,_⟩:=ho4.slice;rw [HNN.out] at hbt4 ⊢;have HB4:=Lib.hid (HB3.out.trans (hb4.mono HB3.out.size));have hR2:=memRead_any w4 p4 N c4 _ none 0 0 [] hbt4 HNN.out (by omega) (iat_none _) rfl (by decide) (HN.out.below HB4.out)
           unfold ReadD at hR2;rw [HRB.out] at hR2;have HR2:=Lib.hid hR2;clear hb4 ho4 hbt4 hR2
           go_wp2_with fail
           refine HR2.out.mono ?_
           rintro e w5 ⟨p5,c5,us,rfl,_,_,hum,_,hb5⟩;have HB5:=Lib.hid (HB4.out.trans (hb5.mono HB4.out.size))
           have hul:us.length=j:=by
            have h1:=congrArg List.length hum;rw [List.length_map,List.length_map,List.length_replicate] at h1;exact h1
           rw [hul];clear hum hb5 hul
           go_upto_region 13 with fail
           obtain ⟨w6,hw6⟩:∃ w6,w5.alloc (.cells #[.int .i64 0,.int .i64 0] 44)=w6:=⟨_,rfl⟩;have h56:Below w5.heap.size w5 w6:=by rw [← hw6];exact (Below.refl _ _).alloc (Nat.le_refl _) _
           have HF6:Hid (Blk w6 w5.heap.size 44 #[.int .i64 0,.int .i64 0]):=Lib.hid (by rw [← hw6];exact Blk.new w5 _ _)
           have HB6:=Lib.hid (HB5.out.trans (h56.mono HB5.out.size));rw [hw6];clear hw6 h56
           go_wp2_with fail
           refine (HAN.out _ HB6.out).mono ?_
           rintro e w7 ⟨rfl,hb7⟩;have f0:w7.cell? ⟨w5.heap.size,0,none⟩=some (.int .i64 0):=(HF6.out.below hb7 HF6.out.lt).cell 0;have FIN:=Lib.hid (HB6.out.trans (hb7.mono HB6.out.size));clear hb7
           go_wp2
           go_ret
           exact ⟨rfl,FIN.out⟩
      ·have hqi:((n:Int) % 16 != 3)=true:=by
        have:(n:Int) % 16≠3:=by omega
        simpa using this
       go_wp2_with fail
       refine (HAN.out _ HB2.out).mono ?_
       rintro e w3 ⟨rfl,hb3⟩;have FIN:=Lib.hid (HB2.out.trans (hb3.mono HB2.out.size));clear hb3
       go_wp2
       go_ret
       exact ⟨rfl,FIN.out⟩
end Go.Proofs.YtnpkcneojilmkaaGreatDoor.Walk
end
