/- Texts of this seat, merged: what the proof reaches. -/
import Derived.Test.YtnpkcneojilmkaaGreatDoorWriteReadX34
import Derived.Test.YtnpkcneojilmkaaGreatDoorWriteReadX32
import Derived.Deep.RegionHeld3
import Derived.Deep.RegionHeldLaw
section
namespace Go.Proofs.YtnpkcneojilmkaaGreatDoor.Mem
open Go.ChangeShapes Go.WideShapes Go.ChangeAt Go.RowKit Base Byt Txt Bk Hp Head Num Path Block Rec Go.Lib
set_option linter.unusedVariables false
set_option maxRecDepth 100000
def Cells8 (w:World) (b o:Nat) (y:MP):Prop:=
 w.cell? ⟨b,o,none⟩=some (.string (str y.m.path))∧w.cell? ⟨b,o+1,none⟩=some (.string (str y.m.target))∧w.cell? ⟨b,o+2,none⟩=some (.int .u8 (y.m.kind.toNat:Int))∧w.cell? ⟨b,o+3,none⟩=some (.int .i64 y.m.mode) ∧
 w.cell? ⟨b,o+4,none⟩=some (.int .i64 y.m.uid)∧w.cell? ⟨b,o+5,none⟩=some (.int .i64 y.m.gid)∧w.cell? ⟨b,o+6,none⟩=some (.int .i64 y.m.time)∧w.cell? ⟨b,o+7,none⟩=some (.slice y.p y.m.body.length y.c)
theorem Cells8.below {w w':World} {b o:Nat} {y:MP} (h:Cells8 w b o y) (hb:b < w.heap.size) (hw:Below w.heap.size w w'):Cells8 w' b o y:=by
 unfold Cells8 at h ⊢;simp only [hw.cell (p:=⟨b,_,none⟩) hb];exact h
theorem MemsAt.cells8 {w:World} {p:Option Addr} {n:Nat} {xs:List MP} (h:MemsAt w p n xs) {i:Nat} (hi:i < n):∃ b o,p=some ⟨b,o,none⟩∧b < w.heap.size∧BodyAt w (xs.getD i zeroP)∧Cells8 w b (o+i * 8) (xs.getD i zeroP):=by
 obtain ⟨b,o,hp,hb,hB,c0,c1,c2,c3,c4,c5,c6,c7⟩:=h.cells hi;rw [Nat.mul_comm] at c0 c1 c2 c3 c4 c5 c6 c7;exact ⟨b,o,hp,hb,hB,c0,c1,c2,c3,c4,c5,c6,c7⟩
set_option maxHeartbeats 4000000 in
theorem rsameAll_any (p q:Option Addr) (n m c d:Nat) (xs ys:List MP) (w:World) (hn:n≤maxLen) (h1:MemsAt w p n xs) (h2:MemsAt w q m ys) :
 Calls Tryz.prog 22 #[.slice p n c,.slice q m d] w fun e w' => e=.returned (.bool (decide (xs.map MP.m=ys.map MP.m)))∧Below w.heap.size w w':=by
 unfold maxLen at hn;have H1:=Lib.hid h1;have H2:=Lib.hid h2;have HL1:=Lib.hid h1.1;have HL2:=Lib.hid h2.1;clear h1 h2
 go_enter Tryz.func22,Tryz.ntmps22
 by_cases hnm:n=m
 ·subst hnm
  have hb:(((n:Int)) != (n:Int))=false:=by simp
  go_wp2_with fail
  go_loopw [5] (fun i wr => ∃ (k:Nat),k≤n∧i=.int .i64 (k:Int)∧Hid (∀ j,j < k → (xs.getD j zeroP).m=(ys.getD j zeroP).m)∧Hid (Below w.heap.size w wr)) (fun i _ => n - (RowKit.intOf i).toNat)
  case atStart => exact ⟨0,Nat.zero_le _,rfl,Lib.hid (fun j hj => absurd hj (by omega)),Lib.hid (Below.refl _ _)⟩
  case round =>
   obtain ⟨k,hk,rfl,hd,hB⟩:=hrel
   by_cases hlt:k < n
   ·obtain ⟨b1,o1,rfl,hb1,hB1,hc1⟩:=(H1.out.below hB.out).cells8 hlt
    obtain ⟨b2,o2,rfl,hb2,hB2,hc2⟩:=(H2.out.below hB.out).cells8 hlt;obtain ⟨u,hu⟩:∃ u,xs.getD k zeroP=u:=⟨_,rfl⟩;obtain ⟨v,hv⟩:∃ v,ys.getD k zeroP=v:=⟨_,rfl⟩;rw [hu] at hB1 hc1;rw [hv] at hB2 hc2;have HU:=Lib.hid hu;have HV:=Lib.hid hv;have HA:=Lib.hid hB1;have HB:=Lib.hid hB2;have HCC:Hid (∀ w',Below wr.heap.size wr w' → Cells8 w' b1 (o1+k * 8) u∧Cells8 w' b2 (o2+k * 8) v):=Lib.hid (fun w' h => ⟨hc1.below hb1 h,hc2.below hb2 h⟩)
    have HBB:Hid (Below wr.heap.size wr wr.drew):=Lib.hid (below_drewN (Below.refl wr.heap.size wr) 1);unfold Cells8 at HCC;clear hB1 hB2 hc1 hc2 hu hv hb1 hb2;have hltz:(k:Int) < (n:Int):=by omega
    go_wp2_with fail
    go_region_held3 (fun w' => (w'.cell? ⟨b1,o1+k * 8,none⟩=some (.string (str u.m.path))∧w'.cell? ⟨b1,o1+k * 8+1,none⟩=some (.string (str u.m.target))∧w'.cell? ⟨b1,o1+k * 8+2,none⟩=some (.int .u8 (u.m.kind.toNat:Int))∧w'.cell? ⟨b1,o1+k * 8+3,none⟩=some (.int .i64 u.m.mode)∧w'.cell? ⟨b1,o1+k * 8+4,none⟩=some (.int .i64 u.m.uid)∧w'.cell? ⟨b1,o1+k * 8+5,none⟩=some (.int .i64 u.m.gid)∧w'.cell? ⟨b1,o1+k * 8+6,none⟩=some (.int .i64 u.m.time)∧w'.cell? ⟨b1,o1+k * 8+7,none⟩=some (.slice u.p u.m.body.length u.c))∧(w'.cell? ⟨b2,o2+k * 8,none⟩=some (.string (str v.m.path))∧w'.cell? ⟨b2,o2+k * 8+1,none⟩=some (.string (str v.m.target))∧w'.cell? ⟨b2,o2+k * 8+2,none⟩=some (.int .u8 (v.m.kind.toNat:Int))∧w'.cell? ⟨b2,o2+k * 8+3,none⟩=some (.int .i64 v.m.mode)∧w'.cell? ⟨b2,o2+k * 8+4,none⟩=some (.int .i64 v.m.uid)∧w'.cell? ⟨b2,o2+k * 8+5,none⟩=some (.int .i64 v.m.gid)∧w'.cell? ⟨b2,o2+k * 8+6,none⟩=some (.int .i64 v.m.time)∧w'.cell? ⟨b2,o2+k * 8+7,none⟩=some (.slice v.p v.m.body.length v.c))) (exact HCC.out _ HBB.out) (first
     | (go_at_call 16
        refine (rsame_any u.m v.m u.p v.p u.c v.c _ (HA.out.below HBB.out).bat (HB.out.below HBB.out).bat).mono ?_
        rintro e wa ⟨rfl,hba⟩;have HBB:=Lib.hid (HBB.out.trans (hba.mono HBB.out.size))
        clear hba))
    all_goals
     by_cases huv:u.m=v.m
     ·have huv2:decide (u.m=v.m)=true:=decide_eq_true huv
      have HD:Hid (∀ j,j < k+1 → (xs.getD j zeroP).m=(ys.getD j zeroP).m):=Lib.hid (fun j hj => by
       rcases Nat.lt_succ_iff_lt_or_eq.1 hj with h | rfl
       ·exact hd.out j h
       ·rw [HU.out,HV.out,huv])
      clear huv;have HBD:=Lib.hid (hB.out.trans (HBB.out.mono hB.out.size));rw [huv2]
      go_wp2
      go_roundw
      case rel => exact ⟨k+1,by omega,by go_num,HD,HBD⟩
      case measure => simp [RowKit.intOf];omega
     ·have huv2:decide (u.m=v.m)=false:=decide_eq_false huv
      have HNE:Hid (decide (xs.map MP.m=ys.map MP.m)=false):=Lib.hid (decide_eq_false (mems_differ xs ys k (by rw [HL1.out];exact hlt) (by rw [HL2.out];exact hlt) (by rw [HU.out,HV.out];exact huv)))
      clear huv;have HBD:=Lib.hid (hB.out.trans (HBB.out.mono hB.out.size));rw [huv2]
      go_wp2
      go_ret
      exact ⟨by rw [HNE.out];rfl,HBD.out⟩
   ·have hks:¬ ((k:Int) < (n:Int)):=by omega
    have HE:Hid (decide (xs.map MP.m=ys.map MP.m)=true):=Lib.hid (decide_eq_true (mems_same xs ys (by rw [HL1.out,HL2.out]) (fun j hj => hd.out j (by rw [HL1.out] at hj;omega))))
    go_wp2
    go_ret
    exact ⟨by rw [HE.out];rfl,hB.out⟩
 ·have hb:(((n:Int)) != (m:Int))=true:=by simp;omega
  have HNE:Hid (decide (xs.map MP.m=ys.map MP.m)=false):=Lib.hid (decide_eq_false (fun e => hnm (by have:=congrArg List.length e;rw [List.length_map,List.length_map,HL1.out,HL2.out] at this;exact this)))
  go_wp2
  go_ret
  exact ⟨by rw [HNE.out];rfl,Below.refl _ _⟩
end Go.Proofs.YtnpkcneojilmkaaGreatDoor.Mem
end
section
namespace Go.Proofs.YtnpkcneojilmkaaGreatDoor.Wr
open Go.ChangeShapes Go.WideShapes Go.ChangeAt Go.RowKit Base Byt Txt Mem Go.Lib
theorem archD_le {ms:List MemV} (h:∀ m ∈ ms,GoodM m) (hl:ms.length≤4096):(archD ms).length≤12288001024:=by
 have:=putAllM_len ms h;rw [archD_eq,List.length_append,List.length_replicate];omega
theorem read_back {ms:List MemV} (h:∀ m ∈ ms,GoodM m) (hl:ms.length≤4096):membersD (archD ms)=(ms,0,0):=by
 have:=read_arch h hl 0
 rwa [List.replicate_zero,List.append_nil] at this
theorem iat_none (w:World):IAt w none 0 []:=fun h => absurd h (by decide)
end Go.Proofs.YtnpkcneojilmkaaGreatDoor.Wr
namespace Go.Proofs.YtnpkcneojilmkaaGreatDoor.Walk
open Go.ChangeShapes Go.WideShapes Go.ChangeAt Go.RowKit Base Byt Txt Bk Rec Mem Wr Block Go.Lib
set_option linter.unusedVariables false
set_option maxRecDepth 100000
set_option maxHeartbeats 4000000 in
theorem writeRead (a0:Option Addr) (len0 cap0:Nat) (z0:List Int) (w:World) (w0:IsRow .u8 w a0 len0 cap0 z0) (b0:cap0 * 1≤140737488351232) (hT:Need w) :
 Calls Tryz.prog 5 #[.slice a0 len0 cap0] w fun e w' => e=.returned (.bool true)∧Below w.heap.size w w':=by
 obtain ⟨hb,hl,hc,_⟩:=bat_of_row w0;obtain ⟨bs,hbs⟩:∃ bs,bs=bytesOf (z0.take len0):=⟨_,rfl⟩;rw [← hbs] at hb hl;obtain ⟨n,rfl⟩:∃ n,n=len0:=⟨_,rfl⟩;have HAN:Hid (∀ w1,Below w.heap.size w w1 → Calls Tryz.prog 18 #[] w1 fun e w' => e=.returned (.bool true)∧Below w1.heap.size w1 w'):=Lib.hid (fun w1 h => ans09_any w1 (hT.below h))
 have HB:=Lib.hid hb;have HL:=Lib.hid hl;have HN:=Lib.hid hT;have HBR:Hid (Below w.heap.size w w):=Lib.hid (Below.refl _ _);clear hb hl hbs w0 hc b0 hT
 by_cases hbig:40000 < n
 ·have hbi:(40000:Int) < (n:Int):=by omega
  go_enter Tryz.func5,Tryz.ntmps5
  go_wp2_with fail
  refine (HAN.out _ HBR.out).mono ?_
  rintro e w1 ⟨rfl,hb1⟩;have FIN:=Lib.hid hb1;clear hb1
  go_wp2
  go_ret
  exact ⟨rfl,FIN.out⟩
 ·have hbi:¬ (40000:Int) < (n:Int):=by omega
  obtain ⟨⟨ms,er,at_⟩,hD⟩:∃ r,membersD bs=r:=⟨_,rfl⟩;have hfact:=membersD_facts hD;have hroom:=membersD_room bs;rw [hD] at hroom;have hR:=memRead_any w a0 n cap0 bs none 0 0 [] HB.out HL.out (by omega) (iat_none _) rfl (by decide) HN.out
  unfold ReadD at hR;rw [hD] at hR;have HR:=Lib.hid hR;have HFACT:=Lib.hid hfact;have HROOM:=Lib.hid hroom;clear hR hfact hroom hD hbig
  go_enter Tryz.func5,Tryz.ntmps5
  go_wp2_with fail
  refine HR.out.mono ?_
  rintro e w1 ⟨p1,c1,xs,rfl,hx1,hx2,hxm,hm1,hb1⟩;obtain ⟨A,hA⟩:∃ A:Int,(at_:Int)=A:=⟨_,rfl⟩;simp only [hA];have HXM:Hid (xs.map MP.m=ms):=Lib.hid hxm;have HM1:=Lib.hid hm1;have HB1:=Lib.hid hb1;clear hxm hm1 hb1 hx1 hx2 hA
  go_upto_region 4 with fail
  obtain ⟨w2,hw2⟩:∃ w2,w1.alloc (.cells #[.int .i64 er,.int .i64 A] 44)=w2:=⟨_,rfl⟩;have h12:Below w1.heap.size w1 w2:=by rw [← hw2];exact (Below.refl _ _).alloc (Nat.le_refl _) _
  have x0:w2.cell? ⟨w1.heap.size,0,none⟩=some (.int .i64 er):=by rw [← hw2];exact (Blk.new w1 _ _).cell 0
  have HB2:=Lib.hid (HB1.out.trans (h12.mono HB1.out.size));have HM2:=Lib.hid (HM1.out.below h12);rw [hw2];clear hw2 h12
  by_cases he:er=0
  ·subst he
   have hgood:∀ m ∈ ms,goodD m=true:=by
    rcases HFACT.out with ⟨h,_⟩ | ⟨_,_,h⟩
    ·exact absurd rfl h
    ·exact h
   have hgm:∀ m ∈ ms,GoodM m:=fun m hm => good_facts (hgood m hm)
   have hxl:xs.length≤4096:=by
    have h:=HROOM.out;have h2:=congrArg List.length HXM.out;rw [List.length_map] at h2;omega
   obtain ⟨k,hk⟩:∃ k,xs.length=k:=⟨_,rfl⟩;have hml:ms.length≤4096:=HROOM.out;have hA1:=warch_yes p1 k c1 xs w2 (by rw [← hk];exact HM2.out) (by omega) (fun x hx => hgood _ (by rw [← HXM.out];exact List.mem_map_of_mem hx)) (HN.out.below HB2.out)
   rw [HXM.out] at hA1;have HA1:=Lib.hid hA1;have HGM:=Lib.hid hgm;have HGD:=Lib.hid hgood;have HXL:=Lib.hid (And.intro hk (And.intro hxl hml));rw [hk];clear hgood hgm hxl hk hml hA1
   go_wp2_with fail
   refine HA1.out.mono ?_
   rintro e w3 ⟨v3,rfl,ho3,hb3⟩;obtain ⟨p3,c3,rfl,_,_,hbt3,_,_⟩:=ho3.slice;obtain ⟨N,hN⟩:∃ N,(archD ms).length=N:=⟨_,rfl⟩;rw [hN] at hbt3 ⊢;have hNb:N≤12288001024:=by rw [← hN];exact archD_le HGM.out HXL.out.2.2
   have HB3:=Lib.hid (HB2.out.trans (hb3.mono HB2.out.size));have HT3:=Lib.hid hbt3;have HNN:=Lib.hid hN;have HM3:=Lib.hid (HM2.out.below hb3);have hR2:=memRead_any w3 p3 N c3 (archD ms) none 0 0 [] hbt3 hN (by omega) (iat_none _) rfl (by decide) (HN.out.below HB3.out)
   unfold ReadD at hR2;rw [read_back HGM.out HXL.out.2.2] at hR2;have HR2:=Lib.hid hR2;clear hb3 ho3 hbt3 hN hR2 x0
   go_wp2_with fail
   refine HR2.out.mono ?_
   rintro e w4 ⟨p4,c4,ys,rfl,_,_,hym,hm4,hb4⟩;have HB4:=Lib.hid (HB3.out.trans (hb4.mono HB3.out.size));have HYM:Hid (ys.map MP.m=ms):=Lib.hid hym;have HM4:=Lib.hid hm4;have HX4:=Lib.hid (HM3.out.below hb4);have HT4:=Lib.hid (HT3.out.below hb4);clear hym hm4 hb4
   go_upto_region 8 with fail
   obtain ⟨w5,hw5⟩:∃ w5,w4.alloc (.cells #[.int .i64 0,.int .i64 0] 44)=w5:=⟨_,rfl⟩;have h45:Below w4.heap.size w4 w5:=by rw [← hw5];exact (Below.refl _ _).alloc (Nat.le_refl _) _
   have hF5:Blk w5 w4.heap.size 44 #[.int .i64 0,.int .i64 0]:=by rw [← hw5];exact Blk.new w4 _ _
   have HB5:=Lib.hid (HB4.out.trans (h45.mono HB4.out.size));have HF5:=Lib.hid hF5;have HX5:=Lib.hid (HX4.out.below h45);have HY5:=Lib.hid (HM4.out.below h45);have HT5:=Lib.hid (HT4.out.below h45);rw [hw5]
   have hyl:ys.length=k:=by
    have h1:=congrArg List.length HYM.out;have h2:=congrArg List.length HXM.out;rw [List.length_map] at h1 h2;have:=HXL.out.1;omega
   have hA2:=warch_yes p4 k c4 ys w5 (by rw [← hyl];exact HY5.out) (by have:=HXL.out.1;have:=HXL.out.2.1;omega) (fun y hy => HGD.out _ (by rw [← HYM.out];exact List.mem_map_of_mem hy)) (HN.out.below HB5.out)
   rw [HYM.out] at hA2;have HA2:=Lib.hid hA2;have HYL:=Lib.hid hyl;rw [hyl];clear hw5 h45 hF5 hA2 hyl
   go_wp2_with fail
   refine HA2.out.mono ?_
   rintro e w6 ⟨v6,rfl,ho6,hb6⟩;obtain ⟨p6,c6,rfl,_,_,hbt6,_,_⟩:=ho6.slice;rw [HNN.out] at hbt6 ⊢;have HB6:=Lib.hid (HB5.out.trans (hb6.mono HB5.out.size));obtain ⟨X,hX⟩:∃ X,str (archD ms)=X:=⟨_,rfl⟩
   have hall:∀ w',Below w6.heap.size w6 w' → w'.cell? ⟨w4.heap.size,0,none⟩=some (.int .i64 0)∧Sem.run Tryz.prog (convert 24 9 (.slice p3 N c3)) w'=.ok (.string X) w'∧Sem.run Tryz.prog (convert 24 9 (.slice p6 N c6)) w'=.ok (.string X) w':=fun w' h => by
    refine ⟨((HF5.out.below hb6 HF5.out.lt).below h (HF5.out.below hb6 HF5.out.lt).lt).cell 0,?_,?_⟩
    ·rw [← hX]
     exact conv_at ((HT5.out.below hb6).below h) HNN.out 24 5 9 Tryz.underlying24 Tryz.underlying5 Tryz.underlying9 c3
    ·rw [← hX]
     exact conv_at (hbt6.below h) HNN.out 24 5 9 Tryz.underlying24 Tryz.underlying5 Tryz.underlying9 c6
   have hsame:∀ w',Below w6.heap.size w6 w' → Calls Tryz.prog 22 #[.slice p1 k c1,.slice p4 k c4] w' fun e w'' => e=.returned (.bool true)∧Below w'.heap.size w' w'':=fun w' h => by
    have:=rsameAll_any p1 p4 k k c1 c4 xs ys w' (by have:=HXL.out.1;have:=HXL.out.2.1;unfold maxLen;omega) (by rw [← HXL.out.1];exact (HX5.out.below hb6).below h) (by rw [← HYL.out];exact (HY5.out.below hb6).below h)
    rw [HXM.out,HYM.out,decide_eq_true rfl] at this;exact this
   have HALL:=Lib.hid hall;have HSAME:=Lib.hid hsame;clear hb6 ho6 hbt6 hX hall hsame
   go_wp2_with fail
   refine (HAN.out _ HB6.out).mono ?_
   rintro e w7 ⟨rfl,hb7⟩;have f0:=(HALL.out _ hb7).1;have HB67:=Lib.hid hb7;have HB7:=Lib.hid (HB6.out.trans (hb7.mono HB6.out.size));clear hb7
   go_wp2_with fail
   refine (HSAME.out _ HB67.out).mono ?_
   rintro e w8 ⟨rfl,hb8⟩;obtain ⟨_,k1,k2⟩:=HALL.out _ (HB67.out.trans (hb8.mono HB67.out.size));have FIN:=Lib.hid (HB7.out.trans (hb8.mono HB7.out.size));clear hb8 f0
   go_wp2
   go_ret
   exact ⟨rfl,FIN.out⟩
  ·have he2:(er == 0)=false:=by simpa using he
   have he3:(er != 0)=true:=by simpa using he
   go_wp2_with fail
   refine (HAN.out _ HB2.out).mono ?_
   rintro e w3 ⟨rfl,hb3⟩;have FIN:=Lib.hid (HB2.out.trans (hb3.mono HB2.out.size));clear hb3
   go_wp2
   go_ret
   exact ⟨rfl,FIN.out⟩
end Go.Proofs.YtnpkcneojilmkaaGreatDoor.Walk
end
