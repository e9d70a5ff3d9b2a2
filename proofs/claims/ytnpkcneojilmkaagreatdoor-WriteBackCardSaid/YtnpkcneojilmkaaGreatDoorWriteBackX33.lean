/- Texts of this seat, merged: what the proof reaches. -/
import Derived.Test.YtnpkcneojilmkaaGreatDoorWriteBackX32
import Derived.Test.YtnpkcneojilmkaaGreatDoorWriteBackX28
import Derived.Lib.SlBytesConst
import Derived.RangeFuncNested
import Derived.RangeFuncBound
import Derived.RangeFuncCalls
import Derived.RangeFuncLeaves
import Derived.Shelf.Abstract
import Derived.Shelf.RegionOpen
import Derived.WalkKit
import Derived.OwnWalkIn
import Derived.TacticsInMore
import Derived.LoopNIn
import Derived.LoopIn
import Derived.Test.YtnpkcneojilmkaaGreatDoorWriteBackX24
import Derived.Test.YtnpkcneojilmkaaGreatDoorWriteBackX23
import Derived.Test.YtnpkcneojilmkaaGreatDoorWriteBackX13
import Derived.StillTailTactics
import Derived.WalkSpells
import Derived.Test.YtnpkcneojilmkaaGreatDoorWriteBackX17
import Derived.Test.YtnpkcneojilmkaaGreatDoorWriteBackX11
import Derived.Laws.ResultCell
import Derived.Deep.DeepCutAuto
import Derived.Test.YtnpkcneojilmkaaGreatDoorWriteBackX18
import Derived.Test.YtnpkcneojilmkaaGreatDoorWriteBackX26
import Derived.Test.YtnpkcneojilmkaaGreatDoorWriteBackX31
import Derived.Test.YtnpkcneojilmkaaGreatDoorWriteBackX21
import Derived.BigRegion
import Derived.BigQuiet
import Derived.Deep.QuietTactic
import Derived.Deep.RegionHeldLaw
import Derived.Shelf.Bytes.SlIndexAt
section
namespace Go.Proofs.YtnpkcneojilmkaaGreatDoor.Wr
open Go.ChangeShapes Go.WideShapes Go.ChangeAt Go.RowKit Base Byt Txt Bk Hp Head Rec Attr Mem Block Go.Lib
set_option linter.unusedVariables false
set_option maxRecDepth 100000
def sumL (ms:List MemV):Nat:=(ms.map fun m => m.body.length).sum
def okL (m:MemV):Bool:=decide (m.path.length≤2000) && (decide (m.target.length≤2000) && decide (m.body.length≤100000))
def lightD (ms:List MemV):Bool:=decide (ms.length≤60) && (ms.all okL && decide (sumL ms≤200000))
theorem sumL_snoc (ms:List MemV) (m:MemV):sumL (ms++[m])=sumL ms+m.body.length:=by simp [sumL]
theorem lightD_facts {ms:List MemV} (h:lightD ms=true):ms.length≤60∧(∀ m ∈ ms,m.path.length≤2000∧m.target.length≤2000∧m.body.length≤100000):=by
 simp only [lightD,Bool.and_eq_true,decide_eq_true_eq,List.all_eq_true,okL] at h;exact ⟨h.1,h.2.1⟩
theorem light_fit {xs:List MP} (h:lightD (xs.map MP.m)=true):xs.length≤60∧Fit xs:=by
 obtain ⟨h1,h2⟩:=lightD_facts h;rw [List.length_map] at h1;exact ⟨h1,fun x hx => by have:=h2 _ (List.mem_map_of_mem hx);omega⟩
set_option maxHeartbeats 4000000 in
theorem light_any (p:Option Addr) (n c:Nat) (xs:List MP) (w:World) (hM:MemsAt w p n xs) (hR:∀ x ∈ xs,RoomM x) :
 Calls Tryz.prog 17 #[.slice p n c] w fun e w' => e=.returned (.bool (lightD (xs.map MP.m)))∧w=w':=by
 have HM:=Lib.hid hM;have HL:=Lib.hid hM.1;have HR:=Lib.hid hR;clear hM hR
 go_enter Tryz.func17,Tryz.ntmps17
 go_wp2
 go_loop [3,4] (fun s i => ∃ (k S:Nat),k≤n∧i=.int .i64 (k:Int)∧s=.int .i64 (S:Int)∧(k=0 ∨ n≤60)∧S≤k * 100000∧Hid (sumL ((xs.take k).map MP.m)=S)∧Hid (∀ m ∈ (xs.take k).map MP.m,okL m=true)) (fun _ i => n - (RowKit.intOf i).toNat)
 case atStart => exact ⟨0,0,Nat.zero_le _,rfl,rfl,.inl rfl,Nat.zero_le _,Lib.hid rfl,Lib.hid (by simp)⟩
 case round =>
  obtain ⟨k,S,hk,rfl,rfl,hk60,hS,hE,hG⟩:=hrel
  by_cases hlt:k < n
  ·have hlx:k < xs.length:=by rw [HL.out];exact hlt
   have hT:=takeP_succ xs k hlx;have hmem:=getP_mem xs k hlx;have hrm:=HR.out _ hmem;obtain ⟨b,o,rfl,hb,hBd,c0,c1,c2,c3,c4,c5,c6,c7⟩:=HM.out.cells hlt;obtain ⟨y,hy⟩:∃ y,xs.getD k zeroP=y:=⟨_,rfl⟩;rw [hy] at hT hmem hrm hBd c0 c1 c7;rw [Nat.mul_comm] at c0 c1 c7;have hs0:(str y.m.path).size=y.m.path.length:=str_size _;have hs1:(str y.m.target).size=y.m.target.length:=str_size _;obtain ⟨pl,hpl⟩:∃ pl,y.m.path.length=pl:=⟨_,rfl⟩;obtain ⟨tl,htl⟩:∃ tl,y.m.target.length=tl:=⟨_,rfl⟩;obtain ⟨bl,hbl⟩:∃ bl,y.m.body.length=bl:=⟨_,rfl⟩;have HY:Hid (y.m.path.length=pl∧y.m.target.length=tl∧y.m.body.length=bl):=Lib.hid ⟨hpl,htl,hbl⟩
   have hblm:bl≤140737488351232:=by rw [← hbl];have:=hBd.le;have:=hrm.2.2;omega
   rw [hpl] at hs0;rw [htl] at hs1;rw [hbl] at c7;have HT:=Lib.hid hT;have HMM:Hid (y.m ∈ xs.map MP.m):=Lib.hid (List.mem_map_of_mem hmem);have hltz:(k:Int) < (n:Int):=by omega
   clear hT hb hy hlx hmem hrm hBd c2 c3 c4 c5 c6 hpl htl hbl
   by_cases h60:60 < n
   ·have E:Hid (lightD (xs.map MP.m)=false):=Lib.hid (by
     unfold lightD
     rw [List.length_map,HL.out,decide_eq_false (by omega),Bool.false_and])
    have h60i:(60:Int) < (n:Int):=by omega
    go_wp2
    go_ret
    exact ⟨by rw [E.out];rfl,rfl⟩
   ·have h60i:¬ ((60:Int) < (n:Int)):=by omega
    by_cases hok:okL y.m=true
    ·have hok2:=hok
     unfold okL at hok2;rw [HY.out.1,HY.out.2.1,HY.out.2.2] at hok2;simp only [Bool.and_eq_true,decide_eq_true_eq] at hok2;obtain ⟨a1,a2,a3⟩:=hok2;have i1:¬ (2000:Int) < (pl:Int):=by omega
     have i2:¬ (2000:Int) < (tl:Int):=by omega
     have i3:¬ (100000:Int) < (bl:Int):=by omega
     have HOK:=Lib.hid hok;have HK2:Hid (S+bl≤(k+1) * 100000):=Lib.hid (by omega)
     have hSb:S≤6000000:=by omega
     have HN60:Hid (n≤60):=Lib.hid (by omega)
     clear hok a1 a2 hk60 hS
     go_wp2
     go_round
     case rel => exact ⟨k+1,S+bl,by omega,by go_num,by go_num,.inr HN60.out,HK2.out,Lib.hid (by rw [HT.out,sumL_snoc,hE.out,HY.out.2.2]),Lib.hid (fun m hm => by
      rw [HT.out,List.mem_append] at hm;rcases hm with hm | hm
      ·exact hG.out m hm
      ·rw [List.mem_singleton.1 hm];exact HOK.out)⟩
     case measure => simp [RowKit.intOf];omega
    ·have E:Hid (lightD (xs.map MP.m)=false):=Lib.hid (by
      rw [Bool.eq_false_iff];intro h;simp only [lightD,Bool.and_eq_true,List.all_eq_true] at h
      exact hok (h.2.1 _ HMM.out))
     have hor:2000 < pl ∨ (pl≤2000∧2000 < tl) ∨ (pl≤2000∧tl≤2000∧100000 < bl):=by
      unfold okL at hok;rw [HY.out.1,HY.out.2.1,HY.out.2.2] at hok;simp only [Bool.and_eq_true,decide_eq_true_eq] at hok;omega
     clear hok hk60 hS;rcases hor with i1 | ⟨i1,i2⟩ | ⟨i1,i2,i3⟩
     ·have j1:(2000:Int) < (pl:Int):=by omega
      go_wp2
      go_ret
      exact ⟨by rw [E.out];rfl,rfl⟩
     ·have j1:¬ (2000:Int) < (pl:Int):=by omega
      have j2:(2000:Int) < (tl:Int):=by omega
      go_wp2
      go_ret
      exact ⟨by rw [E.out];rfl,rfl⟩
     ·have j1:¬ (2000:Int) < (pl:Int):=by omega
      have j2:¬ (2000:Int) < (tl:Int):=by omega
      have j3:(100000:Int) < (bl:Int):=by omega
      go_wp2
      go_ret
      exact ⟨by rw [E.out];rfl,rfl⟩
  ·have hks:¬ ((k:Int) < (n:Int)):=by omega
   have e:xs.take k=xs:=List.take_of_length_le (by rw [HL.out];omega)
   have E:Hid (lightD (xs.map MP.m)=decide (S≤200000)):=Lib.hid (by
    have h1:=hE.out;have h2:=hG.out;rw [e] at h1 h2;unfold lightD
    rw [h1,List.all_eq_true.2 h2,List.length_map,HL.out,decide_eq_true (show n≤60 by omega),Bool.true_and,Bool.true_and])
   clear e hk60 hS
   by_cases hS2:S≤200000
   ·have hS3:(S:Int)≤200000:=by omega
    have E2:Hid (lightD (xs.map MP.m)=true):=Lib.hid (by rw [E.out,decide_eq_true hS2])
    clear hS2
    go_wp2
    go_ret
    exact ⟨by rw [E2.out];rfl,rfl⟩
   ·have hS3:¬ (S:Int)≤200000:=by omega
    have hd:decide ((S:Int)≤200000)=false:=decide_eq_false hS3;have E2:Hid (lightD (xs.map MP.m)=false):=Lib.hid (by rw [E.out,decide_eq_false hS2])
    clear hS2
    go_wp2
    go_ret
    exact ⟨by rw [E2.out];rfl,rfl⟩
end Go.Proofs.YtnpkcneojilmkaaGreatDoor.Wr
end
section
namespace Go.Proofs.YtnpkcneojilmkaaGreatDoor.Wr
open Go.ChangeShapes Go.WideShapes Go.ChangeAt Go.RowKit Base Byt Txt Bk Hp Head Rec Attr Mem Block Go.Lib
set_option linter.unusedVariables false
set_option maxRecDepth 100000
def fileA:MemV:=⟨[97],[],48,0,0,0,0,[120]⟩
def dirA:MemV:=⟨[97],[],53,0,0,0,0,[]⟩
theorem fileA_good:goodD fileA=true:=by decide +kernel
theorem dirA_good:goodD dirA=true:=by decide +kernel
theorem zeroA_bad:goodD zeroM=false:=by decide +kernel
theorem mems_one {w:World} {b:Nat} {y:MP} (hb:Blk w b 26 y.cs) (hB:BodyAt w y):MemsAt w (some ⟨b,0,none⟩) 1 [y]:=by
 refine ⟨rfl,fun x hx => by rw [List.mem_singleton] at hx;subst hx;exact hB,fun _ => ⟨b,0,rfl,hb.lt,fun i hi j hj => ?_⟩⟩
 obtain rfl:i=0:=by omega
 rw [show 0+8 * 0+j=j by omega]
 exact hb.cell j
theorem archA:(archD [fileA]).length=2048∧(archD [fileA]).getD 0 0=97∧(archD [fileA]).getD 512 0=120:=by decide +kernel
theorem sizeA:sizeM [dirA]=512:=by
 have h:=putM_plain (good_facts dirA_good) (by decide +kernel)
 have e:blocksOf dirA.body.length=0:=by decide
 simp only [sizeM,List.map_cons,List.map_nil,dirA_good,if_true,List.sum_cons,List.sum_nil,h,e];rfl
theorem body_empty (w:World) (m:MemV) (h:m.body=[]):BodyAt w ⟨m,none,0⟩:=by
 refine ⟨?_,?_,?_⟩
 ·show BAt w none m.body.length m.body
  rw [h];exact fun h0 => absurd h0 (by decide)
 ·show m.body.length≤0
  rw [h];exact Nat.le_refl _
 ·show (0:Nat)≤_
  decide
set_option maxHeartbeats 4000000 in
theorem ans09_any (w:World) (hN:Need w):Calls Tryz.prog 18 #[] w fun e w' => e=.returned (.bool true)∧Below w.heap.size w w':=by
 have kc:(convert 24 24 (.slice (some ⟨w.heap.size,0,none⟩) 1 1)).run Tryz.prog (w.alloc (.cells #[.int .u8 120] 5))=.ok (.slice (some ⟨w.heap.size,0,none⟩) 1 1) (w.alloc (.cells #[.int .u8 120] 5 (1,2))):=
  Lib.run_convert_bytes_const (P:=Tryz.prog) w 24 5 #[.int .u8 120] 1 1 Tryz.underlying24 Tryz.underlying5
 obtain ⟨W1,hW1⟩:∃ W1,(w.alloc (.cells #[.int .u8 120] 5 (1,2))).alloc (.cells #[.string ⟨#[97]⟩,.string ⟨#[]⟩,.int .u8 48,.int .i64 0,.int .i64 0,.int .i64 0,.int .i64 0,.slice (some ⟨w.heap.size,0,none⟩) 1 1] 26)=W1:=⟨_,rfl⟩;have hB1:Below w.heap.size w W1:=by rw [← hW1];exact ((Below.refl _ w).alloc (Nat.le_refl _) _).alloc (by simp) _
 have hb1:Blk W1 (w.heap.size+1) 26 (MP.cs ⟨fileA,some ⟨w.heap.size,0,none⟩,1⟩):=by
  have:=Blk.new (w.alloc (.cells #[.int .u8 120] 5 (1,2))) 26 (MP.cs ⟨fileA,some ⟨w.heap.size,0,none⟩,1⟩);rw [World.size_alloc] at this;rw [← hW1];exact this
 have ht1:BAt W1 (some ⟨w.heap.size,0,none⟩) 1 [120]:=fun _ => ⟨w.heap.size,0,rfl,fun i hi => by
  obtain rfl:i=0:=by omega
  rw [← hW1]
  have:(w.alloc (.cells #[.int .u8 120] 5 (1,2))).cell? ⟨w.heap.size,0,none⟩=some (.int .u8 120):=by
   unfold World.cell?;rw [heap_alloc_new];rfl
  exact (((Below.refl (w.heap.size+1) (w.alloc (.cells #[.int .u8 120] 5 (1,2)))).alloc (by simp) _).cell (p:=⟨w.heap.size,0,none⟩) (by show w.heap.size < w.heap.size+1;omega)).trans this⟩
 have hm1:MemsAt W1 (some ⟨w.heap.size+1,0,none⟩) 1 [⟨fileA,some ⟨w.heap.size,0,none⟩,1⟩]:=mems_one hb1 ⟨ht1,by show (1:Nat)≤1;decide,by show (1:Nat)≤maxLen;decide⟩
 have hA:=warch_yes (some ⟨w.heap.size+1,0,none⟩) 1 1 [⟨fileA,some ⟨w.heap.size,0,none⟩,1⟩] W1 hm1 (by decide) (fun x hx => by rw [List.mem_singleton.1 hx];exact fileA_good) (hN.below hB1)
 have HW1:=Lib.hid hW1;have HB1:=Lib.hid hB1;have HA:=Lib.hid hA;have HN:=Lib.hid hN;clear hW1 hB1 hb1 ht1 hm1 hA hN
 go_enter Tryz.func18,Tryz.ntmps18
 go_wp2_with fail
 rw [HW1.out];refine HA.out.mono ?_
 rintro e w2 ⟨v2,rfl,ho2,hb2⟩;obtain ⟨p2,c2,rfl,_,_,hbt2,_,_⟩:=ho2.slice;rw [show ([⟨fileA,some ⟨w.heap.size,0,none⟩,1⟩]:List MP).map MP.m=[fileA] from rfl,archA.1] at hbt2 ⊢
 have HB2:=Lib.hid (HB1.out.trans (hb2.mono HB1.out.size));obtain ⟨b,o,rfl,hbw,hcell⟩:=hbt2.cell (show 0 < 2048 by decide)
 have k0:=hcell 0 (by decide)
 have k1:=hcell 512 (by decide)
 rw [archA.2.1,Nat.add_zero] at k0;rw [archA.2.2] at k1;have HK:=Lib.hid (And.intro hbw (And.intro k0 k1));obtain ⟨W3,hW3⟩:∃ W3,w2.alloc (.cells #[.string ⟨#[]⟩,.string ⟨#[]⟩,.int .u8 0,.int .i64 0,.int .i64 0,.int .i64 0,.int .i64 0,.slice none 0 0] 26)=W3:=⟨_,rfl⟩;have h23:Below w2.heap.size w2 W3:=by rw [← hW3];exact (Below.refl _ _).alloc (Nat.le_refl _) _
 have hm3:MemsAt W3 (some ⟨w2.heap.size,0,none⟩) 1 [⟨zeroM,none,0⟩]:=mems_one (by rw [← hW3];exact Blk.new w2 _ _) (body_empty W3 zeroM rfl)
 have HB3:=Lib.hid (HB2.out.trans (h23.mono HB2.out.size));have HA3:=Lib.hid (warch_bad (some ⟨w2.heap.size,0,none⟩) 1 1 [⟨zeroM,none,0⟩] W3 hm3 (by decide) (fun x hx => by rw [List.mem_singleton.1 hx];decide) (by show (goodD zeroM && true)=false;rw [zeroA_bad];rfl) (HN.out.below HB3.out))
 have HW3:=Lib.hid hW3;have H23:=Lib.hid h23;clear hb2 ho2 hbt2 hbw hcell k0 k1 hW3 h23 hm3
 go_wp2_with fail
 rw [HW3.out];refine HA3.out.mono ?_
 rintro e w4 ⟨rfl,hb4⟩;have HB4:=Lib.hid (HB3.out.trans (hb4.mono HB3.out.size));have h24:Below w2.heap.size w2 w4:=H23.out.trans (hb4.mono H23.out.size);have k0:w4.cell? ⟨b,o,none⟩=some (.int .u8 97):=(h24.cell (p:=⟨b,o,none⟩) HK.out.1).trans HK.out.2.1;have k1:w4.cell? ⟨b,o+512,none⟩=some (.int .u8 120):=(h24.cell (p:=⟨b,o+512,none⟩) HK.out.1).trans HK.out.2.2;obtain ⟨W5,hW5⟩:∃ W5,w4.alloc (.cells #[.string ⟨#[97]⟩,.string ⟨#[]⟩,.int .u8 53,.int .i64 0,.int .i64 0,.int .i64 0,.int .i64 0,.slice none 0 0] 26)=W5:=⟨_,rfl⟩;have h45:Below w4.heap.size w4 W5:=by rw [← hW5];exact (Below.refl _ _).alloc (Nat.le_refl _) _
 have hm5:MemsAt W5 (some ⟨w4.heap.size,0,none⟩) 1 [⟨dirA,none,0⟩]:=mems_one (by rw [← hW5];exact Blk.new w4 _ _) (body_empty W5 dirA rfl)
 have HB5:=Lib.hid (HB4.out.trans (h45.mono HB4.out.size));have hZ:=wsize_any (some ⟨w4.heap.size,0,none⟩) 1 1 [⟨dirA,none,0⟩] W5 hm5 (by decide) (fun x hx => by rw [List.mem_singleton.1 hx];decide) (HN.out.below HB5.out)
 rw [show ([⟨dirA,none,0⟩]:List MP).map MP.m=[dirA] from rfl,sizeA] at hZ
 have HZ:=Lib.hid hZ;have HW5:=Lib.hid hW5;clear hb4 h24 hW5 h45 hm5 hZ
 go_wp2_with fail
 rw [HW5.out];refine HZ.out.mono ?_
 rintro e w6 ⟨rfl,hb6⟩;have FIN:=Lib.hid (HB5.out.trans (hb6.mono HB5.out.size));clear hb6 k0 k1
 go_wp2
 go_ret
 exact ⟨rfl,FIN.out⟩
end Go.Proofs.YtnpkcneojilmkaaGreatDoor.Wr
end
section
namespace Go.Proofs.YtnpkcneojilmkaaGreatDoor.Attr
open Go.ChangeShapes Go.WideShapes Go.ChangeAt Go.RowKit Go.Shelf Base Byt Txt Rec Bk Go.Lib
set_option linter.unusedVariables false
set_option maxRecDepth 100000
attribute [local go_sem] Oper.semAt_some
abbrev RecI:=Nat × (List UInt8 × List UInt8)
def encI (x:RecI):Array Value:=#[.int .i64 (x.1:Int),.agg #[.string (str x.2.1),.string (str x.2.2)]]
def backTo (rs:RecL) (m:Nat):List RecI:=(List.range m).map fun t => (rs.length - 1 - t,rs.getD (rs.length - 1 - t) ([],[]))
theorem backTo_succ (rs:RecL) (m:Nat):backTo rs (m+1)=backTo rs m++[(rs.length - 1 - m,rs.getD (rs.length - 1 - m) ([],[]))]:=by simp [backTo,List.range_succ]
theorem backTo_length (rs:RecL) (m:Nat):(backTo rs m).length=m:=by simp [backTo]
theorem backTo_all (rs:RecL):(backTo rs rs.length).map (·.2)=rs.reverse:=by
 apply List.ext_getElem
 ·simp [backTo]
 ·intro i h1 h2
  have hi:i < rs.length:=by simpa using h2
  simp [backTo,List.getD,show rs.length - 1 - i < rs.length by omega]
theorem backTo_pre (rs:RecL) (m:Nat) (hm:m≤rs.length):backTo rs m <+: backTo rs rs.length:=by
 refine ⟨(backTo rs rs.length).drop m,?_⟩
 have:backTo rs m=(backTo rs rs.length).take m:=by
  simp [backTo,← List.map_take,List.take_range,Nat.min_eq_left hm]
 rw [this,List.take_append_drop]
set_option maxHeartbeats 1000000 in
theorem back_in (F:Fence) (n:Nat) (hF:F=Fence.wide) (hn:1≤n) (l Bs n₀:Nat) (p:Option Addr) (c:Nat) (rs:RecL) (hreach:rs.length≤4611686018427387904) (J Jx:List RecI → World → Prop)
 (hY:∀ pre x W,J pre W → pre.length < rs.length → YieldAt F (n - 1) Tryz.prog l (encI x) W fun e W' =>
  (e=.returned (.bool true)∧J (pre++[x]) W'∧Below n₀ W W') ∨ (e=.returned (.bool false)∧Jx (pre++[x]) W'))
 (W:World) (hBn:Bs < n₀) (hBs:W.cell? ⟨Bs,0,none⟩=some (.slice p rs.length c))
 (hR:0 < rs.length → ∃ b o,p=some ⟨b,o,none⟩∧b < n₀ ∧ ∀ i,i < rs.length → W.cell? ⟨b,o+2 * i,none⟩=some (.string (str (rs.getD i ([],[])).1))∧W.cell? ⟨b,o+2 * i+1,none⟩=some (.string (str (rs.getD i ([],[])).2))) (h0:J [] W) :
 CallsIn F n Tryz.prog 171 #[.func (.yield l) #[] #[],.pointer (some ⟨Bs,0,none⟩)] W fun e W' => (∃ v,e=.returned v) ∧
  ((∃ ys,ys=backTo rs rs.length∧J ys W') ∨ (∃ pre,pre <+: backTo rs rs.length∧Jx pre W')):=by
 subst hF;obtain ⟨N,hN⟩:∃ N,rs.length=N:=⟨_,rfl⟩;rw [hN] at hBs hreach;refine callsIn_of_wp Tryz.func171 rfl trivial ?_ rfl;simp only [Tryz.ntmps171,List.size_toArray,List.length_cons,List.length_nil,Nat.reduceAdd,Nat.reduceSub,Array.replicate_succ,Array.replicate_zero,List.push_toArray,List.append_toArray,List.nil_append,List.cons_append]
 gi_wp2
 gi_loopw [3] (fun i wr => ∃ k:Nat,k≤N∧i=.int .i64 ((k:Int) - 1)∧J (backTo rs (N - k)) wr∧Below n₀ W wr)
  (fun i _ => (RowKit.intOf i+1).toNat)
 case atStart => exact ⟨N,Nat.le_refl _,rfl,by rw [Nat.sub_self];exact h0,Below.refl _ _⟩
 case round =>
  obtain ⟨k,hk,rfl,hJs,hnx⟩:=hrel
  cases k with
  | zero =>
    have hJ':J (backTo rs rs.length) wr:=by rw [hN];exact hJs
    clear hJs hY
    gi_wp2
    go_end0
    exact ⟨⟨_,rfl⟩,.inl ⟨_,rfl,hJ'⟩⟩
  | succ j =>
    rw [show (((j+1:Nat):Int) - 1)=(j:Int) by omega]
    obtain ⟨b,o,rfl,hb,hc⟩:=hR (by omega)
    obtain ⟨c0,c1⟩:=hc j (by omega)
    have hcb:=(hnx.cell (p:=⟨Bs,0,none⟩) hBn).trans hBs;have d0:=(hnx.cell (p:=⟨b,o+2 * j,none⟩) hb).trans c0;have d1:=(hnx.cell (p:=⟨b,o+2 * j+1,none⟩) hb).trans c1;rw [Nat.mul_comm] at d0 d1;obtain ⟨r,hr⟩:∃ r,rs.getD j ([],[])=r:=⟨_,rfl⟩;rw [hr] at d0 d1
    have hs:backTo rs (N - j)=backTo rs (N - (j+1))++[(j,r)]:=by
     have:N - j=N - (j+1)+1:=by omega
     rw [this,backTo_succ,show rs.length - 1 - (N - (j+1))=j by omega,hr]
    obtain ⟨fn,tmps,assign,body,hy,hR'⟩:=hY (backTo rs (N - (j+1))) (j,r) wr hJs (by rw [backTo_length];omega)
    simp only [encI] at hy;have HS:=Lib.hid hs;have hp2:=backTo_pre rs (N - j) (by omega)
    have HP:=Lib.hid hp2;rw [← hs] at hR';clear hs hY hR hJs c0 c1 hc hp2 hBs hr
    gi_wp2
    refine hR'.mono ?_
    rintro e W3 (⟨rfl,hJ3,hk3⟩ | ⟨rfl,hJx3⟩)
    ·gi_wp2
     go_roundw
     case rel => exact ⟨j,by omega,rfl,hJ3,hnx.trans hk3⟩
     case measure => simp [RowKit.intOf]
    ·gi_wp2
     refine bodyPost_ret (results_none rfl _ _ _) rfl ?_
     exact ⟨⟨_,rfl⟩,.inr ⟨_,HP.out,hJx3⟩⟩
theorem back_stops (n:Nat) (hn:1≤n) (Bs:Nat) (p:Option Addr) (c:Nat) (rs:RecL) (hreach:rs.length≤4611686018427387904) (w:World) (hBn:Bs < w.heap.size) (hc:w.cell? ⟨Bs,0,none⟩=some (.slice p rs.length c)) (hR:RecsAt w p rs.length rs) :
 SeqStopsK Fence.wide n Tryz.prog 171 #[.pointer (some ⟨Bs,0,none⟩)] encI (Below w.heap.size) (fun ys => ys=backTo rs rs.length) (fun pre => pre <+: backTo rs rs.length) rs.length w:=fun l J Jx W hW _ _ hY h0 =>
 back_in Fence.wide n rfl hn l Bs w.heap.size p c rs hreach J Jx hY W hBn ((hW.cell (p:=⟨Bs,0,none⟩) hBn).trans hc)
  (fun h0 => by
   obtain ⟨b,o,hp,hb,hc⟩:=hR.2 h0
   exact ⟨b,o,hp,hb,fun i hi => ⟨(hW.cell (p:=⟨b,o+2 * i,none⟩) hb).trans (hc i hi).1,(hW.cell (p:=⟨b,o+2 * i+1,none⟩) hb).trans (hc i hi).2⟩⟩) h0
theorem backward_any (p:Option Addr) (n c:Nat) (w:World) :
 Calls Tryz.prog 157 #[.slice p n c] w fun e w' => e=.returned (.func (.func 171) #[] #[.pointer (some ⟨w.heap.size,0,none⟩)])∧w'=w.alloc (.cells #[.slice p n c] 106):=by
 go_enter Tryz.func157,Tryz.ntmps157
 go_wp2
 go_ret
 exact ⟨rfl,rfl⟩
end Go.Proofs.YtnpkcneojilmkaaGreatDoor.Attr
end
section
namespace Go.Proofs.YtnpkcneojilmkaaGreatDoor.Attr
open Go.ChangeShapes Go.WideShapes Go.ChangeAt Go.RowKit Go.Shelf Base Byt Txt Rec Bk Go.Lib
set_option linter.unusedVariables false
set_option maxRecDepth 100000
attribute [local go_sem] Oper.semAt_some
def recC (k v:List UInt8):Array Value:=#[.string (str k),.string (str v)]
def lastV (rs:RecL) (k:List UInt8):Value:=match lastD rs k with
 | some v => .tuple #[.agg (recC k v),.bool true]
 | none => .tuple #[.agg (recC [] []),.bool false]
theorem lastD_rev {rs pre:RecL} {x:List UInt8 × List UInt8} {rest:RecL} {k:List UInt8} (h:rs.reverse=pre++x :: rest) (hp:∀ r ∈ pre,r.1≠k) (hx:x.1=k):lastD rs k=some x.2:=by
 have e:rs=rest.reverse++x :: pre.reverse:=by
  have:=congrArg List.reverse h;rw [List.reverse_reverse,List.reverse_append,List.reverse_cons,List.append_assoc] at this;exact this
 rw [e,lastD_app,lastD,lastD_none (rs:=pre.reverse) fun r hr => hp r (List.mem_reverse.1 hr)]
 simp [hx]
theorem ret_rec (tmps:Array Value) (w:World) (b0 b1:Nat) (a b:ByteArray) (o:Bool) (h0:tmps[4]? = some (.pointer (some ⟨b0,0,none⟩))) (h1:tmps[5]? = some (.pointer (some ⟨b1,0,none⟩)))
 (c0:Blk w b0 37 #[.string a,.string b]) (c1:Blk w b1 4 #[.bool o]) :
 (results Tryz.f142 tmps).run Tryz.prog w=.ok (.tuple #[.agg #[.string a,.string b],.bool o]) w:=by
 have d0:=c0.cell 0;have d1:=c0.cell 1;have d2:=c1.cell 0;simp at d0 d1 d2;simp [results,Tryz.f142,go_sem,h0,h1,d0,d1,d2]
set_option maxHeartbeats 2000000 in
theorem last_any (k:List UInt8) (p:Option Addr) (n c:Nat) (rs:RecL) (w:World) (hn:n≤4611686018427387904) (h:RecsAt w p n rs) :
 Calls Tryz.prog 142 #[.string (str k),.slice p n c] w fun e w' => e=.returned (lastV rs k)∧Below w.heap.size w w':=by
 obtain rfl:rs.length=n:=h.1;have H:=Lib.hid h;clear h;refine (callsIn_wide (n:=3)).1 ?_
 refine callsIn_of_wp_marks Tryz.func142 rfl trivial ?_ rfl;simp only [Tryz.ntmps142,List.size_toArray,List.length_cons,List.length_nil,Nat.reduceAdd,Nat.reduceSub,Array.replicate_succ,Array.replicate_zero,List.push_toArray,List.append_toArray,List.nil_append,List.cons_append]
 gi_wp2_with fail
 refine ⟨trivial,(callsIn_wide.2 (backward_any _ _ _ _)).mono ?_⟩;rintro e w' ⟨rfl,rfl⟩
 gi_wp2_with fail
 have bK:Blk _ w.heap.size 9 #[.string (str k)]:=(((Blk.new w 9 #[.string (str k)]).alloc (.cells #[.string ⟨#[]⟩,.string ⟨#[]⟩] 37)).alloc (.cells #[.bool false] 4)).alloc (.cells #[.slice p rs.length c] 106);have bR:=((Blk.new (w.alloc (.cells #[.string (str k)] 9)) 37 #[.string ⟨#[]⟩,.string ⟨#[]⟩]).alloc (.cells #[.bool false] 4)).alloc (.cells #[.slice p rs.length c] 106);have bO:=(Blk.new ((w.alloc (.cells #[.string (str k)] 9)).alloc (.cells #[.string ⟨#[]⟩,.string ⟨#[]⟩] 37)) 4 #[.bool false]).alloc (.cells #[.slice p rs.length c] 106);have bS:=Blk.new (((w.alloc (.cells #[.string (str k)] 9)).alloc (.cells #[.string ⟨#[]⟩,.string ⟨#[]⟩] 37)).alloc (.cells #[.bool false] 4)) 106 #[.slice p rs.length c]
 have hB0:Below w.heap.size w ((((w.alloc (.cells #[.string (str k)] 9)).alloc (.cells #[.string ⟨#[]⟩,.string ⟨#[]⟩] 37)).alloc (.cells #[.bool false] 4)).alloc (.cells #[.slice p rs.length c] 106)):=
  ((((Below.refl _ w).alloc (Nat.le_refl _) _).alloc (by simp) _).alloc (by simp;omega) _).alloc (by simp;omega) _
 have hsz:((((w.alloc (.cells #[.string (str k)] 9)).alloc (.cells #[.string ⟨#[]⟩,.string ⟨#[]⟩] 37)).alloc (.cells #[.bool false] 4)).alloc (.cells #[.slice p rs.length c] 106)).heap.size=w.heap.size+4:=by simp
 simp only [World.size_alloc] at bR bO bS;obtain ⟨W0,hW0⟩:∃ W0,(((w.alloc (.cells #[.string (str k)] 9)).alloc (.cells #[.string ⟨#[]⟩,.string ⟨#[]⟩] 37)).alloc (.cells #[.bool false] 4)).alloc (.cells #[.slice p rs.length c] 106)=W0:=⟨_,rfl⟩;rw [hW0] at bK bR bO bS hB0 hsz ⊢;clear hW0;have HSZ:=Lib.hid hsz;have HB0:=Lib.hid hB0;have hR0:=H.out.below hB0
 refine wpIn_rangeFunc_ownH rfl (by omega) (gf:=171) (lb:=#[.pointer (some ⟨w.heap.size+1+1+1,0,none⟩)]) rfl trivial (enters_of Tryz.func171 (by kernel_rfl) rfl)
  (back_stops _ (by omega) (w.heap.size+1+1+1) p c rs hn W0 (by omega) (bS.cell 0) hR0) belowK_t (belowK_b (Nat.le_refl _)) (Below.refl _ _) (fun _ => rfl)
  (fun pre W => (Blk W w.heap.size 9 #[.string (str k)]∧Blk W (w.heap.size+1) 37 #[.string ⟨#[]⟩,.string ⟨#[]⟩]∧Blk W (w.heap.size+1+1) 4 #[.bool false] ∧ ∀ x ∈ pre,x.2.1≠k)∧Below W0.heap.size W0 W)
  (fun c pre W => (c=.ret ∧ ∃ pre0 x,pre=pre0++[x]∧(∀ y ∈ pre0,y.2.1≠k)∧x.2.1=k∧Blk W (w.heap.size+1) 37 #[.string (str x.2.1),.string (str x.2.2)]∧Blk W (w.heap.size+1+1) 4 #[.bool true])∧Below w.heap.size w W)
  (OwnFrom.and (Own.from (fun s A B row hs hg hr => ⟨hs.1.kept hg hr,hs.2.1.kept hg hr,hs.2.2.1.kept hg hr,hs.2.2.2⟩) _) (ownFrom_below (Nat.le_refl _) (Nat.le_refl _)))
  (fun c => OwnFrom.and (Own.from (fun s A B row hs hg hr => by obtain ⟨h0,pre0,x,h1,h2,h3,h4,h5⟩:=hs;exact ⟨h0,pre0,x,h1,h2,h3,h4.kept hg hr,h5.kept hg hr⟩) _) (ownFrom_below (Nat.le_refl _) (by omega)))
  ⟨⟨bK,bR,bO,by simp⟩,Below.refl _ _⟩
  (fun x a' W => ∃ Bx,W0.heap.size≤Bx∧Blk W Bx 37 #[.string (str x.2.1),.string (str x.2.2)]∧a' = { tmps:=#[.string (str k),.slice p rs.length c,.pointer (some ⟨w.heap.size,0,none⟩),undef,.pointer (some ⟨w.heap.size+1,0,none⟩),.pointer (some ⟨w.heap.size+1+1,0,none⟩),undef,.pointer (some ⟨Bx,0,none⟩),.slice p rs.length c,.func (.func 171) #[] #[.pointer (some ⟨w.heap.size+1+1+1,0,none⟩)],.int .i64 (x.1:Int),.agg #[.string (str x.2.1),.string (str x.2.2)],undef,undef,undef,undef,undef,undef],defers:=[] })
  (fun x a' _ X Y row hs hg hr => by obtain ⟨Bx,h1,h2,h3⟩:=hs;exact ⟨Bx,h1,h2.kept hg (fun r e => (hr r e).2),h3⟩)
  ?assign ?body ?done ?stop
 case assign =>
  rintro l pre x W K ⟨⟨b1,b2,b3,hx⟩,hB1⟩ hK;have hs:=hB1.size;have HKP:=Lib.hid hK;have HI:=Lib.hid (And.intro (And.intro b1 (And.intro b2 (And.intro b3 hx))) hB1);clear hK b1 b2 b3 hx hB1;simp only [encI]
  gi_wp2
  obtain ⟨⟨b1,b2,b3,hx⟩,hB1⟩:=HI.out;exact HKP.out _ _ ((KeepsOthers.alloc _ _).from _) ((Below.refl _ W).alloc hs _) ⟨⟨b1.alloc _,b2.alloc _,b3.alloc _,hx⟩,hB1.alloc hs _⟩ ⟨W.heap.size,hs,Blk.new _ _ _,rfl⟩
 case body =>
  rintro l pre x a' W hl hr ⟨⟨b1,b2,b3,hx⟩,hB1⟩ ⟨Bx,hBx,bX,rfl⟩ hlt;have hs:=hB1.size;have c0:=b1.cell 0;have d0:=bX.cell 0;have d1:=bX.cell 1;simp only [List.getElem?_toArray,List.getElem?_cons_zero,List.getElem?_cons_succ] at c0 d0 d1
  by_cases hk:x.2.1=k
  ·have e1:((str x.2.1).toList == (str k).toList)=true:=by rw [str_toList,str_toList];simpa using hk
   have f0:=b2.frozen 0;have f1:=b2.frozen 1;have r0:=b2.cell 0;have r1:=b2.cell 1;have f2:=b3.frozen 0;have r2:=b3.cell 0;simp only [List.getElem?_toArray,List.getElem?_cons_zero,List.getElem?_cons_succ] at r0 r1 r2;have HI:=Lib.hid (And.intro (And.intro b1 (And.intro b2 (And.intro b3 hx))) hB1);have HK:=Lib.hid hk;clear hk b1 b2 b3 hx hB1 bX hR0 bK bR bO bS hB0
   gi_wp2
   obtain ⟨⟨b1,b2,b3,hx⟩,hB1⟩:=HI.out;have hBw:Below w.heap.size w W:=HB0.out.trans (hB1.mono (by have:=HSZ.out;omega))
   exact ⟨(((KeepsOthers.setCell _ _ _).trans (KeepsOthers.setCell _ _ _)).trans (KeepsOthers.setCell _ _ _)).from _,
    ⟨rfl,pre,x,rfl,hx,HK.out,((b2.set 0 _ (by decide)).set 1 _ (by simp)).other (by omega) _,((b3.other (by omega) _).other (by omega) _).set 0 _ (by decide)⟩,
    ((hBw.setCell (p:=⟨w.heap.size+1,0,none⟩) (by simp) _).setCell (p:=⟨w.heap.size+1,1,none⟩) (by simp) _).setCell (p:=⟨w.heap.size+1+1,0,none⟩) (by simp;omega) _⟩
  ·have e1:((str x.2.1).toList == (str k).toList)=false:=by rw [str_toList,str_toList];simpa using hk
   have HI:=Lib.hid (And.intro (And.intro b1 (And.intro b2 (And.intro b3 hx))) hB1);have HK:=Lib.hid hk;clear hk b1 b2 b3 hx hB1 bX hR0 bK bR bO bS hB0
   gi_wp2
   obtain ⟨⟨b1,b2,b3,hx⟩,hB1⟩:=HI.out
   exact ⟨KeepsFrom.refl _ _,Below.refl _ _,⟨b1,b2,b3,fun y hy => by
    rcases List.mem_append.1 hy with hy | hy
    ·exact hx y hy
    ·rw [List.mem_singleton.1 hy];exact HK.out⟩,hB1⟩
 case done =>
  rintro D ys W hD rfl ⟨⟨b1,b2,b3,hx⟩,hB1⟩ hK;have f0:=b2.frozen 0;have f1:=b2.frozen 1;have r0:=b2.cell 0;have r1:=b2.cell 1;have f2:=b3.frozen 0;have r2:=b3.cell 0;simp only [List.getElem?_toArray,List.getElem?_cons_zero,List.getElem?_cons_succ] at r0 r1 r2;have HI:=Lib.hid (And.intro (And.intro b1 (And.intro b2 (And.intro b3 hx))) hB1);have HK:=Lib.hid hK;clear hK b1 b2 b3 hx hB1 hR0 bK bR bO bS
  gi_wp2
  obtain ⟨⟨b1,b2,b3,hx⟩,hB1⟩:=HI.out;have hBw:Below w.heap.size w W:=HB0.out.trans (hB1.mono (by have:=HSZ.out;omega))
  have hK':=(((KeepsOthers.setCell W ⟨w.heap.size+1,0,none⟩ (.string ⟨#[]⟩)).trans (KeepsOthers.setCell _ ⟨w.heap.size+1,1,none⟩ (.string ⟨#[]⟩))).trans (KeepsOthers.setCell _ ⟨w.heap.size+1+1,0,none⟩ (.bool false))).same D _ HK.out rfl;refine ⟨by simp,.inl ⟨_,_,rfl,run_takeDeferred hK',?_⟩⟩
  have k0:=(((b2.set 0 (.string ⟨#[]⟩) (by decide)).set 1 (.string ⟨#[]⟩) (by decide)).other (b':=w.heap.size+1+1) (i:=0) (by omega) (.bool false)).kept (grownBy_putObj' _ D (.deferred none)) (fun r e => by cases e;exact ⟨_,hK',rfl⟩)
  have k1:=(((b3.other (b':=w.heap.size+1) (i:=0) (by omega) (.string ⟨#[]⟩)).other (b':=w.heap.size+1) (i:=1) (by omega) (.string ⟨#[]⟩)).set 0 (.bool false) (by decide)).kept (grownBy_putObj' _ D (.deferred none)) (fun r e => by cases e;exact ⟨_,hK',rfl⟩)
  have hv:lastV rs k=.tuple #[.agg #[.string ⟨#[]⟩,.string ⟨#[]⟩],.bool false]:=by
   unfold lastV;rw [lastD_none fun r hr => ?_]
   ·rfl
   ·have:r ∈ (backTo rs rs.length).map (·.2):=by rw [backTo_all];exact List.mem_reverse.2 hr
    obtain ⟨y,hy,rfl⟩:=List.mem_map.1 this;exact hx y hy
  rw [hv]
  exact ⟨_,ret_rec _ _ (w.heap.size+1) (w.heap.size+1+1) ⟨#[]⟩ ⟨#[]⟩ false rfl rfl k0 k1,rfl,
   (((hBw.setCell (p:=⟨w.heap.size+1,0,none⟩) (by simp) _).setCell (p:=⟨w.heap.size+1,1,none⟩) (by simp) _).setCell (p:=⟨w.heap.size+1+1,0,none⟩) (by simp;omega) _).trans (belowK_b (w:=w) (Nat.le_refl _) _ D _ _ (by have:=HSZ.out;omega) hK' rfl rfl)⟩
 case stop =>
  rintro D c pre W hD hpre ⟨⟨rfl,pre0,x,rfl,h1,h2,b2,b3⟩,hB⟩ hK;have HI:=Lib.hid (And.intro b2 (And.intro b3 hB));have HK:=Lib.hid hK;clear b2 b3 hB hK
  gi_wp2
  obtain ⟨b2,b3,hB⟩:=HI.out;have hK':=HK.out;refine ⟨by simp,.inl ⟨_,_,rfl,run_takeDeferred hK',?_⟩⟩
  have k0:=b2.kept (grownBy_putObj' _ D (.deferred none)) (fun r e => by cases e;exact ⟨_,hK',rfl⟩)
  have k1:=b3.kept (grownBy_putObj' _ D (.deferred none)) (fun r e => by cases e;exact ⟨_,hK',rfl⟩)
  have hv:lastV rs k=.tuple #[.agg #[.string (str x.2.1),.string (str x.2.2)],.bool true]:=by
   obtain ⟨rest,hrest⟩:=hpre;have e:=backTo_all rs;rw [← hrest,List.map_append,List.map_append,List.map_singleton,List.append_assoc,List.singleton_append] at e;unfold lastV;rw [lastD_rev e.symm (fun r hr => by obtain ⟨y,hy,rfl⟩:=List.mem_map.1 hr;exact h1 y hy) h2,← h2]
   rfl
  rw [hv];exact ⟨_,ret_rec _ _ (w.heap.size+1) (w.heap.size+1+1) _ _ true rfl rfl k0 k1,rfl,hB.trans (belowK_b (w:=w) (Nat.le_refl _) _ D _ _ (by have:=HSZ.out;omega) hK' rfl rfl)⟩
end Go.Proofs.YtnpkcneojilmkaaGreatDoor.Attr
end
section
namespace Go.Proofs.YtnpkcneojilmkaaGreatDoor.Attr
open Go.ChangeShapes Go.WideShapes Go.ChangeAt Go.RowKit Go.Shelf Base Byt Txt Rec Bk Mk Go.Lib
set_option linter.unusedVariables false
set_option maxRecDepth 100000
abbrev Glob:=List UInt8 → Option (List UInt8)
def recF (F:Glob):List UInt8 → Option Value:=fun k => (F k).map fun v => .agg (recC k v)
def St (w:World) (g:Nat) (mb:Option Nat) (F:Glob):Prop:=
 Blk w g 95 #[.map mb]∧(mb=none → F=noneF) ∧ ∀ B,mb=some B → MapK strK w B (recF F)
def StP (w:World) (p:Option Addr) (F:Glob):Prop:=(p=none∧F=noneF) ∨ ∃ g mb,p=some ⟨g,0,none⟩∧St w g mb F
def stB (g:Nat) (mb:Option Nat):Nat → Prop:=fun k => k=g ∨ mb=some k
section
variable {w w':World} {g:Nat} {mb:Option Nat} {F:Glob} {p:Option Addr}
theorem St.lt (h:St w g mb F):g < w.heap.size:=h.1.lt
theorem St.ltB (h:St w g mb F) {B:Nat} (hB:mb=some B):B < w.heap.size:=(h.2.2 B hB).lt
theorem St.kept {S:Nat → Prop} (h:St w g mb F) (hk:Kept S w w') (hn:∀ k,stB g mb k → ¬ S k):St w' g mb F:=
 ⟨h.1.keptS hk (hn g (.inl rfl)),h.2.1,fun B hB => (h.2.2 B hB).kept hk (hn B (.inr hB))⟩
theorem St.below (h:St w g mb F) (hb:Below w.heap.size w w'):St w' g mb F:=h.kept (Kept.of_below hb noneB) (fun _ _ => id)
theorem StP.below (h:StP w p F) (hb:Below w.heap.size w w'):StP w' p F:=h.imp id fun ⟨g,mb,hp,hs⟩ => ⟨g,mb,hp,hs.below hb⟩
theorem St.new (w:World):St (w.alloc (.cells #[.map none] 95)) w.heap.size none noneF:=⟨Blk.new w _ _,fun _ => rfl,fun _ h => by cases h⟩
theorem St.ptr (h:St w g mb F):StP w (some ⟨g,0,none⟩) F:=.inr ⟨g,mb,rfl,h⟩
theorem StP.nil (w:World):StP w none noneF:=.inl ⟨rfl,rfl⟩
theorem recs_off {p:Option Addr} {n:Nat} {rs:RecL} (h:St w g mb F) (hr:RecsAt w p n rs) (h0:0 < n) {a:Addr} (ha:p=some a):¬ stB g mb a.block:=by
 obtain ⟨b,o,rfl,hb,hc⟩:=hr.2 h0
 cases ha
 have c0:=(hc 0 h0).1;rintro (e | e)
 ·subst e
  rw [h.1.cell] at c0;rcases Nat.eq_zero_or_pos o with rfl | ho
  ·simp at c0
  ·rw [Array.getElem?_eq_none (by simp;omega)] at c0;cases c0
 ·obtain ⟨es,clock,hm,_⟩:=h.2.2 _ e
  simp [World.cell?,hm] at c0
theorem recsAt_kept {S:Nat → Prop} {p:Option Addr} {n:Nat} {rs:RecL} (hr:RecsAt w p n rs) (hk:Kept S w w') (hn:0 < n → ∀ a,p=some a → ¬ S a.block):RecsAt w' p n rs:=by
 refine ⟨hr.1,fun h0 => ?_⟩
 obtain ⟨b,o,rfl,hb,hc⟩:=hr.2 h0;have e:=hk.block b hb (hn h0 _ rfl);exact ⟨b,o,rfl,Nat.lt_of_lt_of_le hb hk.size,fun i hi => ⟨by rw [World.cell?_of_block e];exact (hc i hi).1,by rw [World.cell?_of_block e];exact (hc i hi).2⟩⟩
theorem recZero (w:World):(zeroValue 37).run Tryz.prog w=.ok (.agg #[.string ⟨#[]⟩,.string ⟨#[]⟩]) w:=Tryz.zeroValue37 w
theorem recValue (w:World) (a b:ByteArray):(Instr.field 37 (.agg #[.string a,.string b]) 1).run Tryz.prog w=.ok (.string b) w:=by
 kernel_rfl
theorem st_look (h:St w g mb F) (k:List UInt8) :
 ∃ x:ByteArray,(Instr.lookup 93 (.map mb) (.string (str k)) false).run Tryz.prog w=.ok (.agg #[.string x,.string (str ((F k).getD []))]) w:=by
 cases mb with
 | none =>
   refine ⟨⟨#[]⟩,?_⟩;rw [h.2.1 rfl];exact look_nil (K:=strK) Tryz.underlying93 Tryz.underlying9 recZero k w
 | some B =>
   have hl:=(h.2.2 B rfl).look Tryz.underlying93 Tryz.underlying9 recZero k
   cases hf:F k with
   | none =>
     refine ⟨⟨#[]⟩,?_⟩;rw [show recF F k=none by unfold recF;rw [hf];rfl] at hl
     exact hl
   | some v =>
     refine ⟨str k,?_⟩;rw [show recF F k=some (.agg (recC k v)) by unfold recF;rw [hf];rfl] at hl
     exact hl
end
set_option maxHeartbeats 1000000 in
theorem value_any (s:Option Addr) (F:Glob) (k:List UInt8) (p:Option Addr) (n c:Nat) (rs:RecL) (w:World) (hs:StP w s F) (hn:n≤4611686018427387904) (h:RecsAt w p n rs) :
 Calls Tryz.prog 111 #[.pointer s,.string (str k),.slice p n c] w fun e w' => e=.returned (.string (str (valueD F rs k)))∧Below w.heap.size w w':=by
 have hl:=last_any k p n c rs w hn h;have HS:=Lib.hid hs;clear hs h hn;unfold valueD
 cases hr:lastD rs k with
 | some v =>
   rw [show lastV rs k=.tuple #[.agg #[.string (str k),.string (str v)],.bool true] by unfold lastV;rw [hr];rfl] at hl
   clear hr
   go_enter Tryz.func111,Tryz.ntmps111
   go_wp2_with fail
   refine hl.mono ?_
   rintro e w1 ⟨rfl,hB⟩;have HB:=Lib.hid hB;clear hB hl
   go_wp2
   go_ret
   exact ⟨rfl,HB.out.alloc HB.out.size _⟩
 | none =>
   rw [show lastV rs k=.tuple #[.agg #[.string ⟨#[]⟩,.string ⟨#[]⟩],.bool false] by unfold lastV;rw [hr];rfl] at hl
   clear hr;rcases HS.out with ⟨rfl,rfl⟩ | ⟨g,mb,rfl,hst⟩
   ·go_enter Tryz.func111,Tryz.ntmps111
    go_wp2_with fail
    refine hl.mono ?_
    rintro e w1 ⟨rfl,hB⟩;have HB:=Lib.hid hB;clear hB hl
    go_wp2
    go_ret
    exact ⟨rfl,HB.out.alloc HB.out.size _⟩
   ·have HST:=Lib.hid hst
    clear hst
    go_enter Tryz.func111,Tryz.ntmps111
    go_wp2_with fail
    refine hl.mono ?_
    rintro e w1 ⟨rfl,hB⟩;have hst2:=HST.out.below (hB.alloc hB.size (.cells #[.string ⟨#[]⟩,.string ⟨#[]⟩] 37));obtain ⟨a,hlook⟩:=st_look hst2 k;have c0:=hst2.1.cell 0;simp only [List.getElem?_toArray,List.getElem?_cons_zero] at c0;have HB:=Lib.hid hB;have hfld:=fun w => recValue w a (str ((F k).getD []))
    clear hB hl hst2
    go_wp2
    go_ret
    exact ⟨rfl,HB.out.alloc HB.out.size _⟩
def GlobPost (w:World) (g:Nat) (mb:Option Nat) (F:Glob) (rs:RecL) (e:Ending) (w':World):Prop:=
 e=.returned (.tuple #[]) ∧ ∃ B,St w' g (some B) (moreF F rs)∧Kept (stB g mb) w w'∧(mb=some B ∨ w.heap.size≤B)
theorem recF_more (F:Glob) (rs:RecL) (k v:List UInt8):(fun y => if y=k then some (Value.agg (recC k v)) else recF (moreF F rs) y)=recF (moreF F (rs++[(k,v)])):=by
 funext y
 rw [moreF_snoc];unfold recF
 by_cases h:y=k
 ·subst h;simp
 ·simp [h]
theorem take_one (rs:RecL) (j:Nat) (hj:j < rs.length):rs.take (j+1)=rs.take j++[rs.getD j ([],[])]:=by
 rw [List.take_add_one];simp [List.getD,hj]
theorem St.ne {w:World} {g B:Nat} {F:Glob} (h:St w g (some B) F):¬ oneB B g:=fun e => by
 obtain ⟨es,clock,hm,_⟩:=h.2.2 B rfl;have e:g=B:=e;have h1:=h.1;unfold Blk at h1;rw [e,hm] at h1
 cases h1
set_option maxHeartbeats 2000000 in
theorem global_map (g B:Nat) (F:Glob) (p:Option Addr) (n c:Nat) (rs:RecL) (w:World) (hs:St w g (some B) F) (hn:n≤4611686018427387904) (h:RecsAt w p n rs) :
 Calls Tryz.prog 82 #[.pointer (some ⟨g,0,none⟩),.slice p n c] w (GlobPost w g (some B) F rs):=by
 have HS:=Lib.hid hs;have HR:=Lib.hid h;have HL:=Lib.hid h.1;have c0:=hs.1.cell 0;simp only [List.getElem?_toArray,List.getElem?_cons_zero] at c0;have HF:Hid (∀ wr,Kept (stB g (some B)) w wr → Kept (stB g (some B)) w wr):=Lib.hid (fun _ h => h)
 have HBB:Hid (some B=some B ∨ w.heap.size≤B):=Lib.hid (.inl rfl);clear hs h;have hem:=fun w => run_eql_map_nil (P:=Tryz.prog) w 93 _ _ (some B) Tryz.underlying93
 simp only [Option.isNone_some] at hem
 go_enter Tryz.func82,Tryz.ntmps82
 go_wp2_with fail
 clear c0 hem
 go_loopw [19] (fun i wr => ∃ (j:Nat),j≤n∧i=.int .i64 (j:Int)∧Hid (St wr g (some B) (moreF F (rs.take j))∧RecsAt wr p n rs∧Kept (stB g (some B)) w wr)) (fun i _ => n - (RowKit.intOf i).toNat)
 case atStart => exact ⟨0,Nat.zero_le _,rfl,Lib.hid ⟨by rw [List.take_zero,moreF_nil];exact HS.out,HR.out,Kept.refl _ _⟩⟩
 case round =>
  obtain ⟨j,hj,rfl,hI⟩:=hrel
  by_cases hlt:j < n
  ·obtain ⟨hst,hrs,hk⟩:=hI.out
   have hltz:(j:Int) < (n:Int):=by omega
   obtain ⟨b,o,rfl,hb,hc⟩:=hrs.2 (by omega)
   obtain ⟨x0,x1⟩:=hc j hlt;obtain ⟨⟨rk,rv⟩,hr⟩:∃ u,rs.getD j ([],[])=u:=⟨_,rfl⟩;rw [hr,Nat.mul_comm] at x0 x1;simp only at x0 x1;have hst2:=hst.below ((Below.refl _ wr).alloc (Nat.le_refl _) (.cells #[.string (str rk),.string (str rv)] 37));have hrs2:=hrs.below ((Below.refl _ wr).alloc (Nat.le_refl _) (.cells #[.string (str rk),.string (str rv)] 37));have hk2:=hk.alloc (.cells #[.string (str rk),.string (str rv)] 37);have d0:=hst2.1.cell 0;simp only [List.getElem?_toArray,List.getElem?_cons_zero] at d0;obtain ⟨r0,r1⟩:=cells2 wr 37 (.string (str rk)) (.string (str rv))
   have HI:=Lib.hid (And.intro hst2 (And.intro hrs2 hk2));have HRR:=Lib.hid hr;clear hst hrs hk hb hc hr hst2 hrs2 hk2 hI
   go_wp2_with fail
   obtain ⟨w4,hw4⟩:∃ w4,wr.alloc (.cells #[.string (str rk),.string (str rv)] 37)=w4:=⟨_,rfl⟩;rw [hw4] at d0 HI r0 r1 ⊢;clear hw4 x0 x1
   go_still_tail 7,(by kernel_rfl)
   refine wpList_putK (K:=strK) rfl (.tmp 26) (.tmp 28) (.tmp 29) rfl Tryz.underlying93 Tryz.underlying9 B ((HI.out.1.2.2 B rfl).kept (Kept.refl noneB w4).drew id) rfl rk rfl (.agg (recC rk rv)) rfl ?_
   intro w5 hm5 hk5 hs5
   have HN:Hid (St w5 g (some B) (moreF F (rs.take (j+1)))∧RecsAt w5 (some ⟨b,o,none⟩) n rs∧Kept (stB g (some B)) w w5):=by
    obtain ⟨hst,hrs,hk⟩:=HI.out;have hk':Kept (oneB B) w4 w5:=((Kept.refl (oneB B) w4).drew).trans hk5.out;refine Lib.hid ⟨⟨hst.1.keptS hk' hst.ne,(fun h => by cases h),fun B' h => ?_⟩,recsAt_kept hrs hk' (fun h0 a ha e => recs_off hst hrs h0 ha (.inr (by rw [show a.block=B from e]))),hk.then hk' (fun i hi => .inr (.inr (by rw [show i=B from hi])))⟩
    cases h
    rw [take_one rs j (by rw [HL.out];exact hlt),HRR.out,← recF_more]
    exact hm5.out
   clear hm5 hk5 hs5
   go_wp2
   go_roundw
   case rel => exact ⟨j+1,by omega,by go_num,HN⟩
   case measure => simp [RowKit.intOf];omega
  ·obtain rfl:j=n:=by omega
   have hltz:¬ ((j:Int) < (j:Int)):=by omega
   go_wp2
   go_end0
   have hI:=hI.out;rw [List.take_of_length_le (by rw [HL.out];exact Nat.le_refl _)] at hI
   exact ⟨rfl,B,hI.1,HF.out _ hI.2.2,by first | exact HBB.out | exact .inl rfl⟩
set_option maxHeartbeats 2000000 in
theorem global_none (g:Nat) (p:Option Addr) (n c:Nat) (rs:RecL) (w:World) (hs:St w g none noneF) (hn:n≤4611686018427387904) (h:RecsAt w p n rs) :
 Calls Tryz.prog 82 #[.pointer (some ⟨g,0,none⟩),.slice p n c] w (GlobPost w g none noneF rs):=by
 have c0:=hs.1.cell 0;simp only [List.getElem?_toArray,List.getElem?_cons_zero] at c0;have f0:=hs.1.frozen 0;have f1:=(hs.1.alloc (.map #[] 0)).frozen 0;have c1:=(hs.1.alloc (.map #[] 0)).cell 0;simp only [List.getElem?_toArray,List.getElem?_cons_zero] at c1;have hmm:=@run_makeMap Tryz.prog;have hem:=fun w => run_eql_map_nil (P:=Tryz.prog) w 93 _ _ none Tryz.underlying93
 simp only [Option.isNone_none] at hem;have hgl:g < w.heap.size:=hs.lt;obtain ⟨F,hF⟩:∃ F,F=noneF:=⟨_,rfl⟩;have hka:Kept (stB g none) w ((w.alloc (.map #[] 0)).setCell ⟨g,0,none⟩ (.map (some w.heap.size))):=((Kept.refl (stB g none) w).alloc _).setCell (a:=⟨g,0,none⟩) (.inr (.inl rfl)) _;have hra:=recsAt_kept h hka (fun h0 a ha => recs_off hs h h0 ha)
 have hsa:St ((w.alloc (.map #[] 0)).setCell ⟨g,0,none⟩ (.map (some w.heap.size))) g (some w.heap.size) F:=by
  refine ⟨(hs.1.alloc (.map #[] 0)).set 0 _ (by decide),(fun h => by cases h),fun B' hB => ?_⟩
  cases hB
  have hm:=(mapK_made strK w).kept (((Kept.refl (oneB g) (w.alloc (.map #[] 0)))).setCell (a:=⟨g,0,none⟩) (.inr rfl) (.map (some w.heap.size))) (fun e => by have:w.heap.size=g:=e;omega)
  rw [hF];exact hm
 have HF:Hid (∀ wr,Kept (stB g (some w.heap.size)) ((w.alloc (.map #[] 0)).setCell ⟨g,0,none⟩ (.map (some w.heap.size))) wr → Kept (stB g none) w wr):=Lib.hid (fun wr h => hka.then h (fun i hi => by
  rcases hi with hi | hi
  ·exact .inr (.inl hi)
  ·cases hi;exact .inl (Nat.le_refl _)))
 have HBB:Hid ((none:Option Nat)=some w.heap.size ∨ w.heap.size≤w.heap.size):=Lib.hid (.inr (Nat.le_refl _));have HL:=Lib.hid h.1;have HS:=Lib.hid hsa;have HR:=Lib.hid hra;rw [← hF];clear hsa hra hka h hs hgl hF
 go_enter Tryz.func82,Tryz.ntmps82
 go_wp2_with fail
 obtain ⟨W0,hW0⟩:∃ W0,(w.alloc (.map #[] 0)).setCell ⟨g,0,none⟩ (.map (some w.heap.size))=W0:=⟨_,rfl⟩;obtain ⟨B,hB⟩:∃ B,w.heap.size=B:=⟨_,rfl⟩;rw [hW0,hB] at HS HF;rw [hW0] at HR ⊢;rw [hB];clear HBB;have HBB:Hid ((none:Option Nat)=some B ∨ w.heap.size≤B):=Lib.hid (.inr (by omega))
 clear c0 f0 c1 f1 hem hmm hW0 hB
 go_loopw [19] (fun i wr => ∃ (j:Nat),j≤n∧i=.int .i64 (j:Int)∧Hid (St wr g (some B) (moreF F (rs.take j))∧RecsAt wr p n rs∧Kept (stB g (some B)) W0 wr)) (fun i _ => n - (RowKit.intOf i).toNat)
 case atStart => exact ⟨0,Nat.zero_le _,rfl,Lib.hid ⟨by rw [List.take_zero,moreF_nil];exact HS.out,HR.out,Kept.refl _ _⟩⟩
 case round =>
  obtain ⟨j,hj,rfl,hI⟩:=hrel
  by_cases hlt:j < n
  ·obtain ⟨hst,hrs,hk⟩:=hI.out
   have hltz:(j:Int) < (n:Int):=by omega
   obtain ⟨b,o,rfl,hb,hc⟩:=hrs.2 (by omega)
   obtain ⟨x0,x1⟩:=hc j hlt;obtain ⟨⟨rk,rv⟩,hr⟩:∃ u,rs.getD j ([],[])=u:=⟨_,rfl⟩;rw [hr,Nat.mul_comm] at x0 x1;simp only at x0 x1;have hst2:=hst.below ((Below.refl _ wr).alloc (Nat.le_refl _) (.cells #[.string (str rk),.string (str rv)] 37));have hrs2:=hrs.below ((Below.refl _ wr).alloc (Nat.le_refl _) (.cells #[.string (str rk),.string (str rv)] 37));have hk2:=hk.alloc (.cells #[.string (str rk),.string (str rv)] 37);have d0:=hst2.1.cell 0;simp only [List.getElem?_toArray,List.getElem?_cons_zero] at d0;obtain ⟨r0,r1⟩:=cells2 wr 37 (.string (str rk)) (.string (str rv))
   have HI:=Lib.hid (And.intro hst2 (And.intro hrs2 hk2));have HRR:=Lib.hid hr;clear hst hrs hk hb hc hr hst2 hrs2 hk2 hI
   go_wp2_with fail
   obtain ⟨w4,hw4⟩:∃ w4,wr.alloc (.cells #[.string (str rk),.string (str rv)] 37)=w4:=⟨_,rfl⟩;rw [hw4] at d0 HI r0 r1 ⊢;clear hw4 x0 x1
   go_still_tail 7,(by kernel_rfl)
   refine wpList_putK (K:=strK) rfl (.tmp 26) (.tmp 28) (.tmp 29) rfl Tryz.underlying93 Tryz.underlying9 B ((HI.out.1.2.2 B rfl).kept (Kept.refl noneB w4).drew id) rfl rk rfl (.agg (recC rk rv)) rfl ?_
   intro w5 hm5 hk5 hs5
   have HN:Hid (St w5 g (some B) (moreF F (rs.take (j+1)))∧RecsAt w5 (some ⟨b,o,none⟩) n rs∧Kept (stB g (some B)) W0 w5):=by
    obtain ⟨hst,hrs,hk⟩:=HI.out;have hk':Kept (oneB B) w4 w5:=((Kept.refl (oneB B) w4).drew).trans hk5.out;refine Lib.hid ⟨⟨hst.1.keptS hk' hst.ne,(fun h => by cases h),fun B' h => ?_⟩,recsAt_kept hrs hk' (fun h0 a ha e => recs_off hst hrs h0 ha (.inr (by rw [show a.block=B from e]))),hk.then hk' (fun i hi => .inr (.inr (by rw [show i=B from hi])))⟩
    cases h
    rw [take_one rs j (by rw [HL.out];exact hlt),HRR.out,← recF_more]
    exact hm5.out
   clear hm5 hk5 hs5
   go_wp2
   go_roundw
   case rel => exact ⟨j+1,by omega,by go_num,HN⟩
   case measure => simp [RowKit.intOf];omega
  ·obtain rfl:j=n:=by omega
   have hltz:¬ ((j:Int) < (j:Int)):=by omega
   go_wp2
   go_end0
   have hI:=hI.out;rw [List.take_of_length_le (by rw [HL.out];exact Nat.le_refl _)] at hI
   exact ⟨rfl,B,hI.1,HF.out _ hI.2.2,by first | exact HBB.out | exact .inl rfl⟩
theorem global_any (g:Nat) (mb:Option Nat) (F:Glob) (p:Option Addr) (n c:Nat) (rs:RecL) (w:World) (hs:St w g mb F) (hn:n≤4611686018427387904) (h:RecsAt w p n rs) :
 Calls Tryz.prog 82 #[.pointer (some ⟨g,0,none⟩),.slice p n c] w (GlobPost w g mb F rs):=by
 cases mb with
 | some B => exact global_map g B F p n c rs w hs hn h
 | none =>
   obtain rfl:=hs.2.1 rfl;exact global_none g p n c rs w hs hn h
end Go.Proofs.YtnpkcneojilmkaaGreatDoor.Attr
end
section
namespace Go.Proofs.YtnpkcneojilmkaaGreatDoor.Mem
open Go.ChangeShapes Go.WideShapes Go.ChangeAt Go.RowKit Base Byt Txt Bk Mk Block Attr Rec Go.Lib
set_option linter.unusedVariables false
set_option maxRecDepth 100000
structure RK where
 r:Nat
 g:Nat
 gs:Nat
 mw:Nat
 S:Sv
def waitF (s:RS) (q:Option Addr) (n c:Nat):UInt8 → Option Value:=fun k =>
 if k=120 then (if s.hasX=true then some (.agg #[.string ⟨#[]⟩,.slice q n c]) else none)
 else if k=76 then s.name.map (fun t => .agg #[.string (str t),.slice none 0 0])
 else if k=75 then s.link.map (fun t => .agg #[.string (str t),.slice none 0 0])
 else none
def readerC (K:RK) (v:Value):Array Value:=#[.pointer (some ⟨K.g,0,none⟩),.pointer (some ⟨K.gs,0,none⟩),.map (some K.mw),v]
def Ot (K:RK) (mb:Option Nat) (v:Value):Nat → Prop:=fun k => k=K.r ∨ k=K.gs ∨ k=K.mw ∨ mb=some k ∨ v.ownBlock=some k
structure Rd (w0 w:World) (K:RK) (a:Nat) (s:RS) (mb:Option Nat) (v:Value) (xs:List MP) (q:Option Addr) (n c:Nat):Prop where
 bel:Below w0.heap.size w0 w
 blk:Blk w K.r 74 (readerC K v)
 src:∃ t,Block.Src w K.g K.S a t
 off:K.S.off K.g
 st:St w K.gs mb (lastD s.glob)
 map:MapK u8K w K.mw (waitF s q n c)
 own:RecsAt w q n s.own
 own0:s.hasX=false → s.own=[]
 row:w.ownsRow w0.heap.size 26 8 v xs.length (flatM xs)
 out:xs.map MP.m=s.out
 bodies:∀ x ∈ xs,BodyAt w x
 apart:∀ x ∈ xs,0 < x.m.body.length → ∀ y,x.p=some y → ¬ Ot K mb v y.block∧y.block≠K.g
 sp:0 < K.S.n → ∀ y,K.S.p=some y → ¬ Ot K mb v y.block
 sq:0 < K.S.m → ∀ y,K.S.q=some y → ¬ Ot K mb v y.block
 ne:K.r≠K.g∧K.r≠K.gs∧K.r≠K.mw∧K.g≠K.gs∧K.g≠K.mw∧K.gs≠K.mw
 neB:∀ b,mb=some b → b≠K.r∧b≠K.g∧b≠K.gs∧b≠K.mw∧w0.heap.size≤b
 neV:∀ b,v.ownBlock=some b → b≠K.r∧b≠K.g∧b≠K.gs∧b≠K.mw∧mb≠some b
 base:w0.heap.size≤K.r∧w0.heap.size≤K.g∧w0.heap.size≤K.gs∧w0.heap.size≤K.mw
 many:s.out.length≤4096
 gl:∀ r ∈ s.glob,r.2.length≤1048576
 ol:(∀ r ∈ s.own,r.2.length≤1048576)∧s.own.length≤1048576
 nl:∀ t,s.name=some t → t.length≤1048576
 ll:∀ t,s.link=some t → t.length≤1048576
section
variable {w0 w w':World} {K:RK} {a:Nat} {s:RS} {mb:Option Nat} {v:Value} {xs:List MP} {q:Option Addr} {n c:Nat}
theorem bat_lt {p:Option Addr} {m:Nat} {bs:List UInt8} (h:BAt w p m bs) (h0:0 < m) {y:Addr} (hy:p=some y):y.block < w.heap.size:=by
 obtain ⟨b,o,he,hb,_⟩:=h.cell h0;rw [hy] at he
 cases he
 exact hb
theorem iat_lt {p:Option Addr} {m:Nat} {zs:List Int} (h:IAt w p m zs) (h0:0 < m) {y:Addr} (hy:p=some y):y.block < w.heap.size:=by
 obtain ⟨b,o,he,hb,hc⟩:=h h0;rw [hy] at he
 cases he
 exact hb
theorem recs_off_blk {b:Nat} {t:TypeId} {cs:Array Value} (hb:Blk w b t cs) (hs:∀ (i:Nat) (x:ByteArray),cs[i]? ≠ some (.string x)) {p:Option Addr} {m:Nat} {rs:RecL} (hr:RecsAt w p m rs) (h0:0 < m) {y:Addr} (hy:p=some y):y.block≠b:=by
 obtain ⟨b',o,rfl,hlt,hc⟩:=hr.2 h0
 cases hy
 rintro rfl;have c0:=(hc 0 h0).1;rw [hb.cell] at c0;exact hs _ _ c0
theorem recs_off_map {b:Nat} {α:Type} {Ky:Keying α} {f:α → Option Value} (hm:MapK Ky w b f) {p:Option Addr} {m:Nat} {rs:RecL} (hr:RecsAt w p m rs) (h0:0 < m) {y:Addr} (hy:p=some y):y.block≠b:=by
 obtain ⟨b',o,rfl,hlt,hc⟩:=hr.2 h0
 cases hy
 rintro rfl;obtain ⟨es,clock,hm,_⟩:=hm;have c0:=(hc 0 h0).1;simp [World.cell?,hm] at c0
theorem Rd.own_off_src (h:Rd w0 w K a s mb v xs q n c):0 < n → ∀ y,q=some y → ¬ oneB K.g y.block:=fun h0 y hy e => by
 obtain ⟨t,hs⟩:=h.src;refine recs_off_blk (show Blk w K.g 99 _ from hs.blk) ?_ h.own h0 hy e
 intro i x hx;rcases i with _ | _ | _ | _ | i<;>simp at hx
theorem Rd.own_off_st (h:Rd w0 w K a s mb v xs q n c):0 < n → ∀ y,q=some y → ¬ stB K.gs mb y.block:=fun h0 y hy e => recs_off h.st h.own h0 hy e
theorem Rd.need (h:Rd w0 w K a s mb v xs q n c) (hN:Need w0):Need w:=hN.below h.bel
theorem Rd.idle (h:Rd w0 w K a s mb v xs q n c) (hk:Kept noneB w w'):Rd w0 w' K a s mb v xs q n c where
 bel:=h.bel.trans (hk.below h.bel.size (fun k hk => hk.elim))
 blk:=h.blk.keptS hk id
 src:=by obtain ⟨t,hs⟩:=h.src;exact ⟨t,hs.kept0 hk⟩
 off:=h.off
 st:=h.st.kept hk (fun _ _ => id)
 map:=h.map.kept hk id
 own:=recsAt_kept h.own hk (fun _ _ _ => id)
 own0:=h.own0
 row:=ownsRow_kept h.row hk (fun _ _ => id)
 out:=h.out
 bodies:=fun x hx => (h.bodies x hx).kept hk (fun _ _ _ => id)
 apart:=h.apart
 sp:=h.sp
 sq:=h.sq
 ne:=h.ne
 neB:=h.neB
 neV:=h.neV
 base:=h.base
 many:=h.many
 gl:=h.gl
 ol:=h.ol
 nl:=h.nl
 ll:=h.ll
theorem Rd.below (h:Rd w0 w K a s mb v xs q n c) (hb:Below w.heap.size w w'):Rd w0 w' K a s mb v xs q n c:=h.idle (Kept.of_below hb noneB)
theorem Rd.moved (h:Rd w0 w K a s mb v xs q n c) {a':Nat} (hk:Kept (oneB K.g) w w') (hs:∃ t,Block.Src w' K.g K.S a' t):Rd w0 w' K a' s mb v xs q n c where
 bel:=h.bel.trans (hk.below h.bel.size (fun k hk => by rw [show k=K.g from hk];exact h.base.2.1))
 blk:=h.blk.keptS hk h.ne.1
 src:=hs
 off:=h.off
 st:=h.st.kept hk (fun k hk e => by
  rcases hk with rfl | hk
  ·exact h.ne.2.2.2.1 (show K.gs=K.g from e).symm
  ·exact (h.neB k hk).2.1 e)
 map:=h.map.kept hk (fun e => h.ne.2.2.2.2.1 (show K.mw=K.g from e).symm)
 own:=recsAt_kept h.own hk h.own_off_src
 own0:=h.own0
 row:=ownsRow_kept h.row hk (fun k hk e => (h.neV k hk).2.1 e)
 out:=h.out
 bodies:=fun x hx => (h.bodies x hx).kept hk (fun h0 y hy e => (h.apart x hx h0 y hy).2 e)
 apart:=h.apart
 sp:=h.sp
 sq:=h.sq
 ne:=h.ne
 neB:=h.neB
 neV:=h.neV
 base:=h.base
 many:=h.many
 gl:=h.gl
 ol:=h.ol
 nl:=h.nl
 ll:=h.ll
theorem Rd.waits (h:Rd w0 w K a s mb v xs q n c) {s':RS} {q':Option Addr} {n' c':Nat} (hk:Kept (oneB K.mw) w w') (hm:MapK u8K w' K.mw (waitF s' q' n' c')) (ho:RecsAt w q' n' s'.own)
 (h1:s'.out=s.out) (h2:s'.glob=s.glob) (h3:s'.hasX=false → s'.own=[]) (h4:(∀ r ∈ s'.own,r.2.length≤1048576)∧s'.own.length≤1048576)
 (h5:∀ t,s'.name=some t → t.length≤1048576) (h6:∀ t,s'.link=some t → t.length≤1048576):Rd w0 w' K a s' mb v xs q' n' c' where
 bel:=h.bel.trans (hk.below h.bel.size (fun k hk => by rw [show k=K.mw from hk];exact h.base.2.2.2))
 blk:=h.blk.keptS hk h.ne.2.2.1
 src:=by
  obtain ⟨t,hs⟩:=h.src;exact ⟨t,hs.kept hk h.ne.2.2.2.2.1 (fun h0 y hy e => h.sp h0 y hy (.inr (.inr (.inl e)))) (fun h0 y hy e => h.sq h0 y hy (.inr (.inr (.inl e))))⟩
 off:=h.off
 st:=by
  rw [h2];refine h.st.kept hk (fun k hk e => ?_)
  rcases hk with rfl | hk
  ·exact h.ne.2.2.2.2.2 e
  ·exact (h.neB k hk).2.2.2.1 e
 map:=hm
 own:=recsAt_kept ho hk (fun h0 y hy e => recs_off_map h.map ho h0 hy e)
 own0:=h3
 row:=ownsRow_kept h.row hk (fun k hk e => (h.neV k hk).2.2.2.1 e)
 out:=by rw [h1];exact h.out
 bodies:=fun x hx => (h.bodies x hx).kept hk (fun h0 y hy e => (h.apart x hx h0 y hy).1 (.inr (.inr (.inl e))))
 apart:=h.apart
 sp:=h.sp
 sq:=h.sq
 ne:=h.ne
 neB:=h.neB
 neV:=h.neV
 base:=h.base
 many:=by rw [h1];exact h.many
 gl:=by rw [h2];exact h.gl
 ol:=h4
 nl:=h5
 ll:=h6
theorem Rd.globs (h:Rd w0 w K a s mb v xs q n c) {rs:RecL} {B:Nat} (hst:St w' K.gs (some B) (moreF (lastD s.glob) rs)) (hk:Kept (stB K.gs mb) w w') (hB:mb=some B ∨ w.heap.size≤B) (hl:∀ r ∈ rs,r.2.length≤1048576) :
 Rd w0 w' K a { s with glob:=s.glob++rs } (some B) v xs q n c:=by
 have hsz:=h.bel.size
 have oth:∀ k,k < w.heap.size → ¬ Ot K mb v k → ¬ Ot K (some B) v k:=fun k hlt hn e => by
  rcases e with e | e | e | e | e
  ·exact hn (.inl e)
  ·exact hn (.inr (.inl e))
  ·exact hn (.inr (.inr (.inl e)))
  ·rcases hB with hB | hB
   ·exact hn (.inr (.inr (.inr (.inl (hB.trans e)))))
   ·cases e;omega
  ·exact hn (.inr (.inr (.inr (.inr e))))
 have fromOt:∀ k,stB K.gs mb k → Ot K mb v k:=fun k hk => by
  rcases hk with rfl | hk
  ·exact .inr (.inl rfl)
  ·exact .inr (.inr (.inr (.inl hk)))
 obtain ⟨t,hs⟩:=h.src
 have hbt:∀ k,stB K.gs mb k → w0.heap.size≤k:=fun k hk => by
  rcases hk with rfl | hk
  ·exact h.base.2.2.1
  ·exact (h.neB k hk).2.2.2.2
 have hr:¬ stB K.gs mb K.r:=fun e => by
  rcases e with e | e
  ·exact h.ne.2.1 e
  ·exact (h.neB _ e).1 rfl
 have hg:¬ stB K.gs mb K.g:=fun e => by
  rcases e with e | e
  ·exact h.ne.2.2.2.1 e
  ·exact (h.neB _ e).2.1 rfl
 have hmw:¬ stB K.gs mb K.mw:=fun e => by
  rcases e with e | e
  ·exact h.ne.2.2.2.2.2 e.symm
  ·exact (h.neB _ e).2.2.2.1 rfl
 have hv:∀ k,v.ownBlock=some k → ¬ stB K.gs mb k:=fun k hk e => by
  rcases e with e | e
  ·exact (h.neV k hk).2.2.1 e
  ·exact (h.neV k hk).2.2.2.2 e
 exact {
  bel:=h.bel.trans (hk.below h.bel.size hbt)
  blk:=h.blk.keptS hk hr
  src:=⟨t,hs.kept hk hg (fun h0 y hy e => h.sp h0 y hy (fromOt _ e)) (fun h0 y hy e => h.sq h0 y hy (fromOt _ e))⟩
  off:=h.off
  st:=by rw [← lastD_more];exact hst
  map:=h.map.kept hk hmw
  own:=recsAt_kept h.own hk h.own_off_st
  own0:=h.own0
  row:=ownsRow_kept h.row hk hv
  out:=h.out
  bodies:=fun x hx => (h.bodies x hx).kept hk (fun h0 y hy e => (h.apart x hx h0 y hy).1 (fromOt _ e))
  apart:=fun x hx h0 y hy => ⟨oth _ (bat_lt (h.bodies x hx).bat h0 hy) (h.apart x hx h0 y hy).1,(h.apart x hx h0 y hy).2⟩
  sp:=fun h0 y hy => oth _ (bat_lt hs.bat h0 hy) (h.sp h0 y hy)
  sq:=fun h0 y hy => oth _ (iat_lt hs.iat h0 hy) (h.sq h0 y hy)
  ne:=h.ne
  neB:=fun b hb => by
   cases hb
   rcases hB with hB | hB
   ·exact h.neB B hB
   ·have h1:=h.blk.lt
    have h2:=hs.lt;have h3:=h.st.lt;have h4:=h.map.lt;exact ⟨by omega,by omega,by omega,by omega,by omega⟩
  neV:=fun b hb => by
   obtain ⟨h1,h2,h3,h4,h5⟩:=h.neV b hb;have hlt:=(h.row.lt b hb).2;refine ⟨h1,h2,h3,h4,fun e => ?_⟩
   rcases hB with hB | hB
   ·exact h5 (hB.trans e)
   ·cases e;omega
  base:=h.base
  many:=h.many
  gl:=fun r hr => by
   rcases List.mem_append.1 hr with hr | hr
   ·exact h.gl r hr
   ·exact hl r hr
  ol:=h.ol
  nl:=h.nl
  ll:=h.ll }
theorem Rd.map_added (h:Rd w0 w K a s mb v xs q n c) {v':Value} (hg:w.grownBy w' v.ownBlock):MapK u8K (w'.setCell ⟨K.r,3,none⟩ v') K.mw (waitF s q n c):=
 (h.map.kept ((Kept.refl _ w).grown hg (fun k hk => .inr hk):Kept (fun k => v.ownBlock=some k) w w') (fun e => (h.neV _ e).2.2.2.1 rfl)).kept ((Kept.refl (oneB K.r) w').setCell (a:=⟨K.r,3,none⟩) (.inr rfl) v') h.ne.2.2.1.symm
theorem Rd.added (h:Rd w0 w K a s mb v xs q n c) {v':Value} {y:MP} (hrow:w'.ownsRow w0.heap.size 26 8 v' (xs++[y]).length (flatM (xs++[y]))) (hg:w.grownBy w' v.ownBlock) (hnew:NewOr w v v')
 (hy:BodyAt w y) (hya:0 < y.m.body.length → ∀ z,y.p=some z → ¬ Ot K mb v z.block∧z.block≠K.g) (hm:s.out.length < 4096) {w2:World}
 (hmap:MapK u8K w2 K.mw (fun _ => none)) (hk3:Kept (oneB K.mw) (w'.setCell ⟨K.r,3,none⟩ v') w2) :
 Rd w0 w2 K a { s with out:=s.out++[y.m],own:=[],name:=none,link:=none,hasX:=false } mb v' (xs++[y]) none 0 0:=by
 have hk1:Kept (fun k => v.ownBlock=some k) w w':=(Kept.refl _ w).grown hg (fun k hk => .inr hk)
 have hk2:Kept (oneB K.r) w' (w'.setCell ⟨K.r,3,none⟩ v'):=(Kept.refl (oneB K.r) w').setCell (a:=⟨K.r,3,none⟩) (.inr rfl) v';have hk23:Kept (fun k => k=K.r ∨ k=K.mw) w' w2:=(hk2.mono (fun k hk => .inl hk)).trans (hk3.mono (fun k hk => .inr hk))
 have hk:Kept (fun k => v.ownBlock=some k ∨ k=K.r ∨ k=K.mw) w w2:=(hk1.mono (fun k hk => .inl hk)).trans (hk23.mono (fun k hk => .inr hk))
 have hvne:∀ k,v'.ownBlock=some k → (v.ownBlock=some k ∨ w.heap.size≤k):=hnew
 have fromT:∀ k,(v.ownBlock=some k ∨ k=K.r ∨ k=K.mw) → Ot K mb v k:=fun k hk => by
  rcases hk with hk | rfl | rfl
  ·exact .inr (.inr (.inr (.inr hk)))
  ·exact .inl rfl
  ·exact .inr (.inr (.inl rfl))
 have oth:∀ k,k < w.heap.size → ¬ Ot K mb v k → ¬ Ot K mb v' k:=fun k hlt hn e => by
  rcases e with e | e | e | e | e
  ·exact hn (.inl e)
  ·exact hn (.inr (.inl e))
  ·exact hn (.inr (.inr (.inl e)))
  ·exact hn (.inr (.inr (.inr (.inl e))))
  ·rcases hvne k e with e' | e'
   ·exact hn (.inr (.inr (.inr (.inr e'))))
   ·omega
 obtain ⟨t,hs⟩:=h.src;have h1:=h.blk.lt;have h2:=hs.lt;have h3:=h.st.lt;have h4:=h.map.lt
 have nv':∀ b,v'.ownBlock=some b → b≠K.r∧b≠K.g∧b≠K.gs∧b≠K.mw∧mb≠some b:=fun b hb => by
  rcases hvne b hb with e | e
  ·exact h.neV b e
  ·exact ⟨by omega,by omega,by omega,by omega,fun hm => by have:=h.st.ltB hm;omega⟩
 have nT:∀ k,k≠K.r → k≠K.mw → (∀ b,v.ownBlock=some b → k≠b) → ¬ (v.ownBlock=some k ∨ k=K.r ∨ k=K.mw):=fun k hr hw hn e => by
  rcases e with e | e | e
  ·exact hn k e rfl
  ·exact hr e
  ·exact hw e
 exact {
  bel:=h.bel.trans (hk.below h.bel.size (fun k hk => by
   rcases hk with hk | rfl | rfl
   ·exact (h.row.lt k hk).1
   ·exact h.base.1
   ·exact h.base.2.2.2))
  blk:=((h.blk.keptS hk1 (fun e => (h.neV _ e).1 rfl)).set 3 v' (by decide:3 < 4)).keptS hk3 h.ne.2.2.1
  src:=⟨t,hs.kept hk (nT _ h.ne.1.symm h.ne.2.2.2.2.1 (fun b hb e => (h.neV b hb).2.1 e.symm)) (fun h0 y hy e => h.sp h0 y hy (fromT _ e)) (fun h0 y hy e => h.sq h0 y hy (fromT _ e))⟩
  off:=h.off
  st:=h.st.kept hk (fun k hk => by
   rcases hk with rfl | hk
   ·exact nT _ h.ne.2.1.symm h.ne.2.2.2.2.2 (fun b hb e => (h.neV b hb).2.2.1 e.symm)
   ·exact nT _ (h.neB k hk).1 (h.neB k hk).2.2.2.1 (fun b hb e => (h.neV b hb).2.2.2.2 (by rw [← e];exact hk)))
  map:=by
   have:waitF { s with out:=s.out++[y.m],own:=[],name:=none,link:=none,hasX:=false } none 0 0=fun _ => none:=by
    funext k
    unfold waitF;simp
   rw [this];exact hmap
  own:=⟨rfl,fun h => by omega⟩
  own0:=fun _ => rfl
  row:=ownsRow_kept hrow hk23 (fun k hk e => by
   rcases e with e | e
   ·exact (nv' k hk).1 e
   ·exact (nv' k hk).2.2.2.1 e)
  out:=by rw [List.map_append,h.out];rfl
  bodies:=fun x hx => by
   rcases List.mem_append.1 hx with hx | hx
   ·exact (h.bodies x hx).kept hk (fun h0 y hy e => (h.apart x hx h0 y hy).1 (fromT _ e))
   ·rw [List.mem_singleton] at hx
    subst hx;exact hy.kept hk (fun h0 z hz e => (hya h0 z hz).1 (fromT _ e))
  apart:=fun x hx h0 z hz => by
   rcases List.mem_append.1 hx with hx | hx
   ·exact ⟨oth _ (bat_lt (h.bodies x hx).bat h0 hz) (h.apart x hx h0 z hz).1,(h.apart x hx h0 z hz).2⟩
   ·rw [List.mem_singleton] at hx
    subst hx;exact ⟨oth _ (bat_lt hy.bat h0 hz) (hya h0 z hz).1,(hya h0 z hz).2⟩
  sp:=fun h0 y hy => oth _ (bat_lt hs.bat h0 hy) (h.sp h0 y hy)
  sq:=fun h0 y hy => oth _ (iat_lt hs.iat h0 hy) (h.sq h0 y hy)
  ne:=h.ne
  neB:=h.neB
  neV:=nv'
  base:=h.base
  many:=by show (s.out++[y.m]).length≤4096;rw [List.length_append,List.length_singleton];omega
  gl:=h.gl
  ol:=⟨fun r hr => by simp at hr,by simp⟩
  nl:=fun t ht => by cases ht
  ll:=fun t ht => by cases ht }
end
end Go.Proofs.YtnpkcneojilmkaaGreatDoor.Mem
end
section
namespace Go.Proofs.YtnpkcneojilmkaaGreatDoor.Attr
open Go.ChangeShapes Go.WideShapes Go.ChangeAt Go.RowKit Go.Shelf Base Byt Txt Rec Bk Hp Head Go.Lib
set_option linter.unusedVariables false
set_option maxRecDepth 100000
theorem ret_headB {fn:Func} (hf:fn.results=#[.cell 6 41,.tmp 7]) (tmps:Array Value) (w:World) (g:Nat) (v:Value) (ht:tmps.getD 6 undef=.pointer (some ⟨g,0,none⟩)) (hv:tmps.getD 7 undef=v)
 (h:HeadV) (hb:Blk w g 41 (headC h)):(results fn tmps).run Tryz.prog w=.ok (.tuple #[.agg (headC h),v]) w:=by
 rw [results_cell_tmp hf,ht,hv];have hl:=load_head w g _ _ _ _ _ _ _ _ _ hb;simp only [asAddr,Sem.run_pure,hl,Result.andThen];rfl
theorem blk9 {w:World} {g:Nat} {h:HeadV} (hb:Blk w g 41 (headC h)) (a0 a1 a2 a3 a4 a5 a6 a7 a8:Value) :
 Blk (((((((((w.setCell ⟨g,0,none⟩ a0).setCell ⟨g,1,none⟩ a1).setCell ⟨g,2,none⟩ a2).setCell ⟨g,3,none⟩ a3).setCell ⟨g,4,none⟩ a4).setCell ⟨g,5,none⟩ a5).setCell ⟨g,6,none⟩ a6).setCell ⟨g,7,none⟩ a7).setCell ⟨g,8,none⟩ a8) g 41 #[a0,a1,a2,a3,a4,a5,a6,a7,a8]:=
 ((((((((hb.set 0 a0 (by show 0 < 9;decide)).set 1 a1 (by show 1 < 9;decide)).set 2 a2 (by show 2 < 9;decide)).set 3 a3 (by show 3 < 9;decide)).set 4 a4 (by show 4 < 9;decide)).set 5 a5 (by show 5 < 9;decide)).set 6 a6 (by show 6 < 9;decide)).set 7 a7 (by show 7 < 9;decide)).set 8 a8 (by show 8 < 9;decide)
theorem below9 {w w':World} {g:Nat} (hk:Below w.heap.size w w') (hg:w.heap.size≤g) (a0 a1 a2 a3 a4 a5 a6 a7 a8:Value) :
 Below w.heap.size w (((((((((w'.setCell ⟨g,0,none⟩ a0).setCell ⟨g,1,none⟩ a1).setCell ⟨g,2,none⟩ a2).setCell ⟨g,3,none⟩ a3).setCell ⟨g,4,none⟩ a4).setCell ⟨g,5,none⟩ a5).setCell ⟨g,6,none⟩ a6).setCell ⟨g,7,none⟩ a7).setCell ⟨g,8,none⟩ a8):=
 (((((((((hk.setCell (p:=⟨g,0,none⟩) hg a0).setCell (p:=⟨g,1,none⟩) hg a1).setCell (p:=⟨g,2,none⟩) hg a2).setCell (p:=⟨g,3,none⟩) hg a3).setCell (p:=⟨g,4,none⟩) hg a4).setCell (p:=⟨g,5,none⟩) hg a5).setCell (p:=⟨g,6,none⟩) hg a6).setCell (p:=⟨g,7,none⟩) hg a7).setCell (p:=⟨g,8,none⟩) hg a8)
def Mid (w wi:World) (h:HeadV):Prop:=Below w.heap.size w wi∧Blk wi w.heap.size 41 (headC h)∧Blk wi (w.heap.size+1) 41 (headC zeroH)
theorem Mid.below {w wi wj:World} {h:HeadV} (hm:Mid w wi h) (hb:Below wi.heap.size wi wj):Mid w wj h:=
 ⟨hm.1.trans (hb.mono hm.1.size),hm.2.1.below hb hm.2.1.lt,hm.2.2.below hb hm.2.2.lt⟩
theorem Mid.put {w wi wj:World} {h h':HeadV} (hm:Mid w wi h) (hk:Kept (oneB w.heap.size) wi wj) (hb:Blk wj w.heap.size 41 (headC h')):Mid w wj h':=
 ⟨hm.1.trans (hk.below hm.1.size (fun k hk => by have:k=w.heap.size:=hk;omega)),hb,hm.2.2.keptS hk (fun e => by have:w.heap.size+1=w.heap.size:=e;omega)⟩
set_option maxHeartbeats 4000000 in
theorem apply_any (s:Option Addr) (F:Glob) (h:HeadV) (p:Option Addr) (n c:Nat) (rs:RecL) (w:World) (hs:StP w s F) (hn:n≤4611686018427387904) (hr:RecsAt w p n rs)
 (hl:∀ i,i < 6 → (valueD F rs (keyT i)).length≤140737488351232) :
 Calls Tryz.prog 83 #[.pointer s,.agg (headC h),.slice p n c] w fun e w' => e=.returned (headA (applyD F rs h))∧Below w.heap.size w w':=by
 obtain ⟨V,hV⟩:∃ V:Nat → List UInt8,V=fun i => valueD F rs (keyT i):=⟨_,rfl⟩
 have CV:Hid (∀ (i:Nat) (wi:World),Below w.heap.size w wi → Calls Tryz.prog 111 #[.pointer s,.string (str (keyT i)),.slice p n c] wi fun e w' => e=.returned (.string (str (V i)))∧Below wi.heap.size wi w'):=
  Lib.hid (fun i wi hb => by rw [hV];exact value_any s F (keyT i) p n c rs wi (hs.below hb) hn (hr.below hb))
 have HL:Hid (∀ i,i < 6 → (V i).length≤140737488351232):=Lib.hid (by rw [hV];exact hl)
 rw [show applyD F rs h=applyV V h by rw [hV];rfl]
 clear hl hs hr hn hV;obtain ⟨U,hU⟩:∃ U:HeadV × Int,applyV V h=U:=⟨_,rfl⟩;rw [hU];have HU:=Lib.hid hU;clear hU;simp only [headC];obtain ⟨o0,ho0⟩:∃ o,numD1 false (V 0) h.uid=o:=⟨_,rfl⟩
 cases o0 with
 | none =>
   have N0:=Lib.hid ho0;clear ho0
   go_enter Tryz.func83,Tryz.ntmps83
   go_wp2_with fail
   have HM0:Hid (Mid w ((w.alloc (.cells (headC h) 41)).alloc (.cells (headC zeroH) 41)) h):=by
    have b1:=Blk.new (w.alloc (.cells (headC h) 41)) 41 (headC zeroH);rw [World.size_alloc] at b1;exact Lib.hid ⟨((Below.refl _ w).alloc (Nat.le_refl _) _).alloc (by simp) _,(Blk.new w 41 (headC h)).alloc _,b1⟩
   refine (CV.out 4 _ HM0.out.1).mono ?_
   rintro e w1 ⟨rfl,hb⟩;have HM1:=Lib.hid (HM0.out.below hb);clear hb HM0
   go_wp2_with fail
   refine (changeText_any (V 4) _ 0 _ (headC h) h.name w1 HM1.out.2.1 (by show 0 < 9;decide) rfl).mono ?_
   rintro e w2 ⟨rfl,hb,hk⟩;have HM2:=Lib.hid (HM1.out.put (h':={ h with name:=textD1 (V 4) h.name }) hk hb)
   clear hb hk HM1
   go_wp2_with fail
   refine (CV.out 5 _ HM2.out.1).mono ?_
   rintro e w3 ⟨rfl,hb⟩;have HM3:=Lib.hid (HM2.out.below hb);clear hb HM2
   go_wp2_with fail
   refine (changeText_any (V 5) _ 1 _ _ h.link w3 HM3.out.2.1 (by show 1 < 9;decide) rfl).mono ?_
   rintro e w4 ⟨rfl,hb,hk⟩;have HM4:=Lib.hid (HM3.out.put (h':={ h with name:=textD1 (V 4) h.name,link:=textD1 (V 5) h.link }) hk hb)
   clear hb hk HM3
   go_wp2_with fail
   refine (CV.out 0 _ HM4.out.1).mono ?_
   rintro e w5 ⟨rfl,hb⟩;have HM5:=Lib.hid (HM4.out.below hb);clear hb HM4
   go_wp2_with fail
   refine (changeNumber_any false (V 0) (HL.out 0 (by omega)) _ 4 _ _ h.uid w5 HM5.out.2.1 (by show 4 < 9;decide) rfl).mono ?_
   rw [N0.out];rintro e w6 ⟨rfl,hb,hk⟩;have HM6:=Lib.hid (HM5.out.put (h':={ h with name:=textD1 (V 4) h.name,link:=textD1 (V 5) h.link,uid:=0 }) hk hb)
   clear hb hk HM5;have b2:=HM6.out.2.2;have r0:=b2.cell 0;have r1:=b2.cell 1;have r2:=b2.cell 2;have r3:=b2.cell 3;have r4:=b2.cell 4;have r5:=b2.cell 5;have r6:=b2.cell 6;have r7:=b2.cell 7;have r8:=b2.cell 8;have f0:=b2.frozen 0;have f1:=b2.frozen 1;have f2:=b2.frozen 2;have f3:=b2.frozen 3;have f4:=b2.frozen 4;have f5:=b2.frozen 5;have f6:=b2.frozen 6;have f7:=b2.frozen 7;have f8:=b2.frozen 8;simp only [headC,zeroH,List.getElem?_toArray,List.getElem?_cons_zero,List.getElem?_cons_succ] at r0 r1 r2 r3 r4 r5 r6 r7 r8;clear b2;have E:Hid (U=(zeroH,4)):=Lib.hid (by rw [← HU.out];unfold applyV;simp only [N0.out])
   go_wp2
   refine bodyPost_ret (ret_headB rfl _ _ (w.heap.size+1) _ rfl rfl zeroH (blk9 HM6.out.2.2 _ _ _ _ _ _ _ _ _)) rfl ?_
   exact ⟨by rw [E.out];rfl,below9 HM6.out.1 (by omega) _ _ _ _ _ _ _ _ _⟩
 | some u =>
   have N0:=Lib.hid ho0;clear ho0;obtain ⟨o1,ho1⟩:∃ o,numD1 false (V 1) h.gid=o:=⟨_,rfl⟩
   cases o1 with
   | none =>
     have N1:=Lib.hid ho1;clear ho1
     go_enter Tryz.func83,Tryz.ntmps83
     go_wp2_with fail
     have HM0:Hid (Mid w ((w.alloc (.cells (headC h) 41)).alloc (.cells (headC zeroH) 41)) h):=by
      have b1:=Blk.new (w.alloc (.cells (headC h) 41)) 41 (headC zeroH);rw [World.size_alloc] at b1;exact Lib.hid ⟨((Below.refl _ w).alloc (Nat.le_refl _) _).alloc (by simp) _,(Blk.new w 41 (headC h)).alloc _,b1⟩
     refine (CV.out 4 _ HM0.out.1).mono ?_
     rintro e w1 ⟨rfl,hb⟩;have HM1:=Lib.hid (HM0.out.below hb);clear hb HM0
     go_wp2_with fail
     refine (changeText_any (V 4) _ 0 _ (headC h) h.name w1 HM1.out.2.1 (by show 0 < 9;decide) rfl).mono ?_
     rintro e w2 ⟨rfl,hb,hk⟩;have HM2:=Lib.hid (HM1.out.put (h':={ h with name:=textD1 (V 4) h.name }) hk hb)
     clear hb hk HM1
     go_wp2_with fail
     refine (CV.out 5 _ HM2.out.1).mono ?_
     rintro e w3 ⟨rfl,hb⟩;have HM3:=Lib.hid (HM2.out.below hb);clear hb HM2
     go_wp2_with fail
     refine (changeText_any (V 5) _ 1 _ _ h.link w3 HM3.out.2.1 (by show 1 < 9;decide) rfl).mono ?_
     rintro e w4 ⟨rfl,hb,hk⟩;have HM4:=Lib.hid (HM3.out.put (h':={ h with name:=textD1 (V 4) h.name,link:=textD1 (V 5) h.link }) hk hb)
     clear hb hk HM3
     go_wp2_with fail
     refine (CV.out 0 _ HM4.out.1).mono ?_
     rintro e w5 ⟨rfl,hb⟩;have HM5:=Lib.hid (HM4.out.below hb);clear hb HM4
     go_wp2_with fail
     refine (changeNumber_any false (V 0) (HL.out 0 (by omega)) _ 4 _ _ h.uid w5 HM5.out.2.1 (by show 4 < 9;decide) rfl).mono ?_
     rw [N0.out];rintro e w6 ⟨rfl,hb,hk⟩;have HM6:=Lib.hid (HM5.out.put (h':={ h with name:=textD1 (V 4) h.name,link:=textD1 (V 5) h.link,uid:=u }) hk hb)
     clear hb hk HM5
     go_wp2_with fail
     refine (CV.out 1 _ HM6.out.1).mono ?_
     rintro e w7 ⟨rfl,hb⟩;have HM7:=Lib.hid (HM6.out.below hb);clear hb HM6
     go_wp2_with fail
     refine (changeNumber_any false (V 1) (HL.out 1 (by omega)) _ 5 _ _ h.gid w7 HM7.out.2.1 (by show 5 < 9;decide) rfl).mono ?_
     rw [N1.out];rintro e w8 ⟨rfl,hb,hk⟩;have HM8:=Lib.hid (HM7.out.put (h':={ h with name:=textD1 (V 4) h.name,link:=textD1 (V 5) h.link,uid:=u,gid:=0 }) hk hb)
     clear hb hk HM7;have b2:=HM8.out.2.2;have r0:=b2.cell 0;have r1:=b2.cell 1;have r2:=b2.cell 2;have r3:=b2.cell 3;have r4:=b2.cell 4;have r5:=b2.cell 5;have r6:=b2.cell 6;have r7:=b2.cell 7;have r8:=b2.cell 8;have f0:=b2.frozen 0;have f1:=b2.frozen 1;have f2:=b2.frozen 2;have f3:=b2.frozen 3;have f4:=b2.frozen 4;have f5:=b2.frozen 5;have f6:=b2.frozen 6;have f7:=b2.frozen 7;have f8:=b2.frozen 8;simp only [headC,zeroH,List.getElem?_toArray,List.getElem?_cons_zero,List.getElem?_cons_succ] at r0 r1 r2 r3 r4 r5 r6 r7 r8;clear b2;have E:Hid (U=(zeroH,4)):=Lib.hid (by rw [← HU.out];unfold applyV;simp only [N0.out,N1.out])
     go_wp2
     refine bodyPost_ret (ret_headB rfl _ _ (w.heap.size+1) _ rfl rfl zeroH (blk9 HM8.out.2.2 _ _ _ _ _ _ _ _ _)) rfl ?_
     exact ⟨by rw [E.out];rfl,below9 HM8.out.1 (by omega) _ _ _ _ _ _ _ _ _⟩
   | some g =>
     have N1:=Lib.hid ho1;clear ho1;obtain ⟨o2,ho2⟩:∃ o,numD1 true (V 2) h.time=o:=⟨_,rfl⟩
     cases o2 with
     | none =>
       have N2:=Lib.hid ho2;clear ho2
       go_enter Tryz.func83,Tryz.ntmps83
       go_wp2_with fail
       have HM0:Hid (Mid w ((w.alloc (.cells (headC h) 41)).alloc (.cells (headC zeroH) 41)) h):=by
        have b1:=Blk.new (w.alloc (.cells (headC h) 41)) 41 (headC zeroH);rw [World.size_alloc] at b1;exact Lib.hid ⟨((Below.refl _ w).alloc (Nat.le_refl _) _).alloc (by simp) _,(Blk.new w 41 (headC h)).alloc _,b1⟩
       refine (CV.out 4 _ HM0.out.1).mono ?_
       rintro e w1 ⟨rfl,hb⟩;have HM1:=Lib.hid (HM0.out.below hb);clear hb HM0
       go_wp2_with fail
       refine (changeText_any (V 4) _ 0 _ (headC h) h.name w1 HM1.out.2.1 (by show 0 < 9;decide) rfl).mono ?_
       rintro e w2 ⟨rfl,hb,hk⟩;have HM2:=Lib.hid (HM1.out.put (h':={ h with name:=textD1 (V 4) h.name }) hk hb)
       clear hb hk HM1
       go_wp2_with fail
       refine (CV.out 5 _ HM2.out.1).mono ?_
       rintro e w3 ⟨rfl,hb⟩;have HM3:=Lib.hid (HM2.out.below hb);clear hb HM2
       go_wp2_with fail
       refine (changeText_any (V 5) _ 1 _ _ h.link w3 HM3.out.2.1 (by show 1 < 9;decide) rfl).mono ?_
       rintro e w4 ⟨rfl,hb,hk⟩;have HM4:=Lib.hid (HM3.out.put (h':={ h with name:=textD1 (V 4) h.name,link:=textD1 (V 5) h.link }) hk hb)
       clear hb hk HM3
       go_wp2_with fail
       refine (CV.out 0 _ HM4.out.1).mono ?_
       rintro e w5 ⟨rfl,hb⟩;have HM5:=Lib.hid (HM4.out.below hb);clear hb HM4
       go_wp2_with fail
       refine (changeNumber_any false (V 0) (HL.out 0 (by omega)) _ 4 _ _ h.uid w5 HM5.out.2.1 (by show 4 < 9;decide) rfl).mono ?_
       rw [N0.out];rintro e w6 ⟨rfl,hb,hk⟩;have HM6:=Lib.hid (HM5.out.put (h':={ h with name:=textD1 (V 4) h.name,link:=textD1 (V 5) h.link,uid:=u }) hk hb)
       clear hb hk HM5
       go_wp2_with fail
       refine (CV.out 1 _ HM6.out.1).mono ?_
       rintro e w7 ⟨rfl,hb⟩;have HM7:=Lib.hid (HM6.out.below hb);clear hb HM6
       go_wp2_with fail
       refine (changeNumber_any false (V 1) (HL.out 1 (by omega)) _ 5 _ _ h.gid w7 HM7.out.2.1 (by show 5 < 9;decide) rfl).mono ?_
       rw [N1.out];rintro e w8 ⟨rfl,hb,hk⟩;have HM8:=Lib.hid (HM7.out.put (h':={ h with name:=textD1 (V 4) h.name,link:=textD1 (V 5) h.link,uid:=u,gid:=g }) hk hb)
       clear hb hk HM7
       go_wp2_with fail
       refine (CV.out 2 _ HM8.out.1).mono ?_
       rintro e w9 ⟨rfl,hb⟩;have HM9:=Lib.hid (HM8.out.below hb);clear hb HM8
       go_wp2_with fail
       refine (changeNumber_any true (V 2) (HL.out 2 (by omega)) _ 6 _ _ h.time w9 HM9.out.2.1 (by show 6 < 9;decide) rfl).mono ?_
       rw [N2.out];rintro e w10 ⟨rfl,hb,hk⟩;have HM10:=Lib.hid (HM9.out.put (h':={ h with name:=textD1 (V 4) h.name,link:=textD1 (V 5) h.link,uid:=u,gid:=g,time:=0 }) hk hb)
       clear hb hk HM9;have b2:=HM10.out.2.2;have r0:=b2.cell 0;have r1:=b2.cell 1;have r2:=b2.cell 2;have r3:=b2.cell 3;have r4:=b2.cell 4;have r5:=b2.cell 5;have r6:=b2.cell 6;have r7:=b2.cell 7;have r8:=b2.cell 8;have f0:=b2.frozen 0;have f1:=b2.frozen 1;have f2:=b2.frozen 2;have f3:=b2.frozen 3;have f4:=b2.frozen 4;have f5:=b2.frozen 5;have f6:=b2.frozen 6;have f7:=b2.frozen 7;have f8:=b2.frozen 8;simp only [headC,zeroH,List.getElem?_toArray,List.getElem?_cons_zero,List.getElem?_cons_succ] at r0 r1 r2 r3 r4 r5 r6 r7 r8;clear b2;have E:Hid (U=(zeroH,4)):=Lib.hid (by rw [← HU.out];unfold applyV;simp only [N0.out,N1.out,N2.out])
       go_wp2
       refine bodyPost_ret (ret_headB rfl _ _ (w.heap.size+1) _ rfl rfl zeroH (blk9 HM10.out.2.2 _ _ _ _ _ _ _ _ _)) rfl ?_
       exact ⟨by rw [E.out];rfl,below9 HM10.out.1 (by omega) _ _ _ _ _ _ _ _ _⟩
     | some t =>
       have N2:=Lib.hid ho2;clear ho2;obtain ⟨o3,ho3⟩:∃ o,numD1 false (V 3) h.size=o:=⟨_,rfl⟩
       cases o3 with
       | none =>
         have N3:=Lib.hid ho3;clear ho3
         go_enter Tryz.func83,Tryz.ntmps83
         go_wp2_with fail
         have HM0:Hid (Mid w ((w.alloc (.cells (headC h) 41)).alloc (.cells (headC zeroH) 41)) h):=by
          have b1:=Blk.new (w.alloc (.cells (headC h) 41)) 41 (headC zeroH);rw [World.size_alloc] at b1;exact Lib.hid ⟨((Below.refl _ w).alloc (Nat.le_refl _) _).alloc (by simp) _,(Blk.new w 41 (headC h)).alloc _,b1⟩
         refine (CV.out 4 _ HM0.out.1).mono ?_
         rintro e w1 ⟨rfl,hb⟩;have HM1:=Lib.hid (HM0.out.below hb);clear hb HM0
         go_wp2_with fail
         refine (changeText_any (V 4) _ 0 _ (headC h) h.name w1 HM1.out.2.1 (by show 0 < 9;decide) rfl).mono ?_
         rintro e w2 ⟨rfl,hb,hk⟩;have HM2:=Lib.hid (HM1.out.put (h':={ h with name:=textD1 (V 4) h.name }) hk hb)
         clear hb hk HM1
         go_wp2_with fail
         refine (CV.out 5 _ HM2.out.1).mono ?_
         rintro e w3 ⟨rfl,hb⟩;have HM3:=Lib.hid (HM2.out.below hb);clear hb HM2
         go_wp2_with fail
         refine (changeText_any (V 5) _ 1 _ _ h.link w3 HM3.out.2.1 (by show 1 < 9;decide) rfl).mono ?_
         rintro e w4 ⟨rfl,hb,hk⟩;have HM4:=Lib.hid (HM3.out.put (h':={ h with name:=textD1 (V 4) h.name,link:=textD1 (V 5) h.link }) hk hb)
         clear hb hk HM3
         go_wp2_with fail
         refine (CV.out 0 _ HM4.out.1).mono ?_
         rintro e w5 ⟨rfl,hb⟩;have HM5:=Lib.hid (HM4.out.below hb);clear hb HM4
         go_wp2_with fail
         refine (changeNumber_any false (V 0) (HL.out 0 (by omega)) _ 4 _ _ h.uid w5 HM5.out.2.1 (by show 4 < 9;decide) rfl).mono ?_
         rw [N0.out];rintro e w6 ⟨rfl,hb,hk⟩;have HM6:=Lib.hid (HM5.out.put (h':={ h with name:=textD1 (V 4) h.name,link:=textD1 (V 5) h.link,uid:=u }) hk hb)
         clear hb hk HM5
         go_wp2_with fail
         refine (CV.out 1 _ HM6.out.1).mono ?_
         rintro e w7 ⟨rfl,hb⟩;have HM7:=Lib.hid (HM6.out.below hb);clear hb HM6
         go_wp2_with fail
         refine (changeNumber_any false (V 1) (HL.out 1 (by omega)) _ 5 _ _ h.gid w7 HM7.out.2.1 (by show 5 < 9;decide) rfl).mono ?_
         rw [N1.out];rintro e w8 ⟨rfl,hb,hk⟩;have HM8:=Lib.hid (HM7.out.put (h':={ h with name:=textD1 (V 4) h.name,link:=textD1 (V 5) h.link,uid:=u,gid:=g }) hk hb)
         clear hb hk HM7
         go_wp2_with fail
         refine (CV.out 2 _ HM8.out.1).mono ?_
         rintro e w9 ⟨rfl,hb⟩;have HM9:=Lib.hid (HM8.out.below hb);clear hb HM8
         go_wp2_with fail
         refine (changeNumber_any true (V 2) (HL.out 2 (by omega)) _ 6 _ _ h.time w9 HM9.out.2.1 (by show 6 < 9;decide) rfl).mono ?_
         rw [N2.out];rintro e w10 ⟨rfl,hb,hk⟩;have HM10:=Lib.hid (HM9.out.put (h':={ h with name:=textD1 (V 4) h.name,link:=textD1 (V 5) h.link,uid:=u,gid:=g,time:=t }) hk hb)
         clear hb hk HM9
         go_wp2_with fail
         refine (CV.out 3 _ HM10.out.1).mono ?_
         rintro e w11 ⟨rfl,hb⟩;have HM11:=Lib.hid (HM10.out.below hb);clear hb HM10
         go_wp2_with fail
         refine (changeNumber_any false (V 3) (HL.out 3 (by omega)) _ 7 _ _ h.size w11 HM11.out.2.1 (by show 7 < 9;decide) rfl).mono ?_
         rw [N3.out];rintro e w12 ⟨rfl,hb,hk⟩;have HM12:=Lib.hid (HM11.out.put (h':={ h with name:=textD1 (V 4) h.name,link:=textD1 (V 5) h.link,uid:=u,gid:=g,time:=t,size:=0 }) hk hb)
         clear hb hk HM11;have b2:=HM12.out.2.2;have r0:=b2.cell 0;have r1:=b2.cell 1;have r2:=b2.cell 2;have r3:=b2.cell 3;have r4:=b2.cell 4;have r5:=b2.cell 5;have r6:=b2.cell 6;have r7:=b2.cell 7;have r8:=b2.cell 8;have f0:=b2.frozen 0;have f1:=b2.frozen 1;have f2:=b2.frozen 2;have f3:=b2.frozen 3;have f4:=b2.frozen 4;have f5:=b2.frozen 5;have f6:=b2.frozen 6;have f7:=b2.frozen 7;have f8:=b2.frozen 8;simp only [headC,zeroH,List.getElem?_toArray,List.getElem?_cons_zero,List.getElem?_cons_succ] at r0 r1 r2 r3 r4 r5 r6 r7 r8;clear b2;have E:Hid (U=(zeroH,4)):=Lib.hid (by rw [← HU.out];unfold applyV;simp only [N0.out,N1.out,N2.out,N3.out])
         go_wp2
         refine bodyPost_ret (ret_headB rfl _ _ (w.heap.size+1) _ rfl rfl zeroH (blk9 HM12.out.2.2 _ _ _ _ _ _ _ _ _)) rfl ?_
         exact ⟨by rw [E.out];rfl,below9 HM12.out.1 (by omega) _ _ _ _ _ _ _ _ _⟩
       | some z =>
         have N3:=Lib.hid ho3;clear ho3
         go_enter Tryz.func83,Tryz.ntmps83
         go_wp2_with fail
         have HM0:Hid (Mid w ((w.alloc (.cells (headC h) 41)).alloc (.cells (headC zeroH) 41)) h):=by
          have b1:=Blk.new (w.alloc (.cells (headC h) 41)) 41 (headC zeroH);rw [World.size_alloc] at b1;exact Lib.hid ⟨((Below.refl _ w).alloc (Nat.le_refl _) _).alloc (by simp) _,(Blk.new w 41 (headC h)).alloc _,b1⟩
         refine (CV.out 4 _ HM0.out.1).mono ?_
         rintro e w1 ⟨rfl,hb⟩;have HM1:=Lib.hid (HM0.out.below hb);clear hb HM0
         go_wp2_with fail
         refine (changeText_any (V 4) _ 0 _ (headC h) h.name w1 HM1.out.2.1 (by show 0 < 9;decide) rfl).mono ?_
         rintro e w2 ⟨rfl,hb,hk⟩;have HM2:=Lib.hid (HM1.out.put (h':={ h with name:=textD1 (V 4) h.name }) hk hb)
         clear hb hk HM1
         go_wp2_with fail
         refine (CV.out 5 _ HM2.out.1).mono ?_
         rintro e w3 ⟨rfl,hb⟩;have HM3:=Lib.hid (HM2.out.below hb);clear hb HM2
         go_wp2_with fail
         refine (changeText_any (V 5) _ 1 _ _ h.link w3 HM3.out.2.1 (by show 1 < 9;decide) rfl).mono ?_
         rintro e w4 ⟨rfl,hb,hk⟩;have HM4:=Lib.hid (HM3.out.put (h':={ h with name:=textD1 (V 4) h.name,link:=textD1 (V 5) h.link }) hk hb)
         clear hb hk HM3
         go_wp2_with fail
         refine (CV.out 0 _ HM4.out.1).mono ?_
         rintro e w5 ⟨rfl,hb⟩;have HM5:=Lib.hid (HM4.out.below hb);clear hb HM4
         go_wp2_with fail
         refine (changeNumber_any false (V 0) (HL.out 0 (by omega)) _ 4 _ _ h.uid w5 HM5.out.2.1 (by show 4 < 9;decide) rfl).mono ?_
         rw [N0.out];rintro e w6 ⟨rfl,hb,hk⟩;have HM6:=Lib.hid (HM5.out.put (h':={ h with name:=textD1 (V 4) h.name,link:=textD1 (V 5) h.link,uid:=u }) hk hb)
         clear hb hk HM5
         go_wp2_with fail
         refine (CV.out 1 _ HM6.out.1).mono ?_
         rintro e w7 ⟨rfl,hb⟩;have HM7:=Lib.hid (HM6.out.below hb);clear hb HM6
         go_wp2_with fail
         refine (changeNumber_any false (V 1) (HL.out 1 (by omega)) _ 5 _ _ h.gid w7 HM7.out.2.1 (by show 5 < 9;decide) rfl).mono ?_
         rw [N1.out];rintro e w8 ⟨rfl,hb,hk⟩;have HM8:=Lib.hid (HM7.out.put (h':={ h with name:=textD1 (V 4) h.name,link:=textD1 (V 5) h.link,uid:=u,gid:=g }) hk hb)
         clear hb hk HM7
         go_wp2_with fail
         refine (CV.out 2 _ HM8.out.1).mono ?_
         rintro e w9 ⟨rfl,hb⟩;have HM9:=Lib.hid (HM8.out.below hb);clear hb HM8
         go_wp2_with fail
         refine (changeNumber_any true (V 2) (HL.out 2 (by omega)) _ 6 _ _ h.time w9 HM9.out.2.1 (by show 6 < 9;decide) rfl).mono ?_
         rw [N2.out];rintro e w10 ⟨rfl,hb,hk⟩;have HM10:=Lib.hid (HM9.out.put (h':={ h with name:=textD1 (V 4) h.name,link:=textD1 (V 5) h.link,uid:=u,gid:=g,time:=t }) hk hb)
         clear hb hk HM9
         go_wp2_with fail
         refine (CV.out 3 _ HM10.out.1).mono ?_
         rintro e w11 ⟨rfl,hb⟩;have HM11:=Lib.hid (HM10.out.below hb);clear hb HM10
         go_wp2_with fail
         refine (changeNumber_any false (V 3) (HL.out 3 (by omega)) _ 7 _ _ h.size w11 HM11.out.2.1 (by show 7 < 9;decide) rfl).mono ?_
         rw [N3.out];rintro e w12 ⟨rfl,hb,hk⟩;have HM12:=Lib.hid (HM11.out.put (h':={ h with name:=textD1 (V 4) h.name,link:=textD1 (V 5) h.link,uid:=u,gid:=g,time:=t,size:=z }) hk hb)
         clear hb hk HM11;have b2:=HM12.out.2.2;have r0:=b2.cell 0;have r1:=b2.cell 1;have r2:=b2.cell 2;have r3:=b2.cell 3;have r4:=b2.cell 4;have r5:=b2.cell 5;have r6:=b2.cell 6;have r7:=b2.cell 7;have r8:=b2.cell 8;have f0:=b2.frozen 0;have f1:=b2.frozen 1;have f2:=b2.frozen 2;have f3:=b2.frozen 3;have f4:=b2.frozen 4;have f5:=b2.frozen 5;have f6:=b2.frozen 6;have f7:=b2.frozen 7;have f8:=b2.frozen 8;simp only [headC,zeroH,List.getElem?_toArray,List.getElem?_cons_zero,List.getElem?_cons_succ] at r0 r1 r2 r3 r4 r5 r6 r7 r8;clear b2;have b1:=HM12.out.2.1
         have c0:=b1.cell 0;have c1:=b1.cell 1;have c2:=b1.cell 2;have c3:=b1.cell 3;have c4:=b1.cell 4;have c5:=b1.cell 5;have c6:=b1.cell 6;have c7:=b1.cell 7;have c8:=b1.cell 8;simp only [headC,List.getElem?_toArray,List.getElem?_cons_zero,List.getElem?_cons_succ] at c0 c1 c2 c3 c4 c5 c6 c7 c8;clear b1;have E:Hid (U=({ h with name:=textD1 (V 4) h.name,link:=textD1 (V 5) h.link,uid:=u,gid:=g,time:=t,size:=z },0)):=Lib.hid (by rw [← HU.out];unfold applyV;simp only [N0.out,N1.out,N2.out,N3.out])
         go_wp2
         refine bodyPost_ret (ret_headB rfl _ _ (w.heap.size+1) _ rfl rfl { h with name:=textD1 (V 4) h.name,link:=textD1 (V 5) h.link,uid:=u,gid:=g,time:=t,size:=z } (blk9 HM12.out.2.2 _ _ _ _ _ _ _ _ _)) rfl ?_
         exact ⟨by rw [E.out];rfl,below9 HM12.out.1 (by omega) _ _ _ _ _ _ _ _ _⟩
end Go.Proofs.YtnpkcneojilmkaaGreatDoor.Attr
end
section
namespace Go.Proofs.YtnpkcneojilmkaaGreatDoor.Mem
open Go.ChangeShapes Go.WideShapes Go.ChangeAt Go.RowKit Base Byt Txt Bk Mk Block Hp Head Attr Rec Go.Lib
set_option linter.unusedVariables false
set_option maxRecDepth 100000
theorem extZero (w:World):(zeroValue 131).run Tryz.prog w=.ok (.agg #[.string ⟨#[]⟩,.slice none 0 0]) w:=Tryz.zeroValue131 w
section
variable {w0 w w':World} {K:RK} {a:Nat} {s:RS} {mb:Option Nat} {v:Value} {xs:List MP} {q:Option Addr} {n c:Nat}
theorem Rd.c0 (h:Rd w0 w K a s mb v xs q n c):w.cell? ⟨K.r,0,none⟩=some (.pointer (some ⟨K.g,0,none⟩)):=h.blk.cell 0
theorem Rd.c1 (h:Rd w0 w K a s mb v xs q n c):w.cell? ⟨K.r,1,none⟩=some (.pointer (some ⟨K.gs,0,none⟩)):=h.blk.cell 1
theorem Rd.c2 (h:Rd w0 w K a s mb v xs q n c):w.cell? ⟨K.r,2,none⟩=some (.map (some K.mw)):=h.blk.cell 2
theorem Rd.c3 (h:Rd w0 w K a s mb v xs q n c):w.cell? ⟨K.r,3,none⟩=some v:=h.blk.cell 3
theorem look_ext (h:MapK u8K w K.mw (waitF s q n c)) (k:UInt8) (m:Int) (hk:(k.toNat:Int)=m) :
 (Instr.lookup 72 (.map (some K.mw)) (.int .u8 m) true).run Tryz.prog w=.ok (.tuple #[(waitF s q n c k).getD (.agg #[.string ⟨#[]⟩,.slice none 0 0]),.bool (waitF s q n c k).isSome]) w:=by
 subst hk;exact h.look_ok Tryz.underlying72 Tryz.underlying5 extZero k
theorem Rd.look76 (h:Rd w0 w K a s mb v xs q n c) :
 (Instr.lookup 72 (.map (some K.mw)) (.int .u8 76) true).run Tryz.prog w=.ok (.tuple #[.agg #[.string (str (s.name.getD [])),.slice none 0 0],.bool s.name.isSome]) w:=by
 rw [look_ext h.map 76 76 rfl];have e:waitF s q n c 76=s.name.map (fun t => .agg #[.string (str t),.slice none 0 0]):=by unfold waitF;rw [if_neg (by decide),if_pos rfl]
 rw [e]
 cases s.name<;>rfl
theorem Rd.look75 (h:Rd w0 w K a s mb v xs q n c) :
 (Instr.lookup 72 (.map (some K.mw)) (.int .u8 75) true).run Tryz.prog w=.ok (.tuple #[.agg #[.string (str (s.link.getD [])),.slice none 0 0],.bool s.link.isSome]) w:=by
 rw [look_ext h.map 75 75 rfl];have e:waitF s q n c 75=s.link.map (fun t => .agg #[.string (str t),.slice none 0 0]):=by unfold waitF;rw [if_neg (by decide),if_neg (by decide),if_pos rfl]
 rw [e]
 cases s.link<;>rfl
theorem ret_head1 {fn:Func} (hf:fn.results=#[.cell 4 41]) (tmps:Array Value) (w:World) (g:Nat) (ht:tmps.getD 4 undef=.pointer (some ⟨g,0,none⟩))
 (h:HeadV) (hb:Blk w g 41 (headC h)):(results fn tmps).run Tryz.prog w=.ok (.agg (headC h)) w:=by
 have hl:=load_head w g _ _ _ _ _ _ _ _ _ hb;have ht':tmps[4]?.getD undef=.pointer (some ⟨g,0,none⟩):=by simpa using ht
 simp only [results,hf];simp [ht',asAddr];rw [hl];rfl
set_option maxHeartbeats 2000000 in
theorem renamed_any (h:HeadV) (hr:Rd w0 w K a s mb v xs q n c) :
 Calls Tryz.prog 84 #[.pointer (some ⟨K.r,0,none⟩),.agg (headC h)] w fun e w' => e=.returned (.agg (headC (renD h s)))∧Below w.heap.size w w':=by
 have HM0:Hid (Mid w ((w.alloc (.cells (headC h) 41)).alloc (.cells (headC zeroH) 41)) h):=by
  have b1:=Blk.new (w.alloc (.cells (headC h) 41)) 41 (headC zeroH);rw [World.size_alloc] at b1;exact Lib.hid ⟨((Below.refl _ w).alloc (Nat.le_refl _) _).alloc (by simp) _,(Blk.new w 41 (headC h)).alloc _,b1⟩
 have HR:=Lib.hid hr;clear hr;obtain ⟨sn,hsn⟩:∃ x,s.name=x:=⟨_,rfl⟩;obtain ⟨sl,hsl⟩:∃ x,s.link=x:=⟨_,rfl⟩;have HSN:=Lib.hid hsn;have HSL:=Lib.hid hsl;clear hsn hsl;obtain ⟨U,hU⟩:∃ U,renD h s=U:=⟨_,rfl⟩;rw [hU];have HU:Hid (U = { h with name:=sn.getD h.name,link:=sl.getD h.link }):=Lib.hid (by rw [← hU,← HSN.out,← HSL.out];rfl)
 clear hU;obtain ⟨W1,hW1⟩:∃ W1,(w.alloc (.cells (headC h) 41)).alloc (.cells (headC zeroH) 41)=W1:=⟨_,rfl⟩;rw [hW1] at HM0
 go_enter Tryz.func84,Tryz.ntmps84
 go_upto_region 1 with fail
 rw [show (w.alloc (.cells (headC h) 41)).alloc (.cells #[.string ⟨#[]⟩,.string ⟨#[]⟩,.int .u8 0,.int .i64 0,.int .i64 0,.int .i64 0,.int .i64 0,.int .i64 0,.bool false] 41)=W1 from hW1]
 have R1:=Lib.hid (HR.out.below HM0.out.1);have x2:=R1.out.c2;have l76:=R1.out.look76;rw [HSN.out] at l76;clear hW1
 cases sn with
 | none =>
   simp only [Option.getD_none,Option.isSome_none] at l76
   cases sl with
   | none =>
     go_upto_region 2 with fail
     clear x2 l76;obtain ⟨W2,hW2⟩:∃ W2,W1.alloc (.cells #[.string (str []),.slice none 0 0] 131)=W2:=⟨_,rfl⟩;have e0:W2.cell? ⟨W1.heap.size,0,none⟩=some (.string (str [])):=by rw [← hW2];exact (Blk.new W1 131 _).cell 0
     have HM2:Hid (Mid w W2 h):=Lib.hid (by rw [← hW2];exact HM0.out.below ((Below.refl _ W1).alloc (Nat.le_refl _) _))
     have R2:=Lib.hid (HR.out.below HM2.out.1);rw [show W1.alloc (.cells #[.string (str []),.slice none 0 0] 131)=W2 from hW2]
     clear hW2
     go_upto_region 4 with fail
     clear e0;obtain ⟨W3,hW3⟩:∃ W3,W2=W3:=⟨_,rfl⟩;have HM3:=HM2;rw [hW3] at HM3 ⊢;clear hW3;have R3:=Lib.hid (HR.out.below HM3.out.1);have x2:=R3.out.c2;have l75:=R3.out.look75;rw [HSL.out] at l75;simp only [Option.getD_none,Option.isSome_none] at l75
     go_upto_region 5 with fail
     clear x2 l75;obtain ⟨W4,hW4⟩:∃ W4,W3.alloc (.cells #[.string (str []),.slice none 0 0] 131)=W4:=⟨_,rfl⟩;have e0:W4.cell? ⟨W3.heap.size,0,none⟩=some (.string (str [])):=by rw [← hW4];exact (Blk.new W3 131 _).cell 0
     have HM4:Hid (Mid w W4 h):=Lib.hid (by rw [← hW4];exact HM3.out.below ((Below.refl _ W3).alloc (Nat.le_refl _) _))
     rw [show W3.alloc (.cells #[.string (str []),.slice none 0 0] 131)=W4 from hW4]
     clear hW4
     go_upto_region 7 with fail
     clear e0;have HM5:=HM4;have b2:=HM5.out.2.2;have r0:=b2.cell 0;have f0:=b2.frozen 0;have r1:=b2.cell 1;have f1:=b2.frozen 1;have r2:=b2.cell 2;have f2:=b2.frozen 2;have r3:=b2.cell 3;have f3:=b2.frozen 3;have r4:=b2.cell 4;have f4:=b2.frozen 4;have r5:=b2.cell 5;have f5:=b2.frozen 5;have r6:=b2.cell 6;have f6:=b2.frozen 6;have r7:=b2.cell 7;have f7:=b2.frozen 7;have r8:=b2.cell 8;have f8:=b2.frozen 8;simp only [headC,zeroH,List.getElem?_toArray,List.getElem?_cons_zero,List.getElem?_cons_succ] at r0 r1 r2 r3 r4 r5 r6 r7 r8;clear b2;have b1:=HM5.out.2.1
     have c0:=b1.cell 0;have c1:=b1.cell 1;have c2:=b1.cell 2;have c3:=b1.cell 3;have c4:=b1.cell 4;have c5:=b1.cell 5;have c6:=b1.cell 6;have c7:=b1.cell 7;have c8:=b1.cell 8;simp only [headC,List.getElem?_toArray,List.getElem?_cons_zero,List.getElem?_cons_succ] at c0 c1 c2 c3 c4 c5 c6 c7 c8;clear b1;have E:Hid (U=h):=Lib.hid (by rw [HU.out];rfl)
     go_wp2
     refine bodyPost_ret (ret_head1 rfl _ _ (w.heap.size+1) rfl h (blk9 HM5.out.2.2 _ _ _ _ _ _ _ _ _)) rfl ?_
     exact ⟨by rw [E.out],below9 HM5.out.1 (by omega) _ _ _ _ _ _ _ _ _⟩
   | some lk =>
     go_upto_region 2 with fail
     clear x2 l76;obtain ⟨W2,hW2⟩:∃ W2,W1.alloc (.cells #[.string (str []),.slice none 0 0] 131)=W2:=⟨_,rfl⟩;have e0:W2.cell? ⟨W1.heap.size,0,none⟩=some (.string (str [])):=by rw [← hW2];exact (Blk.new W1 131 _).cell 0
     have HM2:Hid (Mid w W2 h):=Lib.hid (by rw [← hW2];exact HM0.out.below ((Below.refl _ W1).alloc (Nat.le_refl _) _))
     have R2:=Lib.hid (HR.out.below HM2.out.1);rw [show W1.alloc (.cells #[.string (str []),.slice none 0 0] 131)=W2 from hW2]
     clear hW2
     go_upto_region 4 with fail
     clear e0;obtain ⟨W3,hW3⟩:∃ W3,W2=W3:=⟨_,rfl⟩;have HM3:=HM2;rw [hW3] at HM3 ⊢;clear hW3;have R3:=Lib.hid (HR.out.below HM3.out.1);have x2:=R3.out.c2;have l75:=R3.out.look75;rw [HSL.out] at l75;simp only [Option.getD_some,Option.isSome_some] at l75
     go_upto_region 5 with fail
     clear x2 l75;obtain ⟨W4,hW4⟩:∃ W4,W3.alloc (.cells #[.string (str lk),.slice none 0 0] 131)=W4:=⟨_,rfl⟩;have e0:W4.cell? ⟨W3.heap.size,0,none⟩=some (.string (str lk)):=by rw [← hW4];exact (Blk.new W3 131 _).cell 0
     have HM4:Hid (Mid w W4 h):=Lib.hid (by rw [← hW4];exact HM3.out.below ((Below.refl _ W3).alloc (Nat.le_refl _) _))
     rw [show W3.alloc (.cells #[.string (str lk),.slice none 0 0] 131)=W4 from hW4]
     clear hW4;have b1:=HM4.out.2.1;have y1:=b1.cell 1;have g1:=b1.frozen 1;simp only [headC,List.getElem?_toArray,List.getElem?_cons_zero,List.getElem?_cons_succ] at y1;clear b1
     go_upto_region 7 with fail
     have HM5:Hid (Mid w (W4.setCell ⟨w.heap.size,1,none⟩ (.string (str lk))) { h with link:=lk }):=Lib.hid (HM4.out.put (h':={ h with link:=lk }) ((Kept.refl (oneB w.heap.size) W4).setCell (a:=⟨w.heap.size,1,none⟩) (.inr rfl) _) (HM4.out.2.1.set 1 _ (by show 1 < 9;decide)))
     clear y1 g1 e0;obtain ⟨W5,hW5⟩:∃ W5,W4.setCell ⟨w.heap.size,1,none⟩ (.string (str lk))=W5:=⟨_,rfl⟩;rw [hW5] at HM5 ⊢;clear hW5;have b2:=HM5.out.2.2;have r0:=b2.cell 0;have f0:=b2.frozen 0;have r1:=b2.cell 1;have f1:=b2.frozen 1;have r2:=b2.cell 2;have f2:=b2.frozen 2;have r3:=b2.cell 3;have f3:=b2.frozen 3;have r4:=b2.cell 4;have f4:=b2.frozen 4;have r5:=b2.cell 5;have f5:=b2.frozen 5;have r6:=b2.cell 6;have f6:=b2.frozen 6;have r7:=b2.cell 7;have f7:=b2.frozen 7;have r8:=b2.cell 8;have f8:=b2.frozen 8;simp only [headC,zeroH,List.getElem?_toArray,List.getElem?_cons_zero,List.getElem?_cons_succ] at r0 r1 r2 r3 r4 r5 r6 r7 r8
     clear b2;have b1:=HM5.out.2.1;have c0:=b1.cell 0;have c1:=b1.cell 1;have c2:=b1.cell 2;have c3:=b1.cell 3;have c4:=b1.cell 4;have c5:=b1.cell 5;have c6:=b1.cell 6;have c7:=b1.cell 7;have c8:=b1.cell 8;simp only [headC,List.getElem?_toArray,List.getElem?_cons_zero,List.getElem?_cons_succ] at c0 c1 c2 c3 c4 c5 c6 c7 c8;clear b1;have E:Hid (U = { h with link:=lk }):=Lib.hid (by rw [HU.out];rfl)
     go_wp2
     refine bodyPost_ret (ret_head1 rfl _ _ (w.heap.size+1) rfl { h with link:=lk } (blk9 HM5.out.2.2 _ _ _ _ _ _ _ _ _)) rfl ?_
     exact ⟨by rw [E.out],below9 HM5.out.1 (by omega) _ _ _ _ _ _ _ _ _⟩
 | some nm =>
   simp only [Option.getD_some,Option.isSome_some] at l76
   cases sl with
   | none =>
     go_upto_region 2 with fail
     clear x2 l76;obtain ⟨W2,hW2⟩:∃ W2,W1.alloc (.cells #[.string (str nm),.slice none 0 0] 131)=W2:=⟨_,rfl⟩;have e0:W2.cell? ⟨W1.heap.size,0,none⟩=some (.string (str nm)):=by rw [← hW2];exact (Blk.new W1 131 _).cell 0
     have HM2:Hid (Mid w W2 h):=Lib.hid (by rw [← hW2];exact HM0.out.below ((Below.refl _ W1).alloc (Nat.le_refl _) _))
     have R2:=Lib.hid (HR.out.below HM2.out.1);rw [show W1.alloc (.cells #[.string (str nm),.slice none 0 0] 131)=W2 from hW2]
     clear hW2;have b1:=HM2.out.2.1;have y0:=b1.cell 0;have g0:=b1.frozen 0;simp only [headC,List.getElem?_toArray,List.getElem?_cons_zero] at y0;clear b1
     go_upto_region 4 with fail
     have HM3:Hid (Mid w (W2.setCell ⟨w.heap.size,0,none⟩ (.string (str nm))) { h with name:=nm }):=Lib.hid (HM2.out.put (h':={ h with name:=nm }) ((Kept.refl (oneB w.heap.size) W2).setCell (a:=⟨w.heap.size,0,none⟩) (.inr rfl) _) (HM2.out.2.1.set 0 _ (by show 0 < 9;decide)))
     clear y0 g0 e0;obtain ⟨W3,hW3⟩:∃ W3,W2.setCell ⟨w.heap.size,0,none⟩ (.string (str nm))=W3:=⟨_,rfl⟩;rw [hW3] at HM3 ⊢;clear hW3;have R3:=Lib.hid (HR.out.below HM3.out.1);have x2:=R3.out.c2;have l75:=R3.out.look75;rw [HSL.out] at l75;simp only [Option.getD_none,Option.isSome_none] at l75
     go_upto_region 5 with fail
     clear x2 l75;obtain ⟨W4,hW4⟩:∃ W4,W3.alloc (.cells #[.string (str []),.slice none 0 0] 131)=W4:=⟨_,rfl⟩;have e0:W4.cell? ⟨W3.heap.size,0,none⟩=some (.string (str [])):=by rw [← hW4];exact (Blk.new W3 131 _).cell 0
     have HM4:Hid (Mid w W4 { h with name:=nm }):=Lib.hid (by rw [← hW4];exact HM3.out.below ((Below.refl _ W3).alloc (Nat.le_refl _) _))
     rw [show W3.alloc (.cells #[.string (str []),.slice none 0 0] 131)=W4 from hW4]
     clear hW4
     go_upto_region 7 with fail
     clear e0;have HM5:=HM4;have b2:=HM5.out.2.2;have r0:=b2.cell 0;have f0:=b2.frozen 0;have r1:=b2.cell 1;have f1:=b2.frozen 1;have r2:=b2.cell 2;have f2:=b2.frozen 2;have r3:=b2.cell 3;have f3:=b2.frozen 3;have r4:=b2.cell 4;have f4:=b2.frozen 4;have r5:=b2.cell 5;have f5:=b2.frozen 5;have r6:=b2.cell 6;have f6:=b2.frozen 6;have r7:=b2.cell 7;have f7:=b2.frozen 7;have r8:=b2.cell 8;have f8:=b2.frozen 8;simp only [headC,zeroH,List.getElem?_toArray,List.getElem?_cons_zero,List.getElem?_cons_succ] at r0 r1 r2 r3 r4 r5 r6 r7 r8;clear b2;have b1:=HM5.out.2.1
     have c0:=b1.cell 0;have c1:=b1.cell 1;have c2:=b1.cell 2;have c3:=b1.cell 3;have c4:=b1.cell 4;have c5:=b1.cell 5;have c6:=b1.cell 6;have c7:=b1.cell 7;have c8:=b1.cell 8;simp only [headC,List.getElem?_toArray,List.getElem?_cons_zero,List.getElem?_cons_succ] at c0 c1 c2 c3 c4 c5 c6 c7 c8;clear b1;have E:Hid (U = { h with name:=nm }):=Lib.hid (by rw [HU.out];rfl)
     go_wp2
     refine bodyPost_ret (ret_head1 rfl _ _ (w.heap.size+1) rfl { h with name:=nm } (blk9 HM5.out.2.2 _ _ _ _ _ _ _ _ _)) rfl ?_
     exact ⟨by rw [E.out],below9 HM5.out.1 (by omega) _ _ _ _ _ _ _ _ _⟩
   | some lk =>
     go_upto_region 2 with fail
     clear x2 l76;obtain ⟨W2,hW2⟩:∃ W2,W1.alloc (.cells #[.string (str nm),.slice none 0 0] 131)=W2:=⟨_,rfl⟩;have e0:W2.cell? ⟨W1.heap.size,0,none⟩=some (.string (str nm)):=by rw [← hW2];exact (Blk.new W1 131 _).cell 0
     have HM2:Hid (Mid w W2 h):=Lib.hid (by rw [← hW2];exact HM0.out.below ((Below.refl _ W1).alloc (Nat.le_refl _) _))
     have R2:=Lib.hid (HR.out.below HM2.out.1);rw [show W1.alloc (.cells #[.string (str nm),.slice none 0 0] 131)=W2 from hW2]
     clear hW2;have b1:=HM2.out.2.1;have y0:=b1.cell 0;have g0:=b1.frozen 0;simp only [headC,List.getElem?_toArray,List.getElem?_cons_zero] at y0;clear b1
     go_upto_region 4 with fail
     have HM3:Hid (Mid w (W2.setCell ⟨w.heap.size,0,none⟩ (.string (str nm))) { h with name:=nm }):=Lib.hid (HM2.out.put (h':={ h with name:=nm }) ((Kept.refl (oneB w.heap.size) W2).setCell (a:=⟨w.heap.size,0,none⟩) (.inr rfl) _) (HM2.out.2.1.set 0 _ (by show 0 < 9;decide)))
     clear y0 g0 e0;obtain ⟨W3,hW3⟩:∃ W3,W2.setCell ⟨w.heap.size,0,none⟩ (.string (str nm))=W3:=⟨_,rfl⟩;rw [hW3] at HM3 ⊢;clear hW3;have R3:=Lib.hid (HR.out.below HM3.out.1);have x2:=R3.out.c2;have l75:=R3.out.look75;rw [HSL.out] at l75;simp only [Option.getD_some,Option.isSome_some] at l75
     go_upto_region 5 with fail
     clear x2 l75;obtain ⟨W4,hW4⟩:∃ W4,W3.alloc (.cells #[.string (str lk),.slice none 0 0] 131)=W4:=⟨_,rfl⟩;have e0:W4.cell? ⟨W3.heap.size,0,none⟩=some (.string (str lk)):=by rw [← hW4];exact (Blk.new W3 131 _).cell 0
     have HM4:Hid (Mid w W4 { h with name:=nm }):=Lib.hid (by rw [← hW4];exact HM3.out.below ((Below.refl _ W3).alloc (Nat.le_refl _) _))
     rw [show W3.alloc (.cells #[.string (str lk),.slice none 0 0] 131)=W4 from hW4]
     clear hW4;have b1:=HM4.out.2.1;have y1:=b1.cell 1;have g1:=b1.frozen 1;simp only [headC,List.getElem?_toArray,List.getElem?_cons_zero,List.getElem?_cons_succ] at y1;clear b1
     go_upto_region 7 with fail
     have HM5:Hid (Mid w (W4.setCell ⟨w.heap.size,1,none⟩ (.string (str lk))) { h with name:=nm,link:=lk }):=Lib.hid (HM4.out.put (h':={ h with name:=nm,link:=lk }) ((Kept.refl (oneB w.heap.size) W4).setCell (a:=⟨w.heap.size,1,none⟩) (.inr rfl) _) (HM4.out.2.1.set 1 _ (by show 1 < 9;decide)))
     clear y1 g1 e0;obtain ⟨W5,hW5⟩:∃ W5,W4.setCell ⟨w.heap.size,1,none⟩ (.string (str lk))=W5:=⟨_,rfl⟩;rw [hW5] at HM5 ⊢;clear hW5;have b2:=HM5.out.2.2;have r0:=b2.cell 0;have f0:=b2.frozen 0;have r1:=b2.cell 1;have f1:=b2.frozen 1;have r2:=b2.cell 2;have f2:=b2.frozen 2;have r3:=b2.cell 3;have f3:=b2.frozen 3;have r4:=b2.cell 4;have f4:=b2.frozen 4;have r5:=b2.cell 5;have f5:=b2.frozen 5;have r6:=b2.cell 6;have f6:=b2.frozen 6;have r7:=b2.cell 7;have f7:=b2.frozen 7;have r8:=b2.cell 8;have f8:=b2.frozen 8;simp only [headC,zeroH,List.getElem?_toArray,List.getElem?_cons_zero,List.getElem?_cons_succ] at r0 r1 r2 r3 r4 r5 r6 r7 r8
     clear b2;have b1:=HM5.out.2.1;have c0:=b1.cell 0;have c1:=b1.cell 1;have c2:=b1.cell 2;have c3:=b1.cell 3;have c4:=b1.cell 4;have c5:=b1.cell 5;have c6:=b1.cell 6;have c7:=b1.cell 7;have c8:=b1.cell 8;simp only [headC,List.getElem?_toArray,List.getElem?_cons_zero,List.getElem?_cons_succ] at c0 c1 c2 c3 c4 c5 c6 c7 c8;clear b1;have E:Hid (U = { h with name:=nm,link:=lk }):=Lib.hid (by rw [HU.out];rfl)
     go_wp2
     refine bodyPost_ret (ret_head1 rfl _ _ (w.heap.size+1) rfl { h with name:=nm,link:=lk } (blk9 HM5.out.2.2 _ _ _ _ _ _ _ _ _)) rfl ?_
     exact ⟨by rw [E.out],below9 HM5.out.1 (by omega) _ _ _ _ _ _ _ _ _⟩
end
end Go.Proofs.YtnpkcneojilmkaaGreatDoor.Mem
end
section
namespace Go.Proofs.YtnpkcneojilmkaaGreatDoor.Mem
open Go.ChangeShapes Go.WideShapes Go.ChangeAt Go.RowKit Base Byt Txt Bk Mk Block Hp Head Attr Rec Go.Lib
set_option linter.unusedVariables false
set_option maxRecDepth 100000
theorem zero512_any (p:Option Addr) (c:Nat) (X:List UInt8) (w:World) (hl:X.length=512) (h:BAt w p 512 X) :
 Calls Tryz.prog 52 #[.slice p 512 c] w fun e w' => e=.returned (.bool (zeroB X))∧w=w':=by
 have:=zero_any p 512 c X w (by omega) h
 rwa [plain_zeroB hl] at this
def endE (l2:List UInt8) (s:RS):Int:=if l2.length < 512 then 2 else if zeroB l2=false then 9 else if s.hasX=true ∨ s.name.isSome=true ∨ s.link.isSome=true then 5 else 0
theorem zeroB_two (l:List UInt8):zeroB l=(zeroB (l.take 512) && zeroB (l.drop 512)):=by
 conv => lhs;rw [← List.take_append_drop 512 l]
 unfold zeroB;rw [List.all_append]
section
variable {w0 w w':World} {K:RK} {a:Nat} {s:RS} {mb:Option Nat} {v:Value} {xs:List MP} {q:Option Addr} {n c:Nat}
theorem wait_none (s:RS) (q:Option Addr) (n c:Nat):(∀ x,waitF s q n c x=none) ↔ ¬ (s.hasX=true ∨ s.name.isSome=true ∨ s.link.isSome=true):=by
 constructor
 ·intro h e
  have h0:=h 120;have h1:=h 76;have h2:=h 75;unfold waitF at h0 h1 h2;rw [if_pos rfl] at h0;rw [if_neg (by decide),if_pos rfl] at h1
  rw [if_neg (by decide),if_neg (by decide),if_pos rfl] at h2
  rcases e with e | e | e
  ·rw [if_pos e] at h0
   cases h0
  ·obtain ⟨x,hx⟩:=Option.isSome_iff_exists.1 e
   rw [hx] at h1
   cases h1
  ·obtain ⟨x,hx⟩:=Option.isSome_iff_exists.1 e
   rw [hx] at h2
   cases h2
 ·intro h k
  have h1:s.hasX=false:=by
   cases hx:s.hasX with
   | false => rfl
   | true => exact absurd (.inl hx) h
  have h2:s.name=none:=by
   cases hx:s.name with
   | none => rfl
   | some t => exact absurd (.inr (.inl (by rw [hx];rfl))) h
  have h3:s.link=none:=by
   cases hx:s.link with
   | none => rfl
   | some t => exact absurd (.inr (.inr (by rw [hx];rfl))) h
  unfold waitF;rw [h1,h2,h3];simp
def EndPost (w0:World) (K:RK) (a:Nat) (s:RS) (mb:Option Nat) (v:Value) (xs:List MP) (q:Option Addr) (n c:Nat) (r:Int) (e:Ending) (w':World):Prop:=
 e=.returned (.int .i64 r) ∧ ∃ a',Rd w0 w' K a' s mb v xs q n c
set_option maxHeartbeats 2000000 in
theorem end_any (hr:Rd w0 w K a s mb v xs q n c) :
 Calls Tryz.prog 53 #[.pointer (some ⟨K.r,0,none⟩)] w (EndPost w0 K a s mb v xs q n c (endE (K.S.bs.drop a) s)):=by
 obtain ⟨t,hs⟩:=hr.src;have hlen:=hs.len;have hle:=hs.le;have HR:=Lib.hid hr;have HS:=Lib.hid hs;have x0:=hr.c0;have hLL:(K.S.bs.drop a).length=K.S.n - a:=by rw [List.length_drop,hlen]
 obtain ⟨E,hE⟩:∃ E,endE (K.S.bs.drop a) s=E:=⟨_,rfl⟩;rw [hE];unfold endE at hE
 by_cases h1:a=K.S.n
 ·rw [if_pos (by omega)] at hE
  subst hE;have hB:=block_res w K.g a t K.S hs hr.off;rw [show blkR K.S.bs a=(14,[],a) by unfold blkR;rw [if_pos (by omega)]] at hB
  clear hr hs hlen hle hLL h1
  go_enter Tryz.func53,Tryz.ntmps53
  go_wp2_with fail
  refine hB.mono ?_
  rintro e w1 ⟨p,m,cc,t',rfl,h1,h2,h3,h4,h5⟩;have F:=Lib.hid (HR.out.moved h5 ⟨t',h4⟩);clear h1 h2 h3 h4 h5 hB x0
  go_wp2
  go_ret
  exact ⟨rfl,_,F.out⟩
 ·by_cases h2:a+512≤K.S.n
  ·rw [if_neg (by omega),zeroB_two] at hE
   have hB:=block_res w K.g a t K.S hs hr.off;rw [show blkR K.S.bs a=(0,(K.S.bs.drop a).take 512,a+512) by unfold blkR;rw [if_neg (by omega),if_pos (by omega)]] at hB
   obtain ⟨X,hX⟩:∃ X,(K.S.bs.drop a).take 512=X:=⟨_,rfl⟩;have hXl:X.length=512:=by rw [← hX,List.length_take];omega
   rw [hX] at hE hB;obtain ⟨Z,hZ⟩:∃ Z,zeroB X=Z:=⟨_,rfl⟩;obtain ⟨Y,hY⟩:∃ Y,zeroB ((K.S.bs.drop a).drop 512)=Y:=⟨_,rfl⟩;rw [hZ,hY] at hE;rw [List.drop_drop] at hY;have HXL:=Lib.hid hXl;have HZ:=Lib.hid hZ;have HY:=Lib.hid hY;have HE:=Lib.hid hE;clear hr hs hlen hle hLL h1 h2 hX hXl hZ hY hE
   go_enter Tryz.func53,Tryz.ntmps53
   go_wp2_with fail
   refine hB.mono ?_
   rintro e w1 ⟨p,m,cc,t',rfl,h1,h2,h3,h4,h5⟩;obtain rfl:m=512:=by rw [← h1];exact HXL.out
   have F:=Lib.hid (HR.out.moved h5 ⟨t',h4⟩);have HSS:=Lib.hid h4;have HB2:=Lib.hid h2;clear h1 h2 h3 h4 h5 hB x0
   go_wp2_with fail
   refine (zero512_any p cc X w1 HXL.out HB2.out).mono ?_
   rw [HZ.out];rintro e w2 ⟨rfl,rfl⟩
   cases Z with
   | false =>
     have hE:=HE.out;simp only [Bool.false_and,if_true] at hE;subst hE
     go_wp2
     go_ret
     exact ⟨rfl,_,F.out⟩
   | true =>
     have x0:=F.out.c0
     go_wp2_with fail
     refine (rest_any w1 K.g (a+512) t' K.S HSS.out).mono ?_
     rw [show restB (K.S.bs.drop (a+512))=Y from HY.out]
     rintro e w3 ⟨rfl,h6,h7⟩;have F3:=Lib.hid (F.out.moved (h7.of_none _) ⟨t',h6⟩);clear h6 h7 x0
     cases Y with
     | false =>
       have hE:=HE.out;simp only [Bool.and_false,if_true] at hE;subst hE
       go_wp2
       go_ret
       exact ⟨rfl,_,F3.out⟩
     | true =>
       have x2:=F3.out.c2;have hE:=HE.out;rw [if_neg (by decide)] at hE
       have HE:=Lib.hid hE;clear hE;obtain ⟨k,hrun,hk0⟩:=F3.out.map.count Tryz.underlying72 3;have hk:=Lib.hid hk0;clear hk0
       by_cases h0:k=0
       ·have hE:=HE.out
        rw [if_neg ((wait_none _ _ _ _).1 (hk.out.1 h0))] at hE;subst hE h0;clear hk
        go_wp2
        go_ret
        exact ⟨rfl,_,F3.out⟩
       ·have hE:=HE.out
        rw [if_pos (Classical.byContradiction fun hn => h0 (hk.out.2 ((wait_none _ _ _ _).2 hn)))] at hE
        subst hE;have hkp:(0:Int) < (k:Int):=by omega
        clear hk
        go_wp2
        go_ret
        exact ⟨rfl,_,F3.out⟩
  ·rw [if_pos (by omega)] at hE
   subst hE;have hB:=block_res w K.g a t K.S hs hr.off;rw [show blkR K.S.bs a=(2,[],K.S.bs.length) by unfold blkR;rw [if_neg (by omega),if_neg (by omega)]] at hB
   clear hr hs hlen hle hLL h1 h2
   go_enter Tryz.func53,Tryz.ntmps53
   go_wp2_with fail
   refine hB.mono ?_
   rintro e w1 ⟨p,m,cc,t',rfl,h1,h2,h3,h4,h5⟩;have F:=Lib.hid (HR.out.moved h5 ⟨t',h4⟩);clear h1 h2 h3 h4 h5 hB x0
   go_wp2
   go_ret
   exact ⟨rfl,_,F.out⟩
end
end Go.Proofs.YtnpkcneojilmkaaGreatDoor.Mem
end
section
namespace Go.Proofs.YtnpkcneojilmkaaGreatDoor.Mem
open Go.ChangeShapes Go.WideShapes Go.ChangeAt Go.RowKit Base Byt Txt Bk Mk Block Hp Head Attr Rec Go.Lib Go.Shelf
set_option linter.unusedVariables false
set_option maxRecDepth 100000
theorem cutP_any (p:Option Addr) (n b2:Nat) (bs:List UInt8) (w:World) (hn:bs.length=n) (hm:n≤140737488351232) (h:BAt w p n bs) (h2:w.cell? ⟨b2,0,none⟩=some (.int .u8 0)) :
 Calls Tryz.prog 80 #[.slice p n n,.slice (some ⟨b2,0,none⟩) 1 1] w fun e w' => ∃ v2 v3,e=.returned (.tuple #[.slice p (untilB bs).length n,v2,v3])∧Kept noneB w w':=by
 rcases Nat.eq_zero_or_pos n with h0 | h0
 ·subst h0
  obtain rfl:bs=[]:=List.eq_nil_of_length_eq_zero hn;rcases p with _ | x
  ·refine (Any.bytes_Cut_of Tryz.laysCut none (some ⟨b2,0,none⟩) 0 0 1 1 (-1) w (Nat.le_refl _) (by omega) (by omega) (by omega) ((Any.bytes_Index_one_nil Tryz.laysCut.index b2 0 1 0 w h2).mono fun e w' he => ⟨he.1,0,he.2⟩)).mono ?_
   rintro e w' ⟨rfl,q,rfl⟩;unfold Lib.cutV;rw [if_neg (by omega)]
   exact ⟨_,_,rfl,(Kept.refl _ _).drewN _⟩
  ·refine (Any.bytes_Cut_of Tryz.laysCut (some x) (some ⟨b2,0,none⟩) 0 0 1 1 (-1) w (Nat.le_refl _) (by omega) (by omega) (by omega) ((Any.bytes_Index_one_at Tryz.laysCut.index x 0 0 b2 0 1 [] 0 w rfl (fun i hi => absurd hi (by omega)) h2).mono fun e w' he => ⟨he.1,0,he.2⟩)).mono ?_
   rintro e w' ⟨rfl,q,rfl⟩;unfold Lib.cutV;rw [if_neg (by omega)]
   exact ⟨_,_,rfl,(Kept.refl _ _).drewN _⟩
 ·obtain ⟨b,o,rfl,_⟩:=h h0
  exact cut_any b o n n b2 bs w hn (Nat.le_refl _) hm h h2
section
variable {w0 w w':World} {K:RK} {a:Nat} {s:RS} {mb:Option Nat} {v:Value} {xs:List MP} {q:Option Addr} {n c:Nat}
theorem wait_agg (s:RS) (q:Option Addr) (n c:Nat) (k:UInt8):∃ x p m d,(waitF s q n c k).getD (.agg #[.string ⟨#[]⟩,.slice none 0 0])=.agg #[.string x,.slice p m d]:=by
 unfold waitF
 by_cases h1:k=120
 ·rw [if_pos h1]
  by_cases h2:s.hasX=true
  ·rw [if_pos h2];exact ⟨_,_,_,_,rfl⟩
  ·rw [if_neg h2];exact ⟨_,_,_,_,rfl⟩
 ·rw [if_neg h1]
  by_cases h2:k=76
  ·rw [if_pos h2]
   cases s.name<;>exact ⟨_,_,_,_,rfl⟩
  ·rw [if_neg h2]
   by_cases h3:k=75
   ·rw [if_pos h3]
    cases s.link<;>exact ⟨_,_,_,_,rfl⟩
   ·rw [if_neg h3];exact ⟨_,_,_,_,rfl⟩
theorem body_ok (w:World) (g a t:Nat) (S:Sv) (h:Block.Src w g S a t) (ho:S.off g) (k:Nat) (hk:k≤1048576) (X:List UInt8) (hX:(S.bs.drop a).take k=X) (hl:a+padN k≤S.n) :
 Calls Tryz.prog 79 #[.pointer (some ⟨g,0,none⟩),.int .i64 (k:Int)] w fun e w' => ∃ p t',e=.returned (.tuple #[.slice p k k,.int .i64 0])∧BAt w' p k X∧(∀ x,p=some x → w.heap.size≤x.block)∧Block.Src w' g S (a+padN k) t'∧Kept (oneB g) w w':=by
 refine (body_any w g a t S h ho k (by omega)).mono ?_
 rintro e w' (⟨_,p,rfl,h2,h3,⟨t',h4⟩,h5⟩ | ⟨h1,_⟩)
 ·exact ⟨p,t',rfl,by rw [← hX];exact h2,h3,h4,h5⟩
 ·omega
theorem body_no (w:World) (g a t:Nat) (S:Sv) (h:Block.Src w g S a t) (ho:S.off g) (k:Nat) (hk:k≤1048576) (hl:S.n < a+padN k) :
 Calls Tryz.prog 79 #[.pointer (some ⟨g,0,none⟩),.int .i64 (k:Int)] w fun e w' => ∃ t',e=.returned (.tuple #[.slice none 0 0,.int .i64 2])∧Block.Src w' g S S.n t'∧Kept (oneB g) w w':=by
 refine (body_any w g a t S h ho k (by omega)).mono ?_
 rintro e w' (⟨h1,_⟩ | ⟨_,rfl,⟨t',h4⟩,h5⟩)
 ·omega
 ·exact ⟨t',rfl,h4,h5⟩
def Left (w0:World) (K:RK) (a:Nat) (s:RS) (w':World):Prop:=∃ mb v xs q n c,Rd w0 w' K a s mb v xs q n c
set_option maxHeartbeats 2000000 in
theorem ext_waits (hr:Rd w0 w K a s mb v xs q n c) (h:HeadV) (hw:(waitF s q n c h.kind).isSome=true) :
 Calls Tryz.prog 55 #[.pointer (some ⟨K.r,0,none⟩),.agg (headC h)] w fun e w' => e=.returned (.int .i64 5)∧Below w.heap.size w w':=by
 have HR:=Lib.hid hr;obtain ⟨kn,hkn⟩:∃ kn:Int,(h.kind.toNat:Int)=kn:=⟨_,rfl⟩;obtain ⟨W1,hW1⟩:∃ W1,w.alloc (.cells (headC h) 41)=W1:=⟨_,rfl⟩;have hB1:Below w.heap.size w W1:=by rw [← hW1];exact (Below.refl _ w).alloc (Nat.le_refl _) _
 have b1:Blk W1 w.heap.size 41 (headC h):=by rw [← hW1];exact Blk.new w _ _
 have R1:=hr.below hB1;have hB2:Below w.heap.size w (W1.alloc (.cells #[.string ⟨#[]⟩,.slice none 0 0] 131)):=hB1.alloc hB1.size _;have R2:=hr.below hB2;have l1:=look_ext (R1.idle ((Kept.refl noneB _).drew)).map h.kind kn hkn;have l2:=look_ext (R2.idle ((Kept.refl noneB _).drew)).map h.kind kn hkn;obtain ⟨ex,ep,em,ed,hv⟩:=wait_agg s q n c h.kind;rw [hv,hw] at l1 l2;have x2:=R1.c2;have k2:=b1.cell 2;simp only [headC,List.getElem?_toArray,List.getElem?_cons_zero,List.getElem?_cons_succ,hkn] at k2;have y2:=R2.c2;have j2:=(b1.alloc (.cells #[.string ⟨#[]⟩,.slice none 0 0] 131)).cell 2
 simp only [headC,List.getElem?_toArray,List.getElem?_cons_zero,List.getElem?_cons_succ,hkn] at j2;have HB1:=Lib.hid hB1;have HX:=Lib.hid b1;have HKN:=Lib.hid hkn;clear hr hw hkn hv R1 R2 b1 hB1 hB2
 go_enter Tryz.func55,Tryz.ntmps55
 go_upto_region 1 with fail
 clear hW1
 go_cut [5,6] from 13 to 22 (fun s5 s6 wx => s5=.pointer (some ⟨W1.heap.size,0,none⟩)∧s6=.bool true∧wx=(W1.alloc (.cells #[.string ex,.slice ep em ed] 131)).drew)
 case first =>
  go_region
  all_goals (go_wp2;go_meet;exact ⟨rfl,rfl,rfl⟩)
 case rest =>
  obtain ⟨rfl,rfl,rfl⟩:=hcut;clear l1 l2 x2 k2 y2 j2;have hB2:Below w.heap.size w (W1.alloc (.cells #[.string ex,.slice ep em ed] 131)).drew:=((HB1.out.alloc HB1.out.size _)).drew;have HX2:Hid (Blk (W1.alloc (.cells #[.string ex,.slice ep em ed] 131)).drew w.heap.size 41 (headC h)):=Lib.hid ((HX.out.alloc _).drew);obtain ⟨W2,hW2⟩:∃ W2,(W1.alloc (.cells #[.string ex,.slice ep em ed] 131)).drew=W2:=⟨_,rfl⟩;rw [hW2] at hB2 HX2 ⊢;clear hW2;have HB2:=Lib.hid hB2;have HR2:=Lib.hid (HR.out.below hB2);clear hB2 HB1 HX
  go_wp2
  go_ret
  exact ⟨rfl,HB2.out⟩
set_option maxHeartbeats 2000000 in
theorem ext_large (hr:Rd w0 w K a s mb v xs q n c) (h:HeadV) (hw:waitF s q n c h.kind=none) (hz:1048576 < h.size) :
 Calls Tryz.prog 55 #[.pointer (some ⟨K.r,0,none⟩),.agg (headC h)] w fun e w' => e=.returned (.int .i64 10)∧Below w.heap.size w w':=by
 have HR:=Lib.hid hr;obtain ⟨kn,hkn⟩:∃ kn:Int,(h.kind.toNat:Int)=kn:=⟨_,rfl⟩;obtain ⟨W1,hW1⟩:∃ W1,w.alloc (.cells (headC h) 41)=W1:=⟨_,rfl⟩;have hB1:Below w.heap.size w W1:=by rw [← hW1];exact (Below.refl _ w).alloc (Nat.le_refl _) _
 have b1:Blk W1 w.heap.size 41 (headC h):=by rw [← hW1];exact Blk.new w _ _
 have R1:=hr.below hB1;have hB2:Below w.heap.size w (W1.alloc (.cells #[.string ⟨#[]⟩,.slice none 0 0] 131)):=hB1.alloc hB1.size _;have R2:=hr.below hB2;have l1:=look_ext (R1.idle ((Kept.refl noneB _).drew)).map h.kind kn hkn;have l2:=look_ext (R2.idle ((Kept.refl noneB _).drew)).map h.kind kn hkn;rw [hw] at l1 l2;simp only [Option.getD_none,Option.isSome_none] at l1 l2;have x2:=R1.c2;have k2:=b1.cell 2;simp only [headC,List.getElem?_toArray,List.getElem?_cons_zero,List.getElem?_cons_succ,hkn] at k2;have y2:=R2.c2;have j2:=(b1.alloc (.cells #[.string ⟨#[]⟩,.slice none 0 0] 131)).cell 2
 simp only [headC,List.getElem?_toArray,List.getElem?_cons_zero,List.getElem?_cons_succ,hkn] at j2;have HB1:=Lib.hid hB1;have HX:=Lib.hid b1;have HKN:=Lib.hid hkn;clear hr hw hkn R1 R2 b1 hB1 hB2
 go_enter Tryz.func55,Tryz.ntmps55
 go_upto_region 1 with fail
 clear hW1
 go_cut [5,6] from 13 to 22 (fun s5 s6 wx => s5=.pointer (some ⟨W1.heap.size,0,none⟩)∧s6=.bool false∧wx=(W1.alloc (.cells #[.string ⟨#[]⟩,.slice none 0 0] 131)).drew)
 case first =>
  go_region
  all_goals (go_wp2;go_meet;exact ⟨rfl,rfl,rfl⟩)
 case rest =>
  obtain ⟨rfl,rfl,rfl⟩:=hcut;clear l1 l2 x2 k2 y2 j2;have hB2:Below w.heap.size w (W1.alloc (.cells #[.string ⟨#[]⟩,.slice none 0 0] 131)).drew:=((HB1.out.alloc HB1.out.size _)).drew;have HX2:Hid (Blk (W1.alloc (.cells #[.string ⟨#[]⟩,.slice none 0 0] 131)).drew w.heap.size 41 (headC h)):=Lib.hid ((HX.out.alloc _).drew);obtain ⟨W2,hW2⟩:∃ W2,(W1.alloc (.cells #[.string ⟨#[]⟩,.slice none 0 0] 131)).drew=W2:=⟨_,rfl⟩;rw [hW2] at hB2 HX2 ⊢;clear hW2;have HB2:=Lib.hid hB2;have HR2:=Lib.hid (HR.out.below hB2);clear hB2 HB1 HX;have z7:=HX2.out.cell 7;simp only [headC,List.getElem?_toArray,List.getElem?_cons_zero,List.getElem?_cons_succ] at z7
  go_wp2
  go_ret
  exact ⟨rfl,HB2.out⟩
set_option maxHeartbeats 2000000 in
theorem ext_short (hr:Rd w0 w K a s mb v xs q n c) (h:HeadV) (hw:waitF s q n c h.kind=none) (k:Nat) (hk0:h.size=(k:Int)) (hz:k≤1048576) (hl:K.S.n < a+padN k) :
 Calls Tryz.prog 55 #[.pointer (some ⟨K.r,0,none⟩),.agg (headC h)] w fun e w' => e=.returned (.int .i64 2)∧Below w0.heap.size w0 w':=by
 have HBR:=Lib.hid hl;have HKL:=Lib.hid hz;have HSZ:=Lib.hid hk0;have hlarge:¬ (1048576:Int) < (k:Int):=by omega
 clear hl hz hk0;have HR:=Lib.hid hr;obtain ⟨kn,hkn⟩:∃ kn:Int,(h.kind.toNat:Int)=kn:=⟨_,rfl⟩;obtain ⟨W1,hW1⟩:∃ W1,w.alloc (.cells (headC h) 41)=W1:=⟨_,rfl⟩;have hB1:Below w.heap.size w W1:=by rw [← hW1];exact (Below.refl _ w).alloc (Nat.le_refl _) _
 have b1:Blk W1 w.heap.size 41 (headC h):=by rw [← hW1];exact Blk.new w _ _
 have R1:=hr.below hB1;have hB2:Below w.heap.size w (W1.alloc (.cells #[.string ⟨#[]⟩,.slice none 0 0] 131)):=hB1.alloc hB1.size _;have R2:=hr.below hB2;have l1:=look_ext (R1.idle ((Kept.refl noneB _).drew)).map h.kind kn hkn;have l2:=look_ext (R2.idle ((Kept.refl noneB _).drew)).map h.kind kn hkn;rw [hw] at l1 l2;simp only [Option.getD_none,Option.isSome_none] at l1 l2;have x2:=R1.c2;have k2:=b1.cell 2;simp only [headC,List.getElem?_toArray,List.getElem?_cons_zero,List.getElem?_cons_succ,hkn] at k2;have y2:=R2.c2;have j2:=(b1.alloc (.cells #[.string ⟨#[]⟩,.slice none 0 0] 131)).cell 2
 simp only [headC,List.getElem?_toArray,List.getElem?_cons_zero,List.getElem?_cons_succ,hkn] at j2;have HB1:=Lib.hid hB1;have HX:=Lib.hid b1;have HKN:=Lib.hid hkn;clear hr hw hkn R1 R2 b1 hB1 hB2
 go_enter Tryz.func55,Tryz.ntmps55
 go_upto_region 1 with fail
 clear hW1
 go_cut [5,6] from 13 to 22 (fun s5 s6 wx => s5=.pointer (some ⟨W1.heap.size,0,none⟩)∧s6=.bool false∧wx=(W1.alloc (.cells #[.string ⟨#[]⟩,.slice none 0 0] 131)).drew)
 case first =>
  go_region
  all_goals (go_wp2;go_meet;exact ⟨rfl,rfl,rfl⟩)
 case rest =>
  obtain ⟨rfl,rfl,rfl⟩:=hcut;clear l1 l2 x2 k2 y2 j2;have hB2:Below w.heap.size w (W1.alloc (.cells #[.string ⟨#[]⟩,.slice none 0 0] 131)).drew:=((HB1.out.alloc HB1.out.size _)).drew;have HX2:Hid (Blk (W1.alloc (.cells #[.string ⟨#[]⟩,.slice none 0 0] 131)).drew w.heap.size 41 (headC h)):=Lib.hid ((HX.out.alloc _).drew);obtain ⟨W2,hW2⟩:∃ W2,(W1.alloc (.cells #[.string ⟨#[]⟩,.slice none 0 0] 131)).drew=W2:=⟨_,rfl⟩;rw [hW2] at hB2 HX2 ⊢;clear hW2;have HB2:=Lib.hid hB2;have HR2:=Lib.hid (HR.out.below hB2);clear hB2 HB1 HX;have x0:=HR2.out.c0;have z7:=HX2.out.cell 7
  simp only [headC,List.getElem?_toArray,List.getElem?_cons_zero,List.getElem?_cons_succ,HSZ.out] at z7;have hRd:=HR2.out.idle ((Kept.refl noneB W2).drew);obtain ⟨t,hs⟩:=hRd.src
  have hne:w.heap.size≠K.g:=by
   obtain ⟨t',hs'⟩:=HR.out.src;have:=hs'.lt;omega
  have HRD:=Lib.hid hRd;have HNE:=Lib.hid hne;have hB:=body_no W2.drew K.g a t K.S hs hRd.off k HKL.out HBR.out;clear hs hRd hne
  go_upto_region 6 with fail
  go_region_held_law (fun w' => w'.cell? ⟨K.r,0,none⟩=some (.pointer (some ⟨K.g,0,none⟩))∧w'.cell? ⟨w.heap.size,7,none⟩=some (.int .i64 (k:Int))) (first | exact ⟨x0,z7⟩ | exact hS3)
   (first
    | (go_at_call 79
       refine hB.mono ?_
       rintro e w3 ⟨t',rfl,h4,h5⟩;have H3:=Lib.hid (HRD.out.moved h5 ⟨t',h4⟩);have HX3:Hid (Blk w3 w.heap.size 41 (headC h)):=Lib.hid ((HX2.out.drew).keptS h5 HNE.out);have HB3:=Lib.hid h5;have hS3:w3.cell? ⟨K.r,0,none⟩=some (.pointer (some ⟨K.g,0,none⟩))∧w3.cell? ⟨w.heap.size,7,none⟩=some (.int .i64 (k:Int)):=⟨H3.out.c0,by have:=HX3.out.cell 7;simp only [headC,List.getElem?_toArray,List.getElem?_cons_zero,List.getElem?_cons_succ,HSZ.out] at this;exact this⟩
       clear h4 h5))
  clear hB hS3 x0 z7
  go_wp2
  go_ret
  exact ⟨rfl,H3.out.bel⟩
theorem put_name (s:RS) (q:Option Addr) (n c:Nat) (T:List UInt8):(fun y => if y=76 then some (Value.agg #[.string (str T),.slice none 0 0]) else waitF s q n c y)=waitF { s with name:=some T } q n c:=by
 funext y
 unfold waitF
 by_cases h:y=76
 ·subst h;rfl
 ·simp [h]
theorem put_link (s:RS) (q:Option Addr) (n c:Nat) (T:List UInt8):(fun y => if y=75 then some (Value.agg #[.string (str T),.slice none 0 0]) else waitF s q n c y)=waitF { s with link:=some T } q n c:=by
 funext y
 unfold waitF
 by_cases h:y=75
 ·subst h;rfl
 ·simp [h]
theorem put_own (s:RS) (q q':Option Addr) (n c n' c':Nat) (rs:RecL):(fun y => if y=120 then some (Value.agg #[.string ⟨#[]⟩,.slice q' n' c']) else waitF s q n c y)=waitF { s with hasX:=true,own:=rs } q' n' c':=by
 funext y
 unfold waitF
 by_cases h:y=120
 ·subst h;rfl
 ·simp [h]
set_option maxHeartbeats 4000000 in
theorem ext_name (hr:Rd w0 w K a s mb v xs q n c) (h:HeadV) (hw:waitF s q n c h.kind=none) (k:Nat) (hk0:h.size=(k:Int)) (hz:k≤1048576) (X:List UInt8) (hX:(K.S.bs.drop a).take k=X) (hl:a+padN k≤K.S.n) (hkd:h.kind=76) :
 Calls Tryz.prog 55 #[.pointer (some ⟨K.r,0,none⟩),.agg (headC h)] w fun e w' => e=.returned (.int .i64 0)∧Left w0 K (a+padN k) { s with name:=some (untilB X) } w':=by
 have HXL:Hid (X.length=k):=Lib.hid (by
  obtain ⟨t,hs⟩:=hr.src;have:=padN_ge k;have:=hs.len
  rw [← hX,List.length_take,List.length_drop];omega)
 have HBR:=Lib.hid (And.intro hX hl);have HKL:=Lib.hid hz;have HSZ:=Lib.hid hk0;have hlarge:¬ (1048576:Int) < (k:Int):=by omega
 clear hl hX hk0 hz;have HKD:=Lib.hid hkd;clear hkd;have HR:=Lib.hid hr;obtain ⟨kn,hkn⟩:∃ kn:Int,(h.kind.toNat:Int)=kn:=⟨_,rfl⟩;obtain ⟨W1,hW1⟩:∃ W1,w.alloc (.cells (headC h) 41)=W1:=⟨_,rfl⟩;have hB1:Below w.heap.size w W1:=by rw [← hW1];exact (Below.refl _ w).alloc (Nat.le_refl _) _
 have b1:Blk W1 w.heap.size 41 (headC h):=by rw [← hW1];exact Blk.new w _ _
 have R1:=hr.below hB1;have hB2:Below w.heap.size w (W1.alloc (.cells #[.string ⟨#[]⟩,.slice none 0 0] 131)):=hB1.alloc hB1.size _;have R2:=hr.below hB2;have l1:=look_ext (R1.idle ((Kept.refl noneB _).drew)).map h.kind kn hkn;have l2:=look_ext (R2.idle ((Kept.refl noneB _).drew)).map h.kind kn hkn;rw [hw] at l1 l2;simp only [Option.getD_none,Option.isSome_none] at l1 l2;have x2:=R1.c2;have k2:=b1.cell 2;simp only [headC,List.getElem?_toArray,List.getElem?_cons_zero,List.getElem?_cons_succ,hkn] at k2;have y2:=R2.c2;have j2:=(b1.alloc (.cells #[.string ⟨#[]⟩,.slice none 0 0] 131)).cell 2
 simp only [headC,List.getElem?_toArray,List.getElem?_cons_zero,List.getElem?_cons_succ,hkn] at j2;have HB1:=Lib.hid hB1;have HX:=Lib.hid b1;have HKN:=Lib.hid hkn;clear hr hw hkn R1 R2 b1 hB1 hB2
 go_enter Tryz.func55,Tryz.ntmps55
 go_upto_region 1 with fail
 clear hW1
 go_cut [5,6] from 13 to 22 (fun s5 s6 wx => s5=.pointer (some ⟨W1.heap.size,0,none⟩)∧s6=.bool false∧wx=(W1.alloc (.cells #[.string ⟨#[]⟩,.slice none 0 0] 131)).drew)
 case first =>
  go_region
  all_goals (go_wp2;go_meet;exact ⟨rfl,rfl,rfl⟩)
 case rest =>
  obtain ⟨rfl,rfl,rfl⟩:=hcut;clear l1 l2 x2 k2 y2 j2;have hB2:Below w.heap.size w (W1.alloc (.cells #[.string ⟨#[]⟩,.slice none 0 0] 131)).drew:=((HB1.out.alloc HB1.out.size _)).drew;have HX2:Hid (Blk (W1.alloc (.cells #[.string ⟨#[]⟩,.slice none 0 0] 131)).drew w.heap.size 41 (headC h)):=Lib.hid ((HX.out.alloc _).drew);obtain ⟨W2,hW2⟩:∃ W2,(W1.alloc (.cells #[.string ⟨#[]⟩,.slice none 0 0] 131)).drew=W2:=⟨_,rfl⟩;rw [hW2] at hB2 HX2 ⊢;clear hW2;have HB2:=Lib.hid hB2;have HR2:=Lib.hid (HR.out.below hB2);clear hB2 HB1 HX;have x0:=HR2.out.c0;have z7:=HX2.out.cell 7
  simp only [headC,List.getElem?_toArray,List.getElem?_cons_zero,List.getElem?_cons_succ,HSZ.out] at z7;have hRd:=HR2.out.idle ((Kept.refl noneB W2).drew);obtain ⟨t,hs⟩:=hRd.src
  have hne:w.heap.size≠K.g:=by
   obtain ⟨t',hs'⟩:=HR.out.src;have:=hs'.lt;omega
  have HRD:=Lib.hid hRd;have HNE:=Lib.hid hne;have hB:=body_ok W2.drew K.g a t K.S hs hRd.off k HKL.out X HBR.out.1 HBR.out.2;clear hs hRd hne
  go_upto_region 6 with fail
  go_region_held_law (fun w' => w'.cell? ⟨K.r,0,none⟩=some (.pointer (some ⟨K.g,0,none⟩))∧w'.cell? ⟨w.heap.size,7,none⟩=some (.int .i64 (k:Int))) (first | exact ⟨x0,z7⟩ | exact hS3)
   (first
    | (go_at_call 79
       refine hB.mono ?_
       rintro e w3 ⟨p,t',rfl,h2,h3,h4,h5⟩;have H3:=Lib.hid (HRD.out.moved h5 ⟨t',h4⟩);have HX3:Hid (Blk w3 w.heap.size 41 (headC h)):=Lib.hid ((HX2.out.drew).keptS h5 HNE.out);have HB3:=Lib.hid (And.intro h2 h3);have hS3:w3.cell? ⟨K.r,0,none⟩=some (.pointer (some ⟨K.g,0,none⟩))∧w3.cell? ⟨w.heap.size,7,none⟩=some (.int .i64 (k:Int)):=⟨H3.out.c0,by have:=HX3.out.cell 7;simp only [headC,List.getElem?_toArray,List.getElem?_cons_zero,List.getElem?_cons_succ,HSZ.out] at this;exact this⟩
       clear h2 h3 h4 h5))
  clear hB hS3 x0 z7;have k3:=HX3.out.cell 2;simp only [headC,List.getElem?_toArray,List.getElem?_cons_zero,List.getElem?_cons_succ,HKN.out] at k3;obtain rfl:kn=76:=by rw [← HKN.out,HKD.out];rfl
  go_upto_region 10 with fail
  go_wp2_with fail
  refine (cutP_any p k w3.heap.size X _ HXL.out (by have:=HKL.out;omega) (HB3.out.1.alloc _) (Blk.cell (Blk.new w3 5 #[.int .u8 0]) 0)).mono ?_
  rintro e w4 ⟨v2,v3,rfl,hk4⟩;have hb4:Below w3.heap.size w3 w4:=(Kept.trans ((Kept.refl noneB w3).alloc _) hk4).below (Nat.le_refl _) (fun _ h => h.elim)
  have H4:=Lib.hid (H3.out.below hb4);have HX4:Hid (Blk w4 w.heap.size 41 (headC h)):=Lib.hid (HX3.out.below hb4 HX3.out.lt)
  have hB4:BAt w4 p (untilB X).length (untilB X):=by
   have h1:=(HB3.out.1.below hb4).take (k:=(untilB X).length) (by rw [← HXL.out];exact (until_le X).1)
   rwa [(until_le X).2] at h1
  have HB4:=Lib.hid hB4;clear hk4 hb4 hB4 k3
  go_upto_region 11 with fail
  have k4:=HX4.out.cell 2;simp only [headC,List.getElem?_toArray,List.getElem?_cons_zero,List.getElem?_cons_succ,HKN.out] at k4;have x4:=H4.out.c2;have cv4:(convert 24 9 (.slice p (untilB X).length k)).run Tryz.prog w4=.ok (.string (str (untilB X))) w4:=conv_at HB4.out rfl _ _ _ Tryz.underlying24 Tryz.underlying5 Tryz.underlying9 _;have cv4d:(convert 24 9 (.slice p (untilB X).length k)).run Tryz.prog w4.drew=.ok (.string (str (untilB X))) w4.drew:=conv_at (HB4.out.below ((Below.refl _ _).drew)) rfl _ _ _ Tryz.underlying24 Tryz.underlying5 Tryz.underlying9 _
  go_still_tail 9,(by kernel_rfl)
  refine wpList_putK (K:=u8K) rfl (.tmp 58) (.tmp 60) (.tmp 63) rfl Tryz.underlying72 Tryz.underlying5 K.mw (H4.out.idle ((Kept.refl noneB w4).drew)).map rfl 76 rfl (.agg #[.string (str (untilB X)),.slice none 0 0]) rfl ?_
  intro w5 hm5 hk5 hs5;have HM:=Lib.hid (And.intro hm5 (And.intro hk5 hs5));clear hm5 hk5 hs5
  go_wp2
  go_ret
  exact ⟨rfl,mb,v,xs,q,n,c,(H4.out.idle ((Kept.refl noneB w4).drew)).waits HM.out.2.1.out (by rw [← put_name];exact HM.out.1.out) (H4.out.idle ((Kept.refl noneB w4).drew)).own rfl rfl H4.out.own0 H4.out.ol (fun t ht => by cases ht;have:=(until_le X).1;rw [HXL.out] at this;have:=HKL.out;omega) H4.out.ll⟩
set_option maxHeartbeats 4000000 in
theorem ext_link (hr:Rd w0 w K a s mb v xs q n c) (h:HeadV) (hw:waitF s q n c h.kind=none) (k:Nat) (hk0:h.size=(k:Int)) (hz:k≤1048576) (X:List UInt8) (hX:(K.S.bs.drop a).take k=X) (hl:a+padN k≤K.S.n) (hkd:h.kind=75) :
 Calls Tryz.prog 55 #[.pointer (some ⟨K.r,0,none⟩),.agg (headC h)] w fun e w' => e=.returned (.int .i64 0)∧Left w0 K (a+padN k) { s with link:=some (untilB X) } w':=by
 have HXL:Hid (X.length=k):=Lib.hid (by
  obtain ⟨t,hs⟩:=hr.src;have:=padN_ge k;have:=hs.len
  rw [← hX,List.length_take,List.length_drop];omega)
 have HBR:=Lib.hid (And.intro hX hl);have HKL:=Lib.hid hz;have HSZ:=Lib.hid hk0;have hlarge:¬ (1048576:Int) < (k:Int):=by omega
 clear hl hX hk0 hz;have HKD:=Lib.hid hkd;clear hkd;have HR:=Lib.hid hr;obtain ⟨kn,hkn⟩:∃ kn:Int,(h.kind.toNat:Int)=kn:=⟨_,rfl⟩;obtain ⟨W1,hW1⟩:∃ W1,w.alloc (.cells (headC h) 41)=W1:=⟨_,rfl⟩;have hB1:Below w.heap.size w W1:=by rw [← hW1];exact (Below.refl _ w).alloc (Nat.le_refl _) _
 have b1:Blk W1 w.heap.size 41 (headC h):=by rw [← hW1];exact Blk.new w _ _
 have R1:=hr.below hB1;have hB2:Below w.heap.size w (W1.alloc (.cells #[.string ⟨#[]⟩,.slice none 0 0] 131)):=hB1.alloc hB1.size _;have R2:=hr.below hB2;have l1:=look_ext (R1.idle ((Kept.refl noneB _).drew)).map h.kind kn hkn;have l2:=look_ext (R2.idle ((Kept.refl noneB _).drew)).map h.kind kn hkn;rw [hw] at l1 l2;simp only [Option.getD_none,Option.isSome_none] at l1 l2;have x2:=R1.c2;have k2:=b1.cell 2;simp only [headC,List.getElem?_toArray,List.getElem?_cons_zero,List.getElem?_cons_succ,hkn] at k2;have y2:=R2.c2;have j2:=(b1.alloc (.cells #[.string ⟨#[]⟩,.slice none 0 0] 131)).cell 2
 simp only [headC,List.getElem?_toArray,List.getElem?_cons_zero,List.getElem?_cons_succ,hkn] at j2;have HB1:=Lib.hid hB1;have HX:=Lib.hid b1;have HKN:=Lib.hid hkn;clear hr hw hkn R1 R2 b1 hB1 hB2
 go_enter Tryz.func55,Tryz.ntmps55
 go_upto_region 1 with fail
 clear hW1
 go_cut [5,6] from 13 to 22 (fun s5 s6 wx => s5=.pointer (some ⟨W1.heap.size,0,none⟩)∧s6=.bool false∧wx=(W1.alloc (.cells #[.string ⟨#[]⟩,.slice none 0 0] 131)).drew)
 case first =>
  go_region
  all_goals (go_wp2;go_meet;exact ⟨rfl,rfl,rfl⟩)
 case rest =>
  obtain ⟨rfl,rfl,rfl⟩:=hcut;clear l1 l2 x2 k2 y2 j2;have hB2:Below w.heap.size w (W1.alloc (.cells #[.string ⟨#[]⟩,.slice none 0 0] 131)).drew:=((HB1.out.alloc HB1.out.size _)).drew;have HX2:Hid (Blk (W1.alloc (.cells #[.string ⟨#[]⟩,.slice none 0 0] 131)).drew w.heap.size 41 (headC h)):=Lib.hid ((HX.out.alloc _).drew);obtain ⟨W2,hW2⟩:∃ W2,(W1.alloc (.cells #[.string ⟨#[]⟩,.slice none 0 0] 131)).drew=W2:=⟨_,rfl⟩;rw [hW2] at hB2 HX2 ⊢;clear hW2;have HB2:=Lib.hid hB2;have HR2:=Lib.hid (HR.out.below hB2);clear hB2 HB1 HX;have x0:=HR2.out.c0;have z7:=HX2.out.cell 7
  simp only [headC,List.getElem?_toArray,List.getElem?_cons_zero,List.getElem?_cons_succ,HSZ.out] at z7;have hRd:=HR2.out.idle ((Kept.refl noneB W2).drew);obtain ⟨t,hs⟩:=hRd.src
  have hne:w.heap.size≠K.g:=by
   obtain ⟨t',hs'⟩:=HR.out.src;have:=hs'.lt;omega
  have HRD:=Lib.hid hRd;have HNE:=Lib.hid hne;have hB:=body_ok W2.drew K.g a t K.S hs hRd.off k HKL.out X HBR.out.1 HBR.out.2;clear hs hRd hne
  go_upto_region 6 with fail
  go_region_held_law (fun w' => w'.cell? ⟨K.r,0,none⟩=some (.pointer (some ⟨K.g,0,none⟩))∧w'.cell? ⟨w.heap.size,7,none⟩=some (.int .i64 (k:Int))) (first | exact ⟨x0,z7⟩ | exact hS3)
   (first
    | (go_at_call 79
       refine hB.mono ?_
       rintro e w3 ⟨p,t',rfl,h2,h3,h4,h5⟩;have H3:=Lib.hid (HRD.out.moved h5 ⟨t',h4⟩);have HX3:Hid (Blk w3 w.heap.size 41 (headC h)):=Lib.hid ((HX2.out.drew).keptS h5 HNE.out);have HB3:=Lib.hid (And.intro h2 h3);have hS3:w3.cell? ⟨K.r,0,none⟩=some (.pointer (some ⟨K.g,0,none⟩))∧w3.cell? ⟨w.heap.size,7,none⟩=some (.int .i64 (k:Int)):=⟨H3.out.c0,by have:=HX3.out.cell 7;simp only [headC,List.getElem?_toArray,List.getElem?_cons_zero,List.getElem?_cons_succ,HSZ.out] at this;exact this⟩
       clear h2 h3 h4 h5))
  clear hB hS3 x0 z7;have k3:=HX3.out.cell 2;simp only [headC,List.getElem?_toArray,List.getElem?_cons_zero,List.getElem?_cons_succ,HKN.out] at k3;obtain rfl:kn=75:=by rw [← HKN.out,HKD.out];rfl
  go_upto_region 10 with fail
  go_wp2_with fail
  refine (cutP_any p k w3.heap.size X _ HXL.out (by have:=HKL.out;omega) (HB3.out.1.alloc _) (Blk.cell (Blk.new w3 5 #[.int .u8 0]) 0)).mono ?_
  rintro e w4 ⟨v2,v3,rfl,hk4⟩;have hb4:Below w3.heap.size w3 w4:=(Kept.trans ((Kept.refl noneB w3).alloc _) hk4).below (Nat.le_refl _) (fun _ h => h.elim)
  have H4:=Lib.hid (H3.out.below hb4);have HX4:Hid (Blk w4 w.heap.size 41 (headC h)):=Lib.hid (HX3.out.below hb4 HX3.out.lt)
  have hB4:BAt w4 p (untilB X).length (untilB X):=by
   have h1:=(HB3.out.1.below hb4).take (k:=(untilB X).length) (by rw [← HXL.out];exact (until_le X).1)
   rwa [(until_le X).2] at h1
  have HB4:=Lib.hid hB4;clear hk4 hb4 hB4 k3
  go_upto_region 11 with fail
  have k4:=HX4.out.cell 2;simp only [headC,List.getElem?_toArray,List.getElem?_cons_zero,List.getElem?_cons_succ,HKN.out] at k4;have x4:=H4.out.c2;have cv4:(convert 24 9 (.slice p (untilB X).length k)).run Tryz.prog w4=.ok (.string (str (untilB X))) w4:=conv_at HB4.out rfl _ _ _ Tryz.underlying24 Tryz.underlying5 Tryz.underlying9 _;have cv4d:(convert 24 9 (.slice p (untilB X).length k)).run Tryz.prog w4.drew=.ok (.string (str (untilB X))) w4.drew:=conv_at (HB4.out.below ((Below.refl _ _).drew)) rfl _ _ _ Tryz.underlying24 Tryz.underlying5 Tryz.underlying9 _
  go_still_tail 9,(by kernel_rfl)
  refine wpList_putK (K:=u8K) rfl (.tmp 58) (.tmp 60) (.tmp 63) rfl Tryz.underlying72 Tryz.underlying5 K.mw (H4.out.idle ((Kept.refl noneB w4).drew)).map rfl 75 rfl (.agg #[.string (str (untilB X)),.slice none 0 0]) rfl ?_
  intro w5 hm5 hk5 hs5;have HM:=Lib.hid (And.intro hm5 (And.intro hk5 hs5));clear hm5 hk5 hs5
  go_wp2
  go_ret
  exact ⟨rfl,mb,v,xs,q,n,c,(H4.out.idle ((Kept.refl noneB w4).drew)).waits HM.out.2.1.out (by rw [← put_link];exact HM.out.1.out) (H4.out.idle ((Kept.refl noneB w4).drew)).own rfl rfl H4.out.own0 H4.out.ol H4.out.nl (fun t ht => by cases ht;have:=(until_le X).1;rw [HXL.out] at this;have:=HKL.out;omega)⟩
end
end Go.Proofs.YtnpkcneojilmkaaGreatDoor.Mem
end
section
namespace Go.Proofs.YtnpkcneojilmkaaGreatDoor.Mem
open Go.ChangeShapes Go.WideShapes Go.ChangeAt Go.RowKit Base Byt Txt Bk Mk Block Hp Head Attr Rec Go.Lib Go.Shelf
set_option linter.unusedVariables false
set_option maxRecDepth 100000
section
variable {w0 w w':World} {K:RK} {a:Nat} {s:RS} {mb:Option Nat} {v:Value} {xs:List MP} {q:Option Addr} {n c:Nat}
set_option maxHeartbeats 4000000 in
theorem ext_recbad (hr:Rd w0 w K a s mb v xs q n c) (h:HeadV) (hw:waitF s q n c h.kind=none) (k:Nat) (hk0:h.size=(k:Int)) (hz:k≤1048576) (X:List UInt8) (hX:(K.S.bs.drop a).take k=X) (hl:a+padN k≤K.S.n) (E:Int) (hE:(recsD 5 9 X).2=E) (hE0:E≠0) (hnk:(h.kind.toNat:Int)≠76∧(h.kind.toNat:Int)≠75) (hN:Need w0) :
 Calls Tryz.prog 55 #[.pointer (some ⟨K.r,0,none⟩),.agg (headC h)] w fun e w' => e=.returned (.int .i64 E)∧Below w0.heap.size w0 w':=by
 have HXL:Hid (X.length=k):=Lib.hid (by
  obtain ⟨t,hs⟩:=hr.src;have:=padN_ge k;have:=hs.len
  rw [← hX,List.length_take,List.length_drop];omega)
 have HBR:=Lib.hid (And.intro hX hl);have HKL:=Lib.hid hz;have HSZ:=Lib.hid hk0;have hlarge:¬ (1048576:Int) < (k:Int):=by omega
 clear hl hX hk0 hz;have HEE:=Lib.hid hE;have HE0:=Lib.hid hE0;have HNK:=Lib.hid hnk;have HND:=Lib.hid hN;clear hE hE0 hnk hN;have HR:=Lib.hid hr;obtain ⟨kn,hkn⟩:∃ kn:Int,(h.kind.toNat:Int)=kn:=⟨_,rfl⟩;obtain ⟨W1,hW1⟩:∃ W1,w.alloc (.cells (headC h) 41)=W1:=⟨_,rfl⟩;have hB1:Below w.heap.size w W1:=by rw [← hW1];exact (Below.refl _ w).alloc (Nat.le_refl _) _
 have b1:Blk W1 w.heap.size 41 (headC h):=by rw [← hW1];exact Blk.new w _ _
 have R1:=hr.below hB1;have hB2:Below w.heap.size w (W1.alloc (.cells #[.string ⟨#[]⟩,.slice none 0 0] 131)):=hB1.alloc hB1.size _;have R2:=hr.below hB2;have l1:=look_ext (R1.idle ((Kept.refl noneB _).drew)).map h.kind kn hkn;have l2:=look_ext (R2.idle ((Kept.refl noneB _).drew)).map h.kind kn hkn;rw [hw] at l1 l2;simp only [Option.getD_none,Option.isSome_none] at l1 l2;have x2:=R1.c2;have k2:=b1.cell 2;simp only [headC,List.getElem?_toArray,List.getElem?_cons_zero,List.getElem?_cons_succ,hkn] at k2;have y2:=R2.c2;have j2:=(b1.alloc (.cells #[.string ⟨#[]⟩,.slice none 0 0] 131)).cell 2
 simp only [headC,List.getElem?_toArray,List.getElem?_cons_zero,List.getElem?_cons_succ,hkn] at j2;have HB1:=Lib.hid hB1;have HX:=Lib.hid b1;have HKN:=Lib.hid hkn;clear hr hw hkn R1 R2 b1 hB1 hB2
 go_enter Tryz.func55,Tryz.ntmps55
 go_upto_region 1 with fail
 clear hW1
 go_cut [5,6] from 13 to 22 (fun s5 s6 wx => s5=.pointer (some ⟨W1.heap.size,0,none⟩)∧s6=.bool false∧wx=(W1.alloc (.cells #[.string ⟨#[]⟩,.slice none 0 0] 131)).drew)
 case first =>
  go_region
  all_goals (go_wp2;go_meet;exact ⟨rfl,rfl,rfl⟩)
 case rest =>
  obtain ⟨rfl,rfl,rfl⟩:=hcut;clear l1 l2 x2 k2 y2 j2;have hB2:Below w.heap.size w (W1.alloc (.cells #[.string ⟨#[]⟩,.slice none 0 0] 131)).drew:=((HB1.out.alloc HB1.out.size _)).drew;have HX2:Hid (Blk (W1.alloc (.cells #[.string ⟨#[]⟩,.slice none 0 0] 131)).drew w.heap.size 41 (headC h)):=Lib.hid ((HX.out.alloc _).drew);obtain ⟨W2,hW2⟩:∃ W2,(W1.alloc (.cells #[.string ⟨#[]⟩,.slice none 0 0] 131)).drew=W2:=⟨_,rfl⟩;rw [hW2] at hB2 HX2 ⊢;clear hW2;have HB2:=Lib.hid hB2;have HR2:=Lib.hid (HR.out.below hB2);clear hB2 HB1 HX;have x0:=HR2.out.c0;have z7:=HX2.out.cell 7
  simp only [headC,List.getElem?_toArray,List.getElem?_cons_zero,List.getElem?_cons_succ,HSZ.out] at z7;have hRd:=HR2.out.idle ((Kept.refl noneB W2).drew);obtain ⟨t,hs⟩:=hRd.src
  have hne:w.heap.size≠K.g:=by
   obtain ⟨t',hs'⟩:=HR.out.src;have:=hs'.lt;omega
  have HRD:=Lib.hid hRd;have HNE:=Lib.hid hne;have hB:=body_ok W2.drew K.g a t K.S hs hRd.off k HKL.out X HBR.out.1 HBR.out.2;clear hs hRd hne
  go_upto_region 6 with fail
  go_region_held_law (fun w' => w'.cell? ⟨K.r,0,none⟩=some (.pointer (some ⟨K.g,0,none⟩))∧w'.cell? ⟨w.heap.size,7,none⟩=some (.int .i64 (k:Int))) (first | exact ⟨x0,z7⟩ | exact hS3)
   (first
    | (go_at_call 79
       refine hB.mono ?_
       rintro e w3 ⟨p,t',rfl,h2,h3,h4,h5⟩;have H3:=Lib.hid (HRD.out.moved h5 ⟨t',h4⟩);have HX3:Hid (Blk w3 w.heap.size 41 (headC h)):=Lib.hid ((HX2.out.drew).keptS h5 HNE.out);have HB3:=Lib.hid (And.intro h2 h3);have hS3:w3.cell? ⟨K.r,0,none⟩=some (.pointer (some ⟨K.g,0,none⟩))∧w3.cell? ⟨w.heap.size,7,none⟩=some (.int .i64 (k:Int)):=⟨H3.out.c0,by have:=HX3.out.cell 7;simp only [headC,List.getElem?_toArray,List.getElem?_cons_zero,List.getElem?_cons_succ,HSZ.out] at this;exact this⟩
       clear h2 h3 h4 h5))
  clear hB hS3 x0 z7;have k3:=HX3.out.cell 2;simp only [headC,List.getElem?_toArray,List.getElem?_cons_zero,List.getElem?_cons_succ,HKN.out] at k3;have e1:(kn == 76)=false:=by have:=HNK.out.1;rw [HKN.out] at this;simpa using this
  have e2:(kn == 75)=false:=by have:=HNK.out.2;rw [HKN.out] at this;simpa using this
  go_upto_region 13 with fail
  go_wp2_with fail
  refine (recParse_any p k k X w3 HXL.out (Nat.le_refl _) (by have:=HKL.out;omega) HB3.out.1 (H3.out.need HND.out)).mono ?_
  rintro e w4 ⟨p4,c4,rfl,_,_,hr4,hb4⟩;obtain ⟨⟨rs,er⟩,hrs⟩:∃ x,recsD 5 9 X=x:=⟨_,rfl⟩;have hlen:=recsD_len 5 9 X;rw [hrs] at hr4 hlen;simp only [hrs];rw [HXL.out] at hlen;have HRS:Hid (recsD 5 9 X=(rs,er)):=Lib.hid hrs;obtain ⟨rl,hrl⟩:∃ rl,rs.length=rl:=⟨_,rfl⟩;simp only [hrl] at hr4 ⊢;have H4:=Lib.hid (H3.out.below hb4);have HX4:Hid (Blk w4 w.heap.size 41 (headC h)):=Lib.hid (HX3.out.below hb4 HX3.out.lt);have HR4:=Lib.hid hr4;have HLN:=Lib.hid hlen;have HRLN:=Lib.hid hrl;clear hr4 hlen hb4 hrs hrl k3;obtain rfl:er=E:=by have:=HEE.out;rw [HRS.out] at this;exact this
  have hne0:(er != 0)=true:=by simpa using HE0.out
  go_wp2
  go_ret
  exact ⟨rfl,H4.out.bel⟩
set_option maxHeartbeats 4000000 in
theorem ext_glob (hr:Rd w0 w K a s mb v xs q n c) (h:HeadV) (hw:waitF s q n c h.kind=none) (k:Nat) (hk0:h.size=(k:Int)) (hz:k≤1048576) (X:List UInt8) (hX:(K.S.bs.drop a).take k=X) (hl:a+padN k≤K.S.n) (R:RecL) (hR:recsD 5 9 X=(R,0)) (hkd:h.kind=103) (hN:Need w0) :
 Calls Tryz.prog 55 #[.pointer (some ⟨K.r,0,none⟩),.agg (headC h)] w fun e w' => e=.returned (.int .i64 0)∧Left w0 K (a+padN k) { s with glob:=s.glob++R } w':=by
 have HXL:Hid (X.length=k):=Lib.hid (by
  obtain ⟨t,hs⟩:=hr.src;have:=padN_ge k;have:=hs.len
  rw [← hX,List.length_take,List.length_drop];omega)
 have HBR:=Lib.hid (And.intro hX hl);have HKL:=Lib.hid hz;have HSZ:=Lib.hid hk0;have hlarge:¬ (1048576:Int) < (k:Int):=by omega
 clear hl hX hk0 hz;have HEE:=Lib.hid hR;have HKD:=Lib.hid hkd;have HND:=Lib.hid hN;clear hR hkd hN;have HR:=Lib.hid hr;obtain ⟨kn,hkn⟩:∃ kn:Int,(h.kind.toNat:Int)=kn:=⟨_,rfl⟩;obtain ⟨W1,hW1⟩:∃ W1,w.alloc (.cells (headC h) 41)=W1:=⟨_,rfl⟩;have hB1:Below w.heap.size w W1:=by rw [← hW1];exact (Below.refl _ w).alloc (Nat.le_refl _) _
 have b1:Blk W1 w.heap.size 41 (headC h):=by rw [← hW1];exact Blk.new w _ _
 have R1:=hr.below hB1;have hB2:Below w.heap.size w (W1.alloc (.cells #[.string ⟨#[]⟩,.slice none 0 0] 131)):=hB1.alloc hB1.size _;have R2:=hr.below hB2;have l1:=look_ext (R1.idle ((Kept.refl noneB _).drew)).map h.kind kn hkn;have l2:=look_ext (R2.idle ((Kept.refl noneB _).drew)).map h.kind kn hkn;rw [hw] at l1 l2;simp only [Option.getD_none,Option.isSome_none] at l1 l2;have x2:=R1.c2;have k2:=b1.cell 2;simp only [headC,List.getElem?_toArray,List.getElem?_cons_zero,List.getElem?_cons_succ,hkn] at k2;have y2:=R2.c2;have j2:=(b1.alloc (.cells #[.string ⟨#[]⟩,.slice none 0 0] 131)).cell 2
 simp only [headC,List.getElem?_toArray,List.getElem?_cons_zero,List.getElem?_cons_succ,hkn] at j2;have HB1:=Lib.hid hB1;have HX:=Lib.hid b1;have HKN:=Lib.hid hkn;clear hr hw hkn R1 R2 b1 hB1 hB2
 go_enter Tryz.func55,Tryz.ntmps55
 go_upto_region 1 with fail
 clear hW1
 go_cut [5,6] from 13 to 22 (fun s5 s6 wx => s5=.pointer (some ⟨W1.heap.size,0,none⟩)∧s6=.bool false∧wx=(W1.alloc (.cells #[.string ⟨#[]⟩,.slice none 0 0] 131)).drew)
 case first =>
  go_region
  all_goals (go_wp2;go_meet;exact ⟨rfl,rfl,rfl⟩)
 case rest =>
  obtain ⟨rfl,rfl,rfl⟩:=hcut;clear l1 l2 x2 k2 y2 j2;have hB2:Below w.heap.size w (W1.alloc (.cells #[.string ⟨#[]⟩,.slice none 0 0] 131)).drew:=((HB1.out.alloc HB1.out.size _)).drew;have HX2:Hid (Blk (W1.alloc (.cells #[.string ⟨#[]⟩,.slice none 0 0] 131)).drew w.heap.size 41 (headC h)):=Lib.hid ((HX.out.alloc _).drew);obtain ⟨W2,hW2⟩:∃ W2,(W1.alloc (.cells #[.string ⟨#[]⟩,.slice none 0 0] 131)).drew=W2:=⟨_,rfl⟩;rw [hW2] at hB2 HX2 ⊢;clear hW2;have HB2:=Lib.hid hB2;have HR2:=Lib.hid (HR.out.below hB2);clear hB2 HB1 HX;have x0:=HR2.out.c0;have z7:=HX2.out.cell 7
  simp only [headC,List.getElem?_toArray,List.getElem?_cons_zero,List.getElem?_cons_succ,HSZ.out] at z7;have hRd:=HR2.out.idle ((Kept.refl noneB W2).drew);obtain ⟨t,hs⟩:=hRd.src
  have hne:w.heap.size≠K.g:=by
   obtain ⟨t',hs'⟩:=HR.out.src;have:=hs'.lt;omega
  have HRD:=Lib.hid hRd;have HNE:=Lib.hid hne;have hB:=body_ok W2.drew K.g a t K.S hs hRd.off k HKL.out X HBR.out.1 HBR.out.2;clear hs hRd hne
  go_upto_region 6 with fail
  go_region_held_law (fun w' => w'.cell? ⟨K.r,0,none⟩=some (.pointer (some ⟨K.g,0,none⟩))∧w'.cell? ⟨w.heap.size,7,none⟩=some (.int .i64 (k:Int))) (first | exact ⟨x0,z7⟩ | exact hS3)
   (first
    | (go_at_call 79
       refine hB.mono ?_
       rintro e w3 ⟨p,t',rfl,h2,h3,h4,h5⟩;have H3:=Lib.hid (HRD.out.moved h5 ⟨t',h4⟩);have HX3:Hid (Blk w3 w.heap.size 41 (headC h)):=Lib.hid ((HX2.out.drew).keptS h5 HNE.out);have HB3:=Lib.hid (And.intro h2 h3);have hS3:w3.cell? ⟨K.r,0,none⟩=some (.pointer (some ⟨K.g,0,none⟩))∧w3.cell? ⟨w.heap.size,7,none⟩=some (.int .i64 (k:Int)):=⟨H3.out.c0,by have:=HX3.out.cell 7;simp only [headC,List.getElem?_toArray,List.getElem?_cons_zero,List.getElem?_cons_succ,HSZ.out] at this;exact this⟩
       clear h2 h3 h4 h5))
  clear hB hS3 x0 z7;have k3:=HX3.out.cell 2;simp only [headC,List.getElem?_toArray,List.getElem?_cons_zero,List.getElem?_cons_succ,HKN.out] at k3;obtain rfl:kn=103:=by rw [← HKN.out,HKD.out];rfl
  go_upto_region 13 with fail
  go_wp2_with fail
  refine (recParse_any p k k X w3 HXL.out (Nat.le_refl _) (by have:=HKL.out;omega) HB3.out.1 (H3.out.need HND.out)).mono ?_
  rintro e w4 ⟨p4,c4,rfl,_,_,hr4,hb4⟩;obtain ⟨⟨rs,er⟩,hrs⟩:∃ x,recsD 5 9 X=x:=⟨_,rfl⟩;have hlen:=recsD_len 5 9 X;rw [hrs] at hr4 hlen;simp only [hrs];rw [HXL.out] at hlen;have HRS:Hid (recsD 5 9 X=(rs,er)):=Lib.hid hrs;obtain ⟨rl,hrl⟩:∃ rl,rs.length=rl:=⟨_,rfl⟩;simp only [hrl] at hr4 ⊢;have H4:=Lib.hid (H3.out.below hb4);have HX4:Hid (Blk w4 w.heap.size 41 (headC h)):=Lib.hid (HX3.out.below hb4 HX3.out.lt);have HR4:=Lib.hid hr4;have HLN:=Lib.hid hlen;have HRLN:=Lib.hid hrl;clear hr4 hlen hb4 hrs hrl k3;obtain rfl:er=0:=by have:=HEE.out;rw [HRS.out] at this;exact congrArg Prod.snd this
  obtain rfl:rs=R:=by have:=HEE.out;rw [HRS.out] at this;exact congrArg Prod.fst this
  have k4:=HX4.out.cell 2;simp only [headC,List.getElem?_toArray,List.getElem?_cons_zero,List.getElem?_cons_succ,HKN.out] at k4;have x1:=H4.out.c1
  go_wp2_with fail
  refine (show Calls _ _ _ _ (GlobPost _ K.gs mb (lastD s.glob) rs) from global_any K.gs mb (lastD s.glob) p4 rl _ rs _ H4.out.st (by have:=HLN.out.2;rw [HRLN.out] at this;have:=HKL.out;omega) HR4.out).mono ?_
  rintro e w5 ⟨rfl,B,hs5,hk5,hB5⟩;have F:=Lib.hid (H4.out.globs hs5 hk5 hB5 (fun r hr => by have:=HLN.out.1 r hr;have:=HKL.out;omega))
  clear hs5 hk5 hB5 k4 x1
  go_wp2
  go_ret
  exact ⟨rfl,some B,v,xs,q,n,c,F.out⟩
set_option maxHeartbeats 4000000 in
theorem ext_own (hr:Rd w0 w K a s mb v xs q n c) (h:HeadV) (hw:waitF s q n c h.kind=none) (k:Nat) (hk0:h.size=(k:Int)) (hz:k≤1048576) (X:List UInt8) (hX:(K.S.bs.drop a).take k=X) (hl:a+padN k≤K.S.n) (R:RecL) (hR:recsD 5 9 X=(R,0)) (hkd:h.kind=120) (hN:Need w0) :
 Calls Tryz.prog 55 #[.pointer (some ⟨K.r,0,none⟩),.agg (headC h)] w fun e w' => e=.returned (.int .i64 0)∧Left w0 K (a+padN k) { s with hasX:=true,own:=R } w':=by
 have HXL:Hid (X.length=k):=Lib.hid (by
  obtain ⟨t,hs⟩:=hr.src;have:=padN_ge k;have:=hs.len
  rw [← hX,List.length_take,List.length_drop];omega)
 have HBR:=Lib.hid (And.intro hX hl);have HKL:=Lib.hid hz;have HSZ:=Lib.hid hk0;have hlarge:¬ (1048576:Int) < (k:Int):=by omega
 clear hl hX hk0 hz;have HEE:=Lib.hid hR;have HKD:=Lib.hid hkd;have HND:=Lib.hid hN;clear hR hkd hN;have HR:=Lib.hid hr;obtain ⟨kn,hkn⟩:∃ kn:Int,(h.kind.toNat:Int)=kn:=⟨_,rfl⟩;obtain ⟨W1,hW1⟩:∃ W1,w.alloc (.cells (headC h) 41)=W1:=⟨_,rfl⟩;have hB1:Below w.heap.size w W1:=by rw [← hW1];exact (Below.refl _ w).alloc (Nat.le_refl _) _
 have b1:Blk W1 w.heap.size 41 (headC h):=by rw [← hW1];exact Blk.new w _ _
 have R1:=hr.below hB1;have hB2:Below w.heap.size w (W1.alloc (.cells #[.string ⟨#[]⟩,.slice none 0 0] 131)):=hB1.alloc hB1.size _;have R2:=hr.below hB2;have l1:=look_ext (R1.idle ((Kept.refl noneB _).drew)).map h.kind kn hkn;have l2:=look_ext (R2.idle ((Kept.refl noneB _).drew)).map h.kind kn hkn;rw [hw] at l1 l2;simp only [Option.getD_none,Option.isSome_none] at l1 l2;have x2:=R1.c2;have k2:=b1.cell 2;simp only [headC,List.getElem?_toArray,List.getElem?_cons_zero,List.getElem?_cons_succ,hkn] at k2;have y2:=R2.c2;have j2:=(b1.alloc (.cells #[.string ⟨#[]⟩,.slice none 0 0] 131)).cell 2
 simp only [headC,List.getElem?_toArray,List.getElem?_cons_zero,List.getElem?_cons_succ,hkn] at j2;have HB1:=Lib.hid hB1;have HX:=Lib.hid b1;have HKN:=Lib.hid hkn;clear hr hw hkn R1 R2 b1 hB1 hB2
 go_enter Tryz.func55,Tryz.ntmps55
 go_upto_region 1 with fail
 clear hW1
 go_cut [5,6] from 13 to 22 (fun s5 s6 wx => s5=.pointer (some ⟨W1.heap.size,0,none⟩)∧s6=.bool false∧wx=(W1.alloc (.cells #[.string ⟨#[]⟩,.slice none 0 0] 131)).drew)
 case first =>
  go_region
  all_goals (go_wp2;go_meet;exact ⟨rfl,rfl,rfl⟩)
 case rest =>
  obtain ⟨rfl,rfl,rfl⟩:=hcut;clear l1 l2 x2 k2 y2 j2;have hB2:Below w.heap.size w (W1.alloc (.cells #[.string ⟨#[]⟩,.slice none 0 0] 131)).drew:=((HB1.out.alloc HB1.out.size _)).drew;have HX2:Hid (Blk (W1.alloc (.cells #[.string ⟨#[]⟩,.slice none 0 0] 131)).drew w.heap.size 41 (headC h)):=Lib.hid ((HX.out.alloc _).drew);obtain ⟨W2,hW2⟩:∃ W2,(W1.alloc (.cells #[.string ⟨#[]⟩,.slice none 0 0] 131)).drew=W2:=⟨_,rfl⟩;rw [hW2] at hB2 HX2 ⊢;clear hW2;have HB2:=Lib.hid hB2;have HR2:=Lib.hid (HR.out.below hB2);clear hB2 HB1 HX;have x0:=HR2.out.c0;have z7:=HX2.out.cell 7
  simp only [headC,List.getElem?_toArray,List.getElem?_cons_zero,List.getElem?_cons_succ,HSZ.out] at z7;have hRd:=HR2.out.idle ((Kept.refl noneB W2).drew);obtain ⟨t,hs⟩:=hRd.src
  have hne:w.heap.size≠K.g:=by
   obtain ⟨t',hs'⟩:=HR.out.src;have:=hs'.lt;omega
  have HRD:=Lib.hid hRd;have HNE:=Lib.hid hne;have hB:=body_ok W2.drew K.g a t K.S hs hRd.off k HKL.out X HBR.out.1 HBR.out.2;clear hs hRd hne
  go_upto_region 6 with fail
  go_region_held_law (fun w' => w'.cell? ⟨K.r,0,none⟩=some (.pointer (some ⟨K.g,0,none⟩))∧w'.cell? ⟨w.heap.size,7,none⟩=some (.int .i64 (k:Int))) (first | exact ⟨x0,z7⟩ | exact hS3)
   (first
    | (go_at_call 79
       refine hB.mono ?_
       rintro e w3 ⟨p,t',rfl,h2,h3,h4,h5⟩;have H3:=Lib.hid (HRD.out.moved h5 ⟨t',h4⟩);have HX3:Hid (Blk w3 w.heap.size 41 (headC h)):=Lib.hid ((HX2.out.drew).keptS h5 HNE.out);have HB3:=Lib.hid (And.intro h2 h3);have hS3:w3.cell? ⟨K.r,0,none⟩=some (.pointer (some ⟨K.g,0,none⟩))∧w3.cell? ⟨w.heap.size,7,none⟩=some (.int .i64 (k:Int)):=⟨H3.out.c0,by have:=HX3.out.cell 7;simp only [headC,List.getElem?_toArray,List.getElem?_cons_zero,List.getElem?_cons_succ,HSZ.out] at this;exact this⟩
       clear h2 h3 h4 h5))
  clear hB hS3 x0 z7;have k3:=HX3.out.cell 2;simp only [headC,List.getElem?_toArray,List.getElem?_cons_zero,List.getElem?_cons_succ,HKN.out] at k3;obtain rfl:kn=120:=by rw [← HKN.out,HKD.out];rfl
  go_upto_region 13 with fail
  go_wp2_with fail
  refine (recParse_any p k k X w3 HXL.out (Nat.le_refl _) (by have:=HKL.out;omega) HB3.out.1 (H3.out.need HND.out)).mono ?_
  rintro e w4 ⟨p4,c4,rfl,_,_,hr4,hb4⟩;obtain ⟨⟨rs,er⟩,hrs⟩:∃ x,recsD 5 9 X=x:=⟨_,rfl⟩;have hlen:=recsD_len 5 9 X;rw [hrs] at hr4 hlen;simp only [hrs];rw [HXL.out] at hlen;have HRS:Hid (recsD 5 9 X=(rs,er)):=Lib.hid hrs;obtain ⟨rl,hrl⟩:∃ rl,rs.length=rl:=⟨_,rfl⟩;simp only [hrl] at hr4 ⊢;have H4:=Lib.hid (H3.out.below hb4);have HX4:Hid (Blk w4 w.heap.size 41 (headC h)):=Lib.hid (HX3.out.below hb4 HX3.out.lt);have HR4:=Lib.hid hr4;have HLN:=Lib.hid hlen;have HRLN:=Lib.hid hrl;clear hr4 hlen hb4 hrs hrl k3;obtain rfl:er=0:=by have:=HEE.out;rw [HRS.out] at this;exact congrArg Prod.snd this
  obtain rfl:rs=R:=by have:=HEE.out;rw [HRS.out] at this;exact congrArg Prod.fst this
  have k4:=HX4.out.cell 2;simp only [headC,List.getElem?_toArray,List.getElem?_cons_zero,List.getElem?_cons_succ,HKN.out] at k4
  go_upto_region 19 with fail
  have x4:=H4.out.c2
  go_still_tail 8,(by kernel_rfl)
  refine wpList_putK (K:=u8K) rfl (.tmp 84) (.tmp 86) (.tmp 88) rfl Tryz.underlying72 Tryz.underlying5 K.mw (H4.out.idle ((Kept.refl noneB w4).drew)).map rfl 120 rfl (.agg #[.string ⟨#[]⟩,.slice p4 rl c4]) rfl ?_
  intro w5 hm5 hk5 hs5;have HM:=Lib.hid (And.intro hm5 (And.intro hk5 hs5));clear hm5 hk5 hs5
  go_wp2
  go_ret
  exact ⟨rfl,mb,v,xs,p4,rl,c4,(H4.out.idle ((Kept.refl noneB w4).drew)).waits HM.out.2.1.out (by rw [← put_own s q p4 n c rl c4 rs];exact HM.out.1.out) (recsAt_kept HR4.out ((Kept.refl noneB w4).drew) (fun _ _ _ => id)) rfl rfl (fun h => by cases h) ⟨fun r hr => by have:=HLN.out.1 r hr;have:=HKL.out;omega,by show rs.length≤1048576;have:=HLN.out.2;have:=HKL.out;omega⟩ H4.out.nl H4.out.ll⟩
end
end Go.Proofs.YtnpkcneojilmkaaGreatDoor.Mem
end
