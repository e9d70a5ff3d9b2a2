/- Texts of this seat, merged: what the proof reaches. -/
import Derived.Test.YtpdpgjilalojjaaRecSortsX16
import Derived.Deep.RegionHeld3
import Derived.Deep.RegionHeldLaw
import Derived.Test.YtpdpgjilalojjaaRecSortsX17
namespace Go.Proofs.Ytpdpgjilalojjaa
namespace Base
end Base
namespace Bk
end Bk
namespace Block
end Block
namespace Byt
end Byt
namespace Itm
end Itm
namespace Mem
end Mem
namespace Rec
end Rec
namespace Tre
end Tre
namespace Txt
end Txt
end Go.Proofs.Ytpdpgjilalojjaa
section
namespace Go.Proofs.Ytpdpgjilalojjaa.Itm
open Go.ChangeShapes Go.WideShapes Go.ChangeAt Go.RowKit Base Byt Txt Bk Block Rec Tre Go.Lib
set_option linter.unusedVariables false
set_option maxRecDepth 100000
set_option maxHeartbeats 4000000 in
theorem rsameAllI_any (p q:Option Addr) (n m c d:Nat) (xs ys:List IP) (w:World) (hn:n≤maxLen) (h1:ItemsAt w p n xs) (h2:ItemsAt w q m ys) :
 Calls Try.prog 21 #[.slice p n c,.slice q m d] w fun e w' => e=.returned (.bool (decide (xs.map IP.m=ys.map IP.m)))∧Below w.heap.size w w':=by
 unfold maxLen at hn;have H1:=Lib.hid h1;have H2:=Lib.hid h2;have HL1:=Lib.hid h1.1;have HL2:=Lib.hid h2.1;clear h1 h2
 go_enter Try.func21,Try.ntmps21
 by_cases hnm:n=m
 ·subst hnm
  have hb:(((n:Int)) != (n:Int))=false:=by simp
  go_wp2_with fail
  go_loopw [5] (fun i wr => ∃ (k:Nat),k≤n∧i=.int .i64 (k:Int)∧Hid (∀ j,j < k → (xs.getD j zeroJ).m=(ys.getD j zeroJ).m)∧Hid (Below w.heap.size w wr)) (fun i _ => n - (RowKit.intOf i).toNat)
  case atStart => exact ⟨0,Nat.zero_le _,rfl,Lib.hid (fun j hj => absurd hj (by omega)),Lib.hid (Below.refl _ _)⟩
  case round =>
   obtain ⟨k,hk,rfl,hd,hB⟩:=hrel
   by_cases hlt:k < n
   ·obtain ⟨b1,o1,rfl,hb1,hB1,hc1⟩:=(H1.out.below hB.out).cells3 hlt
    obtain ⟨b2,o2,rfl,hb2,hB2,hc2⟩:=(H2.out.below hB.out).cells3 hlt;obtain ⟨u,hu⟩:∃ u,xs.getD k zeroJ=u:=⟨_,rfl⟩;obtain ⟨v,hv⟩:∃ v,ys.getD k zeroJ=v:=⟨_,rfl⟩;rw [hu] at hB1 hc1;rw [hv] at hB2 hc2;have HU:=Lib.hid hu;have HV:=Lib.hid hv;have HA:=Lib.hid hB1;have HB:=Lib.hid hB2;have HCC:Hid (∀ w',Below wr.heap.size wr w' → Cells3 w' b1 (o1+k * 3) u∧Cells3 w' b2 (o2+k * 3) v):=Lib.hid (fun w' h => ⟨hc1.below hb1 h,hc2.below hb2 h⟩)
    have HBB:Hid (Below wr.heap.size wr wr.drew):=Lib.hid (below_drewN (Below.refl wr.heap.size wr) 1);unfold Cells3 at HCC;clear hB1 hB2 hc1 hc2 hu hv hb1 hb2;have hltz:(k:Int) < (n:Int):=by omega
    go_wp2_with fail
    go_region_held3 (fun w' => (w'.cell? ⟨b1,o1+k * 3,none⟩=some (.string (str u.m.key))∧w'.cell? ⟨b1,o1+k * 3+1,none⟩=some (.int .i64 u.m.seq)∧w'.cell? ⟨b1,o1+k * 3+2,none⟩=some (.slice u.p u.m.data.length u.c))∧(w'.cell? ⟨b2,o2+k * 3,none⟩=some (.string (str v.m.key))∧w'.cell? ⟨b2,o2+k * 3+1,none⟩=some (.int .i64 v.m.seq)∧w'.cell? ⟨b2,o2+k * 3+2,none⟩=some (.slice v.p v.m.data.length v.c))) (exact HCC.out _ HBB.out) (first
     | (go_at_call 14
        refine (rsame_any u v _ (HA.out.below HBB.out) (HB.out.below HBB.out)).mono ?_
        rintro e wa ⟨rfl,hba⟩;have HBB:=Lib.hid (HBB.out.trans (hba.mono HBB.out.size))
        clear hba))
    all_goals
     by_cases huv:u.m=v.m
     ·have huv2:decide (u.m=v.m)=true:=decide_eq_true huv
      have HD:Hid (∀ j,j < k+1 → (xs.getD j zeroJ).m=(ys.getD j zeroJ).m):=Lib.hid (fun j hj => by
       rcases Nat.lt_succ_iff_lt_or_eq.1 hj with h | rfl
       ·exact hd.out j h
       ·rw [HU.out,HV.out,huv])
      clear huv;have HBD:=Lib.hid (hB.out.trans (HBB.out.mono hB.out.size));rw [huv2]
      go_wp2
      go_roundw
      case rel => exact ⟨k+1,by omega,by go_num,HD,HBD⟩
      case measure => simp [RowKit.intOf];omega
     ·have huv2:decide (u.m=v.m)=false:=decide_eq_false huv
      have HNE:Hid (decide (xs.map IP.m=ys.map IP.m)=false):=Lib.hid (decide_eq_false (items_differ xs ys k (by rw [HL1.out];exact hlt) (by rw [HL2.out];exact hlt) (by rw [HU.out,HV.out];exact huv)))
      clear huv;have HBD:=Lib.hid (hB.out.trans (HBB.out.mono hB.out.size));rw [huv2]
      go_wp2
      go_ret
      exact ⟨by rw [HNE.out];rfl,HBD.out⟩
   ·have hks:¬ ((k:Int) < (n:Int)):=by omega
    have HE:Hid (decide (xs.map IP.m=ys.map IP.m)=true):=Lib.hid (decide_eq_true (items_same xs ys (by rw [HL1.out,HL2.out]) (fun j hj => hd.out j (by rw [HL1.out] at hj;omega))))
    go_wp2
    go_ret
    exact ⟨by rw [HE.out];rfl,hB.out⟩
 ·have hb:(((n:Int)) != (m:Int))=true:=by simp;omega
  have HNE:Hid (decide (xs.map IP.m=ys.map IP.m)=false):=Lib.hid (decide_eq_false (fun e => hnm (by have:=congrArg List.length e;rw [List.length_map,List.length_map,HL1.out,HL2.out] at this;exact this)))
  go_wp2
  go_ret
  exact ⟨by rw [HNE.out];rfl,Below.refl _ _⟩
end Go.Proofs.Ytpdpgjilalojjaa.Itm
end
section
namespace Go.Proofs.Ytpdpgjilalojjaa.Walk
open Go.ChangeShapes Go.WideShapes Go.ChangeAt Go.RowKit Base Byt Txt Bk Rec Block Mem Tre Itm Go.Lib
set_option linter.unusedVariables false
set_option maxRecDepth 100000
def DatB (ys:List IP) (b:Nat):Prop:=∃ y ∈ ys,0 < y.m.data.length ∧ ∃ z,y.p=some z∧z.block=b
def ByteB (w:World) (y:IP):Prop:=0 < y.m.data.length → ∀ z,y.p=some z → ∃ cur,Blk w z.block 5 cur ∧ ∀ k,k < y.m.data.length → ∃ m:Nat,m < 256∧cur[z.off+k]? = some (.int .u8 (m:Int))
theorem ByteB.set {w:World} {y:IP} (h:ByteB w y) (b i m:Nat) (hm:m < 256):ByteB (w.setCell ⟨b,i,none⟩ (.int .u8 (m:Int))) y:=fun h0 z hz => by
 obtain ⟨cur,hc,hv⟩:=h h0 z hz
 by_cases e:b=z.block
 ·subst e
  by_cases hi:i < cur.size
  ·refine ⟨cur.set i (.int .u8 (m:Int)) hi,hc.set i _ hi,fun k hk => ?_⟩
   rw [Array.getElem?_set]
   by_cases e2:i=z.off+k
   ·rw [if_pos e2];exact ⟨m,hm,rfl⟩
   ·rw [if_neg e2];exact hv k hk
  ·obtain ⟨k,hk⟩:∃ k,k=k:=⟨0,rfl⟩
   have h1:=blk_setIf hc i (.int .u8 (m:Int));refine ⟨_,h1,fun k hk => ?_⟩
   rw [Array.getElem?_setIfInBounds]
   by_cases e2:i=z.off+k
   ·obtain ⟨m2,_,h2⟩:=hv k hk
    have h3:=(Array.getElem?_eq_some_iff.1 h2).1;omega
   ·rw [if_neg e2];exact hv k hk
 ·exact ⟨cur,hc.other e _,hv⟩
theorem ByteB.drew {w:World} {y:IP} (h:ByteB w y):ByteB w.drew y:=fun h0 z hz => by
 obtain ⟨cur,hc,hv⟩:=h h0 z hz;exact ⟨cur,hc.drew,hv⟩
theorem byte_of {w:World} {y:IP} (hd:DatAt w y) (hb:0 < y.m.data.length → ∀ z,y.p=some z → ∃ cur,Blk w z.block 5 cur):ByteB w y:=fun h0 z hz => by
 obtain ⟨cur,hc⟩:=hb h0 z hz;obtain ⟨b,o,he,_,hv⟩:=hd.bat.cell h0;rw [hz] at he
 cases he
 refine ⟨cur,hc,fun k hk => ⟨(y.m.data.getD k 0).toNat,UInt8.toNat_lt _,?_⟩⟩
 rw [← hc.cell];exact hv k hk
theorem xor_byte {m:Nat} (hm:m < 256):∃ m':Nat,m' < 256∧bits BinOp.xor IntKind.u8 (m:Int) 255=(m':Int):=by
 have key:∀ m:Fin 256,0≤bits BinOp.xor IntKind.u8 ((m.val:Nat):Int) 255∧bits BinOp.xor IntKind.u8 ((m.val:Nat):Int) 255 < 256:=by decide +kernel
 obtain ⟨h1,h2⟩:=key ⟨m,hm⟩
 dsimp only at h1 h2
 exact ⟨(bits BinOp.xor IntKind.u8 (m:Int) 255).toNat,by omega,by omega⟩
structure Flip (w3 wr:World) (ys:List IP):Prop where
 kept:Kept (DatB ys) w3 wr
 bytes:∀ y ∈ ys,ByteB wr y
theorem Flip.set {w3 wr:World} {ys:List IP} (h:Flip w3 wr ys) {y:IP} (hy:y ∈ ys) (h0:0 < y.m.data.length) {z:Addr} (hz:y.p=some z) (i m:Nat) (hm:m < 256):Flip w3 (wr.setCell ⟨z.block,i,none⟩ (.int .u8 (m:Int))).drew ys where
 kept:=(h.kept.setCell (a:=⟨z.block,i,none⟩) (.inr ⟨y,hy,h0,z,hz,rfl⟩) _).drew
 bytes:=fun x hx => ((h.bytes x hx).set z.block i m hm).drew
theorem items_kept {S:Nat → Prop} {w w':World} {q:Option Addr} {n:Nat} {ss:List IP} (h:ItemsAt w q n ss) (hk:Kept S w w') (h1:0 < n → ∀ z,q=some z → ¬ S z.block) (h2:∀ y ∈ ss,0 < y.m.data.length → ∀ z,y.p=some z → ¬ S z.block):ItemsAt w' q n ss:=by
 refine ⟨h.1,fun x hx => (h.2.1 x hx).kept hk (fun h0 z hz => h2 x hx h0 z hz),fun h0 => ?_⟩
 obtain ⟨b,o,hq,hb,hc⟩:=h.2.2 h0;refine ⟨b,o,hq,Nat.lt_of_lt_of_le hb hk.size,fun i hi j hj => ?_⟩
 have e:w'.cell? ⟨b,o+3 * i+j,none⟩=w.cell? ⟨b,o+3 * i+j,none⟩:=by
  unfold World.cell?;rw [hk.at hb (h1 h0 _ hq)]
 rw [e];exact hc i hi j hj
set_option maxHeartbeats 8000000 in
theorem recSortsC (H:ItmC) (p:Option Addr) (n c:Nat) (xs:List IP) (w:World) (ma:ItemsAt w p n xs) (lc:n≤c) (cm:c≤maxLen) (by0:c * 48≤140737488351232) (rm:∀ x ∈ xs,WfI x.m∧RoomI x) :
 Calls Try.prog 6 #[.slice p n c] w fun e w' => e=.returned (.bool true)∧Below w.heap.size w w':=by
 have HC:=Lib.hid H;have HM:=Lib.hid ma;have HLN:=Lib.hid ma.1;have HR:=Lib.hid rm;have hl:=lightJ_any p n c xs w ma (by omega) (fun x hx => (rm x hx).2)
 obtain ⟨g,hg⟩:∃ g,lightJ (xs.map IP.m)=g:=⟨_,rfl⟩;rw [hg] at hl;have HG:=Lib.hid hg;have HL:=Lib.hid hl;clear H ma rm hg hl
 go_enter Try.func6,Try.ntmps6
 go_wp2_with fail
 refine HL.out.mono ?_
 rintro e w1 ⟨rfl,hb1⟩;have HB1:=Lib.hid hb1;clear hb1 HL
 cases g with
 | false =>
   go_wp2_with fail
   refine (ans13_any HC.out.base w1).mono ?_
   rintro e w6 ⟨rfl,hb6⟩;have HB6:=Lib.hid (HB1.out.trans (hb6.mono HB1.out.size));clear hb6
   go_wp2
   go_ret
   exact ⟨rfl,HB6.out⟩
 | true =>
   have hf:=lightJ_facts HG.out;rw [List.length_map,HLN.out] at hf;have HF:=Lib.hid hf;have hn200:n≤200:=hf.1;have ho:=rownI_any p n c xs w1 (HM.out.below HB1.out) (by omega) (fun x hx => by have:=(hf.2 x.m (List.mem_map_of_mem hx)).2;omega)
   have HO:=Lib.hid ho;clear hf ho
   go_wp2_with fail
   refine HO.out.mono ?_
   rintro e w2 ⟨q2,d2,ys,rfl,hys,hya,hfr,hoff,hblk,hb2,hd2,hd22⟩;have HB2:=Lib.hid (HB1.out.trans (hb2.mono HB1.out.size))
   have hs:=HC.out.sorted w2 q2 n d2 ys hya hd2 hd22 (by omega) (fun y hy => by
    have h1:y.m ∈ xs.map IP.m:=by rw [← hys];exact List.mem_map_of_mem hy
    obtain ⟨x,hx,he⟩:=List.mem_map.1 h1;have h2:=HF.out.2 y.m h1
    exact ⟨by rw [← he];exact (HR.out x hx).1,by omega,by omega⟩)
   have HS:=Lib.hid hs;have HY:=Lib.hid (And.intro hys (And.intro hya (And.intro hfr (And.intro hoff hblk))));clear hs hys hya hfr hoff hblk hb2 HO hd2 hd22
   go_wp2_with fail
   refine HS.out.mono ?_
   rintro e w3 ⟨q3,d3,ss,rfl,hss,hsa,hsf,hb3,hd3,hd32⟩;have HB3:=Lib.hid (HB2.out.trans (hb3.mono HB2.out.size))
   have HFL:Hid (Flip w3 w3 ys):=Lib.hid ⟨Kept.refl _ _,fun y hy => byte_of ((HY.out.2.1.2.1 y hy).below hb3) (fun h0 z hz => by
    obtain ⟨cur,hc⟩:=HY.out.2.2.2.2 y hy h0 z hz
    exact ⟨cur,hc.below hb3 hc.lt⟩)⟩
   have HYA:Hid (ItemsAt w3 q2 n ys):=Lib.hid (HY.out.2.1.below hb3);have HSS:=Lib.hid (And.intro hss (And.intro hsa hsf))
   have HDB:Hid (∀ b,DatB ys b → w1.heap.size≤b∧b < w2.heap.size):=Lib.hid (fun b hb => by
    obtain ⟨y,hy,h0,z,hz,rfl⟩:=hb
    exact ⟨HY.out.2.2.1.data y hy h0 z hz,bat_lt (HY.out.2.1.2.1 y hy).bat h0 hz⟩)
   clear hss hsa hsf hb3 HS hd3 hd32
   go_wp2_with fail
   go_loopw [5,6] (fun i _ wr => ∃ k:Nat,k≤n∧i=.int .i64 (k:Int)∧Hid (Flip w3 wr ys)) (fun i _ _ => n - (RowKit.intOf i).toNat)
   case atStart => exact ⟨0,Nat.zero_le _,rfl,HFL⟩
   case round =>
    obtain ⟨k,hk,rfl,hFl⟩:=hrel
    by_cases hlt:k < n
    ·have hkl:k < ys.length:=by rw [HYA.out.1];exact hlt
     obtain ⟨b,o,he,hbw,hBd,hcc⟩:=HYA.out.cells3 hlt;obtain ⟨y,hy⟩:∃ y,ys.getD k zeroJ=y:=⟨_,rfl⟩;have hmem:y ∈ ys:=by rw [← hy];exact getJ_mem ys k hkl
     rw [hy] at hBd hcc;subst he;have HMEM:=Lib.hid hmem
     have HNB:Hid (∀ wr,Flip w3 wr ys → wr.cell? ⟨b,o+k * 3+2,none⟩=some (.slice y.p y.m.data.length y.c)):=Lib.hid (fun wr hF => by
      have hn:¬ DatB ys b:=fun hb => by
       obtain ⟨y',hy',h0,z,hz,e⟩:=hb;exact HY.out.2.2.2.1 y' hy' h0 z hz ⟨b,o,none⟩ rfl e.symm
      have e:wr.cell? ⟨b,o+k * 3+2,none⟩=w3.cell? ⟨b,o+k * 3+2,none⟩:=by
       unfold World.cell?;rw [hF.kept.at hbw hn]
      rw [e]
      exact hcc.2.2)
     have hltz:(k:Int) < (n:Int):=by omega
     obtain ⟨D,hD⟩:∃ D,y.m.data.length=D:=⟨_,rfl⟩;have HD:=Lib.hid hD
     have hD2:D≤200000:=by
      rw [← hD];exact (HF.out.2 y.m (by rw [← HY.out.1];exact List.mem_map_of_mem hmem)).2
     rw [hD] at HNB;clear hbw hBd hcc hy hmem hkl hD
     go_wp2_with fail
     go_loopw [6] (fun j wr => ∃ i:Nat,i≤D∧j=.int .i64 (i:Int)∧Hid (Flip w3 wr ys)) (fun j _ => D - (RowKit.intOf j).toNat)
     case atStart => exact ⟨0,Nat.zero_le _,rfl,hFl⟩
     case round =>
      obtain ⟨i,hi,rfl,hF2⟩:=hrel;have c2:=HNB.out wr hF2.out
      by_cases hil:i < D
      ·obtain ⟨b2,o2,hz,_,_⟩:=(HYA.out.2.1 y HMEM.out).bat.cell (k:=0) (by rw [HD.out];omega)
       obtain ⟨cur,hcu,hcv⟩:=hF2.out.bytes y HMEM.out (by rw [HD.out];omega) ⟨b2,o2,none⟩ hz
       obtain ⟨m,hm,hv⟩:=hcv i (by rw [HD.out];exact hil)
       have cd:wr.cell? ⟨b2,o2+i,none⟩=some (.int .u8 (m:Int)):=by rw [hcu.cell];exact hv
       have fr:wr.frozen? ⟨b2,o2+i,none⟩=false:=hcu.frozen _;have HFS:Hid (∀ m':Nat,m' < 256 → Flip w3 (wr.setCell ⟨b2,o2+i,none⟩ (.int .u8 (m':Int))).drew ys):=Lib.hid (fun m' h => hF2.out.set HMEM.out (by rw [HD.out];omega) hz (o2+i) m' h)
       have hilz:(i:Int) < (D:Int):=by omega
       obtain ⟨m2,hm2,hx⟩:=xor_byte hm;have HX:Hid (m2 < 256∧bits BinOp.xor IntKind.u8 (m:Int) 255=(m2:Int)):=Lib.hid ⟨hm2,hx⟩;rw [hz] at c2;clear hz hcu hcv hv hF2 hm2 hx
       go_upto_region 11 with fail
       go_region
       go_wp2
       go_roundw
       case rel => exact ⟨i+1,by omega,by go_num,Lib.hid (by rw [HX.out.2];exact HFS.out m2 HX.out.1)⟩
       case measure => simp [RowKit.intOf];omega
      ·obtain rfl:i=D:=by omega
       have hks:¬ ((i:Int) < (i:Int)):=by omega
       go_wp2
       go_roundw
       case rel => exact ⟨k+1,by omega,by go_num,hF2⟩
       case measure => simp [RowKit.intOf];omega
    ·have hks:¬ ((k:Int) < (n:Int)):=by omega
     have hbw:Below w.heap.size w wr:=HB3.out.trans (hFl.out.kept.below HB3.out.size (fun b hb => by have:=(HDB.out b hb).1;have:=HB1.out.size;omega))
     have HBW:=Lib.hid hbw
     have HSA:Hid (ItemsAt wr q3 n ss):=Lib.hid (items_kept HSS.out.2.1 hFl.out.kept (fun h0 z hz hb => by
      have h1:=HSS.out.2.2.row (by rw [HSS.out.2.1.1];exact h0) z hz
      have h2:=(HDB.out _ hb).2;omega) (fun y hy h0 z hz hb => by
      have h1:=HSS.out.2.2.data y hy h0 z hz;have h2:=(HDB.out _ hb).2
      omega))
     clear hbw hFl
     go_wp2_with fail
     refine (ans13_any HC.out.base wr).mono ?_
     rintro e w6 ⟨rfl,hb6⟩;have HB6:=Lib.hid (HBW.out.trans (hb6.mono HBW.out.size));have hs:=rsortedI_any p n c xs w6 (HM.out.below HB6.out) (by omega)
     have HS6:=Lib.hid hs;have HSA6:=Lib.hid (HSA.out.below hb6);clear hb6 hs
     go_wp2_with fail
     refine HS6.out.mono ?_
     rintro e w7 ⟨q7,d7,zs,rfl,hzs,hza,hb7⟩;have HB7:=Lib.hid (HB6.out.trans (hb7.mono HB6.out.size));have hs:=rsameAllI_any q3 q7 n n d3 d7 ss zs w7 (by unfold maxLen;omega) (HSA6.out.below hb7) hza
     rw [HSS.out.1,hzs,HY.out.1,decide_eq_true rfl] at hs;have HS7:=Lib.hid hs;clear hb7 hza hzs hs
     go_wp2_with fail
     refine HS7.out.mono ?_
     rintro e w8 ⟨rfl,hb8⟩;have HB8:=Lib.hid (HB7.out.trans (hb8.mono HB7.out.size));clear hb8
     go_wp2
     go_ret
     exact ⟨rfl,HB8.out⟩
end Go.Proofs.Ytpdpgjilalojjaa.Walk
end
