/- Texts of this seat, merged: what the proof reaches. -/
import Derived.Test.YtfhelebejclalaaDoorLinksBackX20
import Derived.Laws.Cover1
import Derived.Test.YtfhelebejclalaaDoorLinksBackX16
namespace Go.Proofs.YtfhelebejclalaaDoor
namespace Base
end Base
namespace Bk
end Bk
namespace Byt
end Byt
namespace Mem
end Mem
namespace Tre
end Tre
namespace Txt
end Txt
end Go.Proofs.YtfhelebejclalaaDoor
section
namespace Go.Proofs.YtfhelebejclalaaDoor.Tre
open Go.ChangeShapes Go.WideShapes Go.ChangeAt Go.RowKit Base Byt Txt Bk Mem Go.Lib
set_option linter.unusedVariables false
set_option maxRecDepth 100000
attribute [local irreducible] wpQuiet
def RoomT (x:NP):Prop:=x.m.path.length≤140737488351232∧x.m.target.length≤140737488351232
theorem geB (a b:List UInt8):(!(Op.bytesLess (str a).toList (str b).toList))=!ltB a b:=by
 rw [str_toList,str_toList];rfl
theorem neqMeta (a b c d a' b' c' d':Int) (w:World):(binOp .neq 43 (.agg #[.int .i64 a,.int .i64 b,.int .i64 c,.int .i64 d]) (.agg #[.int .i64 a',.int .i64 b',.int .i64 c',.int .i64 d'])).run Tryd.prog w=.ok (.bool (!decide (a=a'∧b=b'∧c=c'∧d=d'))) w:=by
 rw [run_neq_struct,show (10000:Nat)=9998+1+1 from rfl,eqMeta_deep]
 rfl
set_option maxHeartbeats 20000000 in
theorem rgoodT_any (p:Option Addr) (n c:Nat) (xs:List NP) (w:World) (h:NodesAt w p n xs) (hc:n≤c) (hm:c≤maxLen) (hF:∀ x ∈ xs,RoomT x) :
 Calls Tryd.prog 22 #[.slice p n c] w fun e w' => e=.returned (.bool (goodT (xs.map NP.m)))∧Below w.heap.size w w':=by
 unfold maxLen at hm;have HM:=Lib.hid h;have HL:=Lib.hid h.1;have HF:=Lib.hid hF;obtain ⟨r,hr⟩:∃ r,goodT (xs.map NP.m)=r:=⟨_,rfl⟩;rw [hr];have HR:=Lib.hid hr;clear h hF hr
 go_enter Tryd.func22,Tryd.ntmps22
 go_wp2_with fail
 go_loopw [3,4,5,6,56] (fun i _ _ _ _ wr => ∃ (k:Nat),k≤n∧i=.int .i64 (k:Int)∧Hid (∀ j,j < k → goodAt (xs.map NP.m) j=true)∧Hid (Below w.heap.size w wr)) (fun i _ _ _ _ _ => n - (RowKit.intOf i).toNat)
 case atStart => exact ⟨0,Nat.zero_le _,rfl,Lib.hid (fun j hj => absurd hj (by omega)),Lib.hid (Below.refl _ _)⟩
 case round =>
  obtain ⟨k,hk,rfl,hG,hB⟩:=hrel
  by_cases hlt:k < n
  ·obtain ⟨b1,o1,rfl,hb1,hB1,hc1⟩:=(HM.out.below hB.out).cells9 hlt
   obtain ⟨u,hu⟩:∃ u,xs.getD k zeroQ=u:=⟨_,rfl⟩;rw [hu] at hB1 hc1;have hfu:RoomT u:=HF.out u (by rw [← hu];exact getN_mem xs k (by rw [HL.out];exact hlt))
   obtain ⟨W,hW⟩:∃ W,wr.alloc (.cells u.cs 45)=W:=⟨_,rfl⟩;have hBW:Below wr.heap.size wr W:=by rw [← hW];exact (Below.refl _ _).alloc (Nat.le_refl _) _
   have hX:Blk W wr.heap.size 45 u.cs:=by rw [← hW];exact Blk.new wr _ _
   have HBW:=Lib.hid (hB.out.trans (hBW.mono hB.out.size));have HCI:Hid (∀ p:Since W,Calls Tryd.prog 28 #[.agg (memC u.m.mem u.p u.c)] p.w' fun e w' => e=.returned (.bool (goodD u.m.mem))∧Below p.w'.heap.size p.w' w'):=Lib.hid (fun p => rgood_any u.m.mem u.p u.c p.w' hfu.1 hfu.2)
   have sX:Since9 W wr.heap.size 0 u:=since9 (cells9_of hX) hX.lt;have HX:=Lib.hid hX;have HB1:=Lib.hid (hB1.below hBW);have HMW:=Lib.hid (HM.out.below HBW.out);have HIN:Hid ((xs.map NP.m).getD k zeroN=u.m):=Lib.hid (by rw [getN_map,hu])
   have ek:=kind_ne u.m.kind 49 49 rfl;have ek8:=kind_nq u.m.kind 48 48 rfl;obtain ⟨kn,hkn⟩:∃ k:Int,(u.m.kind.toNat:Int)=k:=⟨_,rfl⟩;unfold NP.cs nodC at hW;unfold memC NodeV.mem at HCI;unfold Since9 Cells9 at sX;simp only [Nat.zero_add] at sX;obtain ⟨c0,c1,c2,c3,c4,c5,c6,c7,c8⟩:=hc1;rw [hkn] at hW HCI sX c3 ek ek8;have HKN:=Lib.hid hkn;have hltz:(k:Int) < (n:Int):=by omega
   obtain ⟨q,hq⟩:∃ q,goodD ⟨u.m.path,u.m.target,u.m.kind,u.m.mode,u.m.uid,u.m.gid,u.m.time,u.m.body⟩=q:=⟨_,rfl⟩;rw [hq] at HCI;have HQ:Hid (goodD u.m.mem=q):=Lib.hid hq;obtain ⟨x49,hx49⟩:∃ x,decide (u.m.kind=49)=x:=⟨_,rfl⟩;rw [hx49] at ek;have H49:=Lib.hid hx49;clear hu hB1 hBW hX hq hfu hb1 hkn hx49
   go_upto_region 5 with fail
   clear hW c0 c1 c2 c3 c4 c5 c6 c7 c8
   by_cases hk0:k=0
   ·have HP0:Hid ((decide (k=0) || ltB ((xs.map NP.m).getD (k - 1) zeroN).path u.m.path)=true):=Lib.hid (by rw [decide_eq_true hk0];rfl)
    have hkz:decide ((0:Int) < (k:Int))=false:=decide_eq_false (by omega)
    have hkn:decide (0 < k)=false:=decide_eq_false (by omega)
    clear hk0
    cases x49 with
    | true =>
      have E:Hid (r=false):=Lib.hid (by
       rw [← HR.out];refine goodT_false (k:=k) (by rw [List.length_map,HL.out];exact hlt) ?_
       rw [goodAt_is,stepT,HIN.out,isNodeD,show decide (u.m.kind≠49)=false by rw [decide_eq_false_iff_not];exact fun h => h (of_decide_eq_true H49.out)];rfl)
      refine wp_region_since (by kernel_rfl) (by kernel_rfl) ?_
      repeat (quiet_step (first
       | (go_at_call 28;exact Calls.since_of (HCI.out _))))
      refine wpQuiet_nil ?_
      intro wq hw';have hwq:=since_bel hw';clear hw';have F:=Lib.hid (HBW.out.trans (hwq.mono HBW.out.size));clear hwq sX
      go_wp2
      go_ret
      exact ⟨by rw [E.out];rfl,F.out⟩
    | false =>
      have H49b:Hid (decide (u.m.kind≠49)=true):=Lib.hid (decide_eq_true (of_decide_eq_false H49.out))
      cases q with
      | false =>
        have E:Hid (r=false):=Lib.hid (by
         rw [← HR.out];refine goodT_false (k:=k) (by rw [List.length_map,HL.out];exact hlt) ?_
         rw [goodAt_is,stepT,HIN.out,isNodeD,HQ.out,H49b.out];rfl)
        refine wp_region_since (by kernel_rfl) (by kernel_rfl) ?_
        repeat (quiet_step (first
         | (go_at_call 28;exact Calls.since_of (HCI.out _))))
        refine wpQuiet_nil ?_
        intro wq hw';have hwq:=since_bel hw';clear hw';have F:=Lib.hid (HBW.out.trans (hwq.mono HBW.out.size));clear hwq sX
        go_wp2
        go_ret
        exact ⟨by rw [E.out];rfl,F.out⟩
      | true =>
        have HST:Hid (stepT (xs.map NP.m) k=true):=Lib.hid (by rw [stepT,HIN.out,isNodeD,HQ.out,H49b.out,HP0.out];rfl)
        refine wp_region_since (by kernel_rfl) (by kernel_rfl) ?_
        repeat (quiet_step (first
         | (go_at_call 28;exact Calls.since_of (HCI.out _))))
        refine wpQuiet_nil ?_
        intro wq hw';have hwq:=since_bel hw';clear hw';clear hkz hkn;have HG2:=Lib.hid (HBW.out.trans (hwq.mono HBW.out.size));have hX2:=HX.out.below hwq HX.out.lt;obtain ⟨x0,x1,x2,x3,x4,x5,x6,x7,x8⟩:=cells9_of hX2;simp only [Nat.zero_add,HKN.out] at x0 x1 x2 x3 x4 x5 x6 x7 x8;have HX2:=Lib.hid hX2;have HM2:=Lib.hid (HMW.out.below hwq);have HB2:=Lib.hid (HB1.out.below hwq);clear hwq hX2 sX
        by_cases h48:u.m.kind=48
        ·rw [decide_eq_true h48,Bool.not_true] at ek8
         have w1:IntKind.i64.wrap ((k:Int)+1)=(k:Int)+1:=by rw [IntKind.wrap_i64];omega
         have hkc:(k:Int)+1≤(c:Int):=by omega
         have hk0:(0:Int)≤(k:Int)+1:=by omega
         have hkt:((k:Int)+1).toNat=k+1:=by omega
         have HCC:Hid (∀ w',Below wq.heap.size wq w' → w'.cell? ⟨wr.heap.size,2,none⟩=some (.string (str u.m.leader))):=Lib.hid (fun w' h => (h.cell (p:=⟨wr.heap.size,2,none⟩) HX2.out.lt).trans x2)
         have HBB:Hid (Below wq.heap.size wq wq.drew):=Lib.hid (below_drewN (Below.refl wq.heap.size wq) 1);have HBA:Hid (∀ o,Below wq.heap.size wq (wq.alloc o).drew):=Lib.hid (fun o => below_drewN ((Below.refl wq.heap.size wq).alloc (Nat.le_refl _) o) 1)
         have HFI:Hid (∀ w',Below wq.heap.size wq w' → Calls Tryd.prog 20 #[.slice (some ⟨b1,o1,none⟩) (k+1) c,.string (str u.m.leader)] w' (RFindPost w' (xs.take (k+1)) u.m.leader)):=Lib.hid (fun w' hb => by
          have hm:=(HM2.out.below hb).drop (show k+1≤n by omega)
          have:=rfind_any (some ⟨b1,o1,none⟩) (k+1) c (xs.take (k+1)) u.m.leader w' hm (by unfold maxLen;omega)
          exact this)
         have HLD:Hid (ledD ((xs.map NP.m).take (k+1)) u.m=ledO (findN ((xs.map NP.m).take (k+1)) u.m.leader) u.m):=Lib.hid (by rw [ledD,if_pos h48])
         unfold RFindPost at HFI;simp only [List.map_take] at HFI;obtain ⟨fo,hfo⟩:∃ fo,findN ((xs.map NP.m).take (k+1)) u.m.leader=fo:=⟨_,rfl⟩;rw [hfo] at HFI HLD;clear x0 x1 x4 x5 x6 x7 x8 h48 hfo
         cases fo with
         | none =>
           have E:Hid (r=false):=Lib.hid (by
            rw [← HR.out];refine goodT_false (k:=k) (by rw [List.length_map,HL.out];exact hlt) ?_
            rw [goodAt_is,HIN.out,HLD.out,ledO,Bool.and_false])
           go_wp2_with fail
           go_region_held_law (fun w' => w'.cell? ⟨wr.heap.size,2,none⟩=some (.string (str u.m.leader))) ((refine HCC.out _ ?_;first | with_reducible exact HBB.out | with_reducible exact HBB.out.alloc HBB.out.size _ | with_reducible exact HBA.out _ | with_reducible exact below9 HBB.out (Nat.le_refl _) _ _ _ _ _ _ _ _ _)) (first
            | (go_at_call 20
               refine (HFI.out _ ?_).mono ?_
               (with_reducible exact HBB.out)
               rintro e wa ⟨y,he,hy,hyb,hba⟩;unfold NP.cs nodC at he;subst he;have HYB:Hid (BodAt wq y):=Lib.hid (of_bod (HM2.out.drop (show k+1≤n by omega)) hyb)
               have HYM:=Lib.hid hy;have HBB:=Lib.hid (HBB.out.trans (hba.mono HBB.out.size))
               clear hba hyb hy)
            | (go_at_call 20
               refine (HFI.out _ ?_).mono ?_
               (with_reducible exact HBA.out _)
               rintro e wa ⟨y,he,hy,hyb,hba⟩;unfold NP.cs nodC at he;subst he;have HYB:Hid (BodAt wq y):=Lib.hid (of_bod (HM2.out.drop (show k+1≤n by omega)) hyb)
               have HYM:=Lib.hid hy;have hz:Blk wa wq.heap.size 45 zeroQ.cs:=(Blk.new wq _ zeroQ.cs).drew.below hba (by simp)
               have MB:=Lib.hid hz;have HBB:=Lib.hid ((HBA.out _).trans (hba.mono (HBA.out _).size));obtain ⟨r0,r1,r2,r3,r4,r5,r6,r7,r8⟩:=cells9_of hz;simp only [Nat.zero_add] at r0 r1 r2 r3 r4 r5 r6 r7 r8;have f0:=hz.frozen 0;have f1:=hz.frozen 1;have f2:=hz.frozen 2;have f3:=hz.frozen 3;have f4:=hz.frozen 4;have f5:=hz.frozen 5;have f6:=hz.frozen 6;have f7:=hz.frozen 7;have f8:=hz.frozen 8
               clear hz hba hyb hy))
           all_goals
            first
            | (have HZB:=Lib.hid (below9 HBB.out (Nat.le_refl _) (.string (str y.m.path)) (.string (str y.m.target)) (.string (str y.m.leader)) (.int .u8 (y.m.kind.toNat:Int)) (.int .i64 y.m.mode) (.int .i64 y.m.uid) (.int .i64 y.m.gid) (.int .i64 y.m.time) (.slice y.p y.m.body.length y.c))
               clear MB
               go_wp2
               go_ret
               exact ⟨by rw [E.out];rfl,HG2.out.trans (HZB.out.mono HG2.out.size)⟩)
            | (have HZB:Hid (Below wq.heap.size wq (wa.alloc (.cells #[.string (str y.m.path),.string (str y.m.target),.string (str y.m.leader),.int .u8 (y.m.kind.toNat:Int),.int .i64 y.m.mode,.int .i64 y.m.uid,.int .i64 y.m.gid,.int .i64 y.m.time,.slice y.p y.m.body.length y.c] 45))):=Lib.hid (HBB.out.alloc HBB.out.size _)
               go_wp2
               go_ret
               exact ⟨by rw [E.out];rfl,HG2.out.trans (HZB.out.mono HG2.out.size)⟩)
         | some z =>
           go_wp2_with fail
           go_region_held_law (fun w' => w'.cell? ⟨wr.heap.size,2,none⟩=some (.string (str u.m.leader))) ((refine HCC.out _ ?_;first | with_reducible exact HBB.out | with_reducible exact HBB.out.alloc HBB.out.size _ | with_reducible exact HBA.out _ | with_reducible exact below9 HBB.out (Nat.le_refl _) _ _ _ _ _ _ _ _ _)) (first
            | (go_at_call 20
               refine (HFI.out _ ?_).mono ?_
               (with_reducible exact HBB.out)
               rintro e wa ⟨y,he,hy,hyb,hba⟩;unfold NP.cs nodC at he;subst he;have HYB:Hid (BodAt wq y):=Lib.hid (of_bod (HM2.out.drop (show k+1≤n by omega)) hyb)
               have HYM:=Lib.hid hy;have HBB:=Lib.hid (HBB.out.trans (hba.mono HBB.out.size))
               clear hba hyb hy)
            | (go_at_call 20
               refine (HFI.out _ ?_).mono ?_
               (with_reducible exact HBA.out _)
               rintro e wa ⟨y,he,hy,hyb,hba⟩;unfold NP.cs nodC at he;subst he;have HYB:Hid (BodAt wq y):=Lib.hid (of_bod (HM2.out.drop (show k+1≤n by omega)) hyb)
               have HYM:=Lib.hid hy;have hz:Blk wa wq.heap.size 45 zeroQ.cs:=(Blk.new wq _ zeroQ.cs).drew.below hba (by simp)
               have MB:=Lib.hid hz;have HBB:=Lib.hid ((HBA.out _).trans (hba.mono (HBA.out _).size));obtain ⟨r0,r1,r2,r3,r4,r5,r6,r7,r8⟩:=cells9_of hz;simp only [Nat.zero_add] at r0 r1 r2 r3 r4 r5 r6 r7 r8;have f0:=hz.frozen 0;have f1:=hz.frozen 1;have f2:=hz.frozen 2;have f3:=hz.frozen 3;have f4:=hz.frozen 4;have f5:=hz.frozen 5;have f6:=hz.frozen 6;have f7:=hz.frozen 7;have f8:=hz.frozen 8
               clear hz hba hyb hy))
           all_goals
            first
            | (have MB2:=MB
               clear r0 r1 r2 r3 r4 r5 r6 r7 r8 f0 f1 f2 f3 f4 f5 f6 f7 f8;obtain ⟨Wz,hWz⟩:∃ Wz,(((((((((wa.setCell ⟨wq.heap.size,0,none⟩ (.string (str y.m.path))).setCell ⟨wq.heap.size,1,none⟩ (.string (str y.m.target))).setCell ⟨wq.heap.size,2,none⟩ (.string (str y.m.leader))).setCell ⟨wq.heap.size,3,none⟩ (.int .u8 (y.m.kind.toNat:Int))).setCell ⟨wq.heap.size,4,none⟩ (.int .i64 y.m.mode)).setCell ⟨wq.heap.size,5,none⟩ (.int .i64 y.m.uid)).setCell ⟨wq.heap.size,6,none⟩ (.int .i64 y.m.gid)).setCell ⟨wq.heap.size,7,none⟩ (.int .i64 y.m.time)).setCell ⟨wq.heap.size,8,none⟩ (.slice y.p y.m.body.length y.c))=Wz:=⟨_,rfl⟩
               have hZ:Blk Wz wq.heap.size 45 y.cs:=by rw [← hWz];exact blk9 MB.out (.string (str y.m.path)) (.string (str y.m.target)) (.string (str y.m.leader)) (.int .u8 (y.m.kind.toNat:Int)) (.int .i64 y.m.mode) (.int .i64 y.m.uid) (.int .i64 y.m.gid) (.int .i64 y.m.time) (.slice y.p y.m.body.length y.c)
               have hBz:Below wq.heap.size wq Wz:=by rw [← hWz];exact below9 HBB.out (Nat.le_refl _) (.string (str y.m.path)) (.string (str y.m.target)) (.string (str y.m.leader)) (.int .u8 (y.m.kind.toNat:Int)) (.int .i64 y.m.mode) (.int .i64 y.m.uid) (.int .i64 y.m.gid) (.int .i64 y.m.time) (.slice y.p y.m.body.length y.c)
               rw [hWz];clear hWz;have HZB:=Lib.hid hBz;obtain ⟨y0,y1,y2,y3,y4,y5,y6,y7,y8⟩:=cells9_of hZ;obtain ⟨x0,x1,x2,x3,x4,x5,x6,x7,x8⟩:=cells9_of (HX2.out.below hBz HX2.out.lt);simp only [Nat.zero_add,HKN.out] at y0 y1 y2 y3 y4 y5 y6 y7 y8 x0 x1 x2 x3 x4 x5 x6 x7 x8;have v1:(convert 23 9 (.slice y.p y.m.body.length y.c)).run Tryd.prog Wz=.ok (.string (str y.m.body)) Wz:=conv_at (HYB.out.below hBz).bat rfl _ _ _ Tryd.underlying23 Tryd.underlying5 Tryd.underlying9 _;have v2:(convert 23 9 (.slice u.p u.m.body.length u.c)).run Tryd.prog Wz=.ok (.string (str u.m.body)) Wz:=conv_at (HB2.out.below hBz).bat rfl _ _ _ Tryd.underlying23 Tryd.underlying5 Tryd.underlying9 _
               have eyk:=kind_nq y.m.kind 48 48 rfl;obtain ⟨ky,hky⟩:∃ k:Int,(y.m.kind.toNat:Int)=k:=⟨_,rfl⟩;rw [hky] at eyk y3;have e2:=str_eqD y.m.leader y.m.path;have e4:=fun w => neqMeta y.m.mode y.m.uid y.m.gid y.m.time u.m.mode u.m.uid u.m.gid u.m.time w
               have e5:=str_eqD y.m.body u.m.body
               have E3:Hid (ledD ((xs.map NP.m).take (k+1)) u.m=(decide (y.m.kind=48) && (decide (y.m.leader=y.m.path) && (decide (y.m.mode=u.m.mode∧y.m.uid=u.m.uid∧y.m.gid=u.m.gid∧y.m.time=u.m.time) && decide (y.m.body=u.m.body))))):=Lib.hid (by
                have hz:z=y.m:=HYM.out.symm
                rw [HLD.out,hz];rfl)
               obtain ⟨q1,hq1⟩:∃ q,decide (y.m.kind=48)=q:=⟨_,rfl⟩;obtain ⟨q2,hq2⟩:∃ q,decide (y.m.leader=y.m.path)=q:=⟨_,rfl⟩;obtain ⟨q3,hq3⟩:∃ q,decide (y.m.mode=u.m.mode∧y.m.uid=u.m.uid∧y.m.gid=u.m.gid∧y.m.time=u.m.time)=q:=⟨_,rfl⟩;obtain ⟨q4,hq4⟩:∃ q,decide (y.m.body=u.m.body)=q:=⟨_,rfl⟩;rw [hq1] at eyk;rw [hq2] at e2;simp only [hq3] at e4;rw [hq4] at e5;rw [hq1,hq2,hq3,hq4] at E3;clear hq1 hq2 hq3 hq4 hZ hBz hky
               cases q1 with
               | false =>
                 have E:Hid (r=false):=Lib.hid (by
                  rw [← HR.out];refine goodT_false (k:=k) (by rw [List.length_map,HL.out];exact hlt) ?_
                  rw [goodAt_is,HIN.out,E3.out];simp)
                 go_wp2
                 go_ret
                 exact ⟨by rw [E.out];rfl,HG2.out.trans (HZB.out.mono HG2.out.size)⟩
               | true =>
                 cases q2 with
                 | false =>
                   have E:Hid (r=false):=Lib.hid (by
                    rw [← HR.out];refine goodT_false (k:=k) (by rw [List.length_map,HL.out];exact hlt) ?_
                    rw [goodAt_is,HIN.out,E3.out];simp)
                   go_wp2
                   go_ret
                   exact ⟨by rw [E.out];rfl,HG2.out.trans (HZB.out.mono HG2.out.size)⟩
                 | true =>
                   cases q3 with
                   | false =>
                     have E:Hid (r=false):=Lib.hid (by
                      rw [← HR.out];refine goodT_false (k:=k) (by rw [List.length_map,HL.out];exact hlt) ?_
                      rw [goodAt_is,HIN.out,E3.out];simp)
                     go_wp2
                     go_ret
                     exact ⟨by rw [E.out];rfl,HG2.out.trans (HZB.out.mono HG2.out.size)⟩
                   | true =>
                     cases q4 with
                     | false =>
                       have E:Hid (r=false):=Lib.hid (by
                        rw [← HR.out];refine goodT_false (k:=k) (by rw [List.length_map,HL.out];exact hlt) ?_
                        rw [goodAt_is,HIN.out,E3.out];simp)
                       go_wp2
                       go_ret
                       exact ⟨by rw [E.out];rfl,HG2.out.trans (HZB.out.mono HG2.out.size)⟩
                     | true =>
                       have HG3:Hid (∀ j,j < k+1 → goodAt (xs.map NP.m) j=true):=Lib.hid (fun j hj => by
                        rcases Nat.lt_succ_iff_lt_or_eq.1 hj with h | rfl
                        ·exact hG.out j h
                        ·rw [goodAt_is,HST.out,HIN.out,E3.out];rfl)
                       have HF3:=Lib.hid (HG2.out.trans (HZB.out.mono HG2.out.size))
                       go_wp2
                       go_roundw
                       case rel => exact ⟨k+1,by omega,by go_num,HG3,HF3⟩
                       case measure => simp [RowKit.intOf];omega)
            | (obtain ⟨Wz,hWz⟩:∃ Wz,wa.alloc (.cells #[.string (str y.m.path),.string (str y.m.target),.string (str y.m.leader),.int .u8 (y.m.kind.toNat:Int),.int .i64 y.m.mode,.int .i64 y.m.uid,.int .i64 y.m.gid,.int .i64 y.m.time,.slice y.p y.m.body.length y.c] 45)=Wz:=⟨_,rfl⟩
               have hZ:Blk Wz wa.heap.size 45 y.cs:=by rw [← hWz];exact Blk.new wa _ _
               have hBz:Below wq.heap.size wq Wz:=by rw [← hWz];exact HBB.out.alloc HBB.out.size _
               rw [hWz];clear hWz;have HZB:=Lib.hid hBz;obtain ⟨y0,y1,y2,y3,y4,y5,y6,y7,y8⟩:=cells9_of hZ;obtain ⟨x0,x1,x2,x3,x4,x5,x6,x7,x8⟩:=cells9_of (HX2.out.below hBz HX2.out.lt);simp only [Nat.zero_add,HKN.out] at y0 y1 y2 y3 y4 y5 y6 y7 y8 x0 x1 x2 x3 x4 x5 x6 x7 x8;have v1:(convert 23 9 (.slice y.p y.m.body.length y.c)).run Tryd.prog Wz=.ok (.string (str y.m.body)) Wz:=conv_at (HYB.out.below hBz).bat rfl _ _ _ Tryd.underlying23 Tryd.underlying5 Tryd.underlying9 _;have v2:(convert 23 9 (.slice u.p u.m.body.length u.c)).run Tryd.prog Wz=.ok (.string (str u.m.body)) Wz:=conv_at (HB2.out.below hBz).bat rfl _ _ _ Tryd.underlying23 Tryd.underlying5 Tryd.underlying9 _
               have eyk:=kind_nq y.m.kind 48 48 rfl;obtain ⟨ky,hky⟩:∃ k:Int,(y.m.kind.toNat:Int)=k:=⟨_,rfl⟩;rw [hky] at eyk y3;have e2:=str_eqD y.m.leader y.m.path;have e4:=fun w => neqMeta y.m.mode y.m.uid y.m.gid y.m.time u.m.mode u.m.uid u.m.gid u.m.time w
               have e5:=str_eqD y.m.body u.m.body
               have E3:Hid (ledD ((xs.map NP.m).take (k+1)) u.m=(decide (y.m.kind=48) && (decide (y.m.leader=y.m.path) && (decide (y.m.mode=u.m.mode∧y.m.uid=u.m.uid∧y.m.gid=u.m.gid∧y.m.time=u.m.time) && decide (y.m.body=u.m.body))))):=Lib.hid (by
                have hz:z=y.m:=HYM.out.symm
                rw [HLD.out,hz];rfl)
               obtain ⟨q1,hq1⟩:∃ q,decide (y.m.kind=48)=q:=⟨_,rfl⟩;obtain ⟨q2,hq2⟩:∃ q,decide (y.m.leader=y.m.path)=q:=⟨_,rfl⟩;obtain ⟨q3,hq3⟩:∃ q,decide (y.m.mode=u.m.mode∧y.m.uid=u.m.uid∧y.m.gid=u.m.gid∧y.m.time=u.m.time)=q:=⟨_,rfl⟩;obtain ⟨q4,hq4⟩:∃ q,decide (y.m.body=u.m.body)=q:=⟨_,rfl⟩;rw [hq1] at eyk;rw [hq2] at e2;simp only [hq3] at e4;rw [hq4] at e5;rw [hq1,hq2,hq3,hq4] at E3;clear hq1 hq2 hq3 hq4 hZ hBz hky
               cases q1 with
               | false =>
                 have E:Hid (r=false):=Lib.hid (by
                  rw [← HR.out];refine goodT_false (k:=k) (by rw [List.length_map,HL.out];exact hlt) ?_
                  rw [goodAt_is,HIN.out,E3.out];simp)
                 go_wp2
                 go_ret
                 exact ⟨by rw [E.out];rfl,HG2.out.trans (HZB.out.mono HG2.out.size)⟩
               | true =>
                 cases q2 with
                 | false =>
                   have E:Hid (r=false):=Lib.hid (by
                    rw [← HR.out];refine goodT_false (k:=k) (by rw [List.length_map,HL.out];exact hlt) ?_
                    rw [goodAt_is,HIN.out,E3.out];simp)
                   go_wp2
                   go_ret
                   exact ⟨by rw [E.out];rfl,HG2.out.trans (HZB.out.mono HG2.out.size)⟩
                 | true =>
                   cases q3 with
                   | false =>
                     have E:Hid (r=false):=Lib.hid (by
                      rw [← HR.out];refine goodT_false (k:=k) (by rw [List.length_map,HL.out];exact hlt) ?_
                      rw [goodAt_is,HIN.out,E3.out];simp)
                     go_wp2
                     go_ret
                     exact ⟨by rw [E.out];rfl,HG2.out.trans (HZB.out.mono HG2.out.size)⟩
                   | true =>
                     cases q4 with
                     | false =>
                       have E:Hid (r=false):=Lib.hid (by
                        rw [← HR.out];refine goodT_false (k:=k) (by rw [List.length_map,HL.out];exact hlt) ?_
                        rw [goodAt_is,HIN.out,E3.out];simp)
                       go_wp2
                       go_ret
                       exact ⟨by rw [E.out];rfl,HG2.out.trans (HZB.out.mono HG2.out.size)⟩
                     | true =>
                       have HG3:Hid (∀ j,j < k+1 → goodAt (xs.map NP.m) j=true):=Lib.hid (fun j hj => by
                        rcases Nat.lt_succ_iff_lt_or_eq.1 hj with h | rfl
                        ·exact hG.out j h
                        ·rw [goodAt_is,HST.out,HIN.out,E3.out];rfl)
                       have HF3:=Lib.hid (HG2.out.trans (HZB.out.mono HG2.out.size))
                       go_wp2
                       go_roundw
                       case rel => exact ⟨k+1,by omega,by go_num,HG3,HF3⟩
                       case measure => simp [RowKit.intOf];omega)
        ·rw [decide_eq_false h48,Bool.not_false] at ek8
         have e2:=str_empty u.m.leader
         by_cases hle:u.m.leader=[]
         ·rw [decide_eq_true hle] at e2
          have HG3:Hid (∀ j,j < k+1 → goodAt (xs.map NP.m) j=true):=Lib.hid (fun j hj => by
           rcases Nat.lt_succ_iff_lt_or_eq.1 hj with h | rfl
           ·exact hG.out j h
           ·rw [goodAt_is,HST.out,HIN.out,ledD,if_neg h48,decide_eq_true hle];rfl)
          clear h48 hle
          go_wp2
          go_roundw
          case rel => exact ⟨k+1,by omega,by go_num,HG3,HG2⟩
          case measure => simp [RowKit.intOf];omega
         ·rw [decide_eq_false hle] at e2
          have E:Hid (r=false):=Lib.hid (by
           rw [← HR.out];refine goodT_false (k:=k) (by rw [List.length_map,HL.out];exact hlt) ?_
           rw [goodAt_is,HST.out,HIN.out,ledD,if_neg h48,decide_eq_false hle];rfl)
          clear h48 hle
          go_wp2
          go_ret
          exact ⟨by rw [E.out];rfl,HG2.out⟩
   ·have hk1:k - 1 < n:=by omega
    obtain ⟨b2,o2,hp2,hb2,hB2,hc2⟩:=HMW.out.cells9 hk1;simp only [Option.some.injEq,Addr.mk.injEq,and_true] at hp2;obtain ⟨rfl,rfl⟩:=hp2;obtain ⟨v,hv⟩:∃ v,xs.getD (k - 1) zeroQ=v:=⟨_,rfl⟩;rw [hv] at hc2;have HIV:Hid ((xs.map NP.m).getD (k - 1) zeroN=v.m):=Lib.hid (by rw [getN_map,hv])
    have sV:Since9 W b1 (o1+(k - 1) * 9) v:=since9 hc2 hb2;unfold Since9 Cells9 at sV;have ge:=geB v.m.path u.m.path;have ge2:Op.bytesLess (str v.m.path).toList (str u.m.path).toList=ltB v.m.path u.m.path:=by rw [str_toList,str_toList];rfl
    obtain ⟨lt,hltv⟩:∃ x,ltB v.m.path u.m.path=x:=⟨_,rfl⟩;rw [hltv] at ge ge2;have HLT:=Lib.hid hltv;have hkz:(0:Int) < (k:Int):=by omega
    have hkn:0 < k:=by omega
    have hk1z:(1:Int)≤(k:Int):=by omega
    have wk:IntKind.i64.wrap ((k:Int) - 1)=(k:Int) - 1:=by rw [IntKind.wrap_i64];omega
    have wk0:(0:Int)≤(k:Int) - 1:=by omega
    have wk2:(k:Int) - 1 < (n:Int):=by omega
    have wk3:((k:Int) - 1).toNat=k - 1:=by omega
    clear hv hc2 hB2 hb2 hltv
    cases lt with
    | false =>
      have E:Hid (r=false):=Lib.hid (by
       rw [← HR.out];refine goodT_false (k:=k) (by rw [List.length_map,HL.out];exact hlt) ?_
       rw [goodAt_is,stepT,HIN.out,HIV.out,HLT.out,decide_eq_false hk0,Bool.or_false,Bool.and_false]
       rfl)
      refine wp_region_since (by kernel_rfl) (by kernel_rfl) ?_
      repeat (quiet_step (first
       | (go_at_call 28;exact Calls.since_of (HCI.out _))))
      refine wpQuiet_nil ?_
      intro wq hw';have hwq:=since_bel hw';clear hw';have F:=Lib.hid (HBW.out.trans (hwq.mono HBW.out.size));clear hwq sX sV
      go_wp2
      go_ret
      exact ⟨by rw [E.out];rfl,F.out⟩
    | true =>
      have HP0:Hid ((decide (k=0) || ltB ((xs.map NP.m).getD (k - 1) zeroN).path u.m.path)=true):=Lib.hid (by rw [HIV.out,HLT.out,Bool.or_true])
      clear hk0
      cases x49 with
      | true =>
        have E:Hid (r=false):=Lib.hid (by
         rw [← HR.out];refine goodT_false (k:=k) (by rw [List.length_map,HL.out];exact hlt) ?_
         rw [goodAt_is,stepT,HIN.out,isNodeD,show decide (u.m.kind≠49)=false by rw [decide_eq_false_iff_not];exact fun h => h (of_decide_eq_true H49.out)];rfl)
        refine wp_region_since (by kernel_rfl) (by kernel_rfl) ?_
        repeat (quiet_step (first
         | (go_at_call 28;exact Calls.since_of (HCI.out _))))
        refine wpQuiet_nil ?_
        intro wq hw';have hwq:=since_bel hw';clear hw';have F:=Lib.hid (HBW.out.trans (hwq.mono HBW.out.size));clear hwq sX
        go_wp2
        go_ret
        exact ⟨by rw [E.out];rfl,F.out⟩
      | false =>
        have H49b:Hid (decide (u.m.kind≠49)=true):=Lib.hid (decide_eq_true (of_decide_eq_false H49.out))
        cases q with
        | false =>
          have E:Hid (r=false):=Lib.hid (by
           rw [← HR.out];refine goodT_false (k:=k) (by rw [List.length_map,HL.out];exact hlt) ?_
           rw [goodAt_is,stepT,HIN.out,isNodeD,HQ.out,H49b.out];rfl)
          refine wp_region_since (by kernel_rfl) (by kernel_rfl) ?_
          repeat (quiet_step (first
           | (go_at_call 28;exact Calls.since_of (HCI.out _))))
          refine wpQuiet_nil ?_
          intro wq hw';have hwq:=since_bel hw';clear hw';have F:=Lib.hid (HBW.out.trans (hwq.mono HBW.out.size));clear hwq sX
          go_wp2
          go_ret
          exact ⟨by rw [E.out];rfl,F.out⟩
        | true =>
          have HST:Hid (stepT (xs.map NP.m) k=true):=Lib.hid (by rw [stepT,HIN.out,isNodeD,HQ.out,H49b.out,HP0.out];rfl)
          refine wp_region_since (by kernel_rfl) (by kernel_rfl) ?_
          repeat (quiet_step (first
           | (go_at_call 28;exact Calls.since_of (HCI.out _))))
          refine wpQuiet_nil ?_
          intro wq hw';have hwq:=since_bel hw';clear hw';clear sV hkz hkn hk1z wk wk0 wk2 wk3 ge ge2;have HG2:=Lib.hid (HBW.out.trans (hwq.mono HBW.out.size));have hX2:=HX.out.below hwq HX.out.lt;obtain ⟨x0,x1,x2,x3,x4,x5,x6,x7,x8⟩:=cells9_of hX2;simp only [Nat.zero_add,HKN.out] at x0 x1 x2 x3 x4 x5 x6 x7 x8;have HX2:=Lib.hid hX2;have HM2:=Lib.hid (HMW.out.below hwq);have HB2:=Lib.hid (HB1.out.below hwq);clear hwq hX2 sX
          by_cases h48:u.m.kind=48
          ·rw [decide_eq_true h48,Bool.not_true] at ek8
           have w1:IntKind.i64.wrap ((k:Int)+1)=(k:Int)+1:=by rw [IntKind.wrap_i64];omega
           have hkc:(k:Int)+1≤(c:Int):=by omega
           have hk0:(0:Int)≤(k:Int)+1:=by omega
           have hkt:((k:Int)+1).toNat=k+1:=by omega
           have HCC:Hid (∀ w',Below wq.heap.size wq w' → w'.cell? ⟨wr.heap.size,2,none⟩=some (.string (str u.m.leader))):=Lib.hid (fun w' h => (h.cell (p:=⟨wr.heap.size,2,none⟩) HX2.out.lt).trans x2)
           have HBB:Hid (Below wq.heap.size wq wq.drew):=Lib.hid (below_drewN (Below.refl wq.heap.size wq) 1);have HBA:Hid (∀ o,Below wq.heap.size wq (wq.alloc o).drew):=Lib.hid (fun o => below_drewN ((Below.refl wq.heap.size wq).alloc (Nat.le_refl _) o) 1)
           have HFI:Hid (∀ w',Below wq.heap.size wq w' → Calls Tryd.prog 20 #[.slice (some ⟨b1,o1,none⟩) (k+1) c,.string (str u.m.leader)] w' (RFindPost w' (xs.take (k+1)) u.m.leader)):=Lib.hid (fun w' hb => by
            have hm:=(HM2.out.below hb).drop (show k+1≤n by omega)
            have:=rfind_any (some ⟨b1,o1,none⟩) (k+1) c (xs.take (k+1)) u.m.leader w' hm (by unfold maxLen;omega)
            exact this)
           have HLD:Hid (ledD ((xs.map NP.m).take (k+1)) u.m=ledO (findN ((xs.map NP.m).take (k+1)) u.m.leader) u.m):=Lib.hid (by rw [ledD,if_pos h48])
           unfold RFindPost at HFI;simp only [List.map_take] at HFI;obtain ⟨fo,hfo⟩:∃ fo,findN ((xs.map NP.m).take (k+1)) u.m.leader=fo:=⟨_,rfl⟩;rw [hfo] at HFI HLD;clear x0 x1 x4 x5 x6 x7 x8 h48 hfo
           cases fo with
           | none =>
             have E:Hid (r=false):=Lib.hid (by
              rw [← HR.out];refine goodT_false (k:=k) (by rw [List.length_map,HL.out];exact hlt) ?_
              rw [goodAt_is,HIN.out,HLD.out,ledO,Bool.and_false])
             go_wp2_with fail
             go_region_held_law (fun w' => w'.cell? ⟨wr.heap.size,2,none⟩=some (.string (str u.m.leader))) ((refine HCC.out _ ?_;first | with_reducible exact HBB.out | with_reducible exact HBB.out.alloc HBB.out.size _ | with_reducible exact HBA.out _ | with_reducible exact below9 HBB.out (Nat.le_refl _) _ _ _ _ _ _ _ _ _)) (first
              | (go_at_call 20
                 refine (HFI.out _ ?_).mono ?_
                 (with_reducible exact HBB.out)
                 rintro e wa ⟨y,he,hy,hyb,hba⟩;unfold NP.cs nodC at he;subst he;have HYB:Hid (BodAt wq y):=Lib.hid (of_bod (HM2.out.drop (show k+1≤n by omega)) hyb)
                 have HYM:=Lib.hid hy;have HBB:=Lib.hid (HBB.out.trans (hba.mono HBB.out.size))
                 clear hba hyb hy)
              | (go_at_call 20
                 refine (HFI.out _ ?_).mono ?_
                 (with_reducible exact HBA.out _)
                 rintro e wa ⟨y,he,hy,hyb,hba⟩;unfold NP.cs nodC at he;subst he;have HYB:Hid (BodAt wq y):=Lib.hid (of_bod (HM2.out.drop (show k+1≤n by omega)) hyb)
                 have HYM:=Lib.hid hy;have hz:Blk wa wq.heap.size 45 zeroQ.cs:=(Blk.new wq _ zeroQ.cs).drew.below hba (by simp)
                 have MB:=Lib.hid hz;have HBB:=Lib.hid ((HBA.out _).trans (hba.mono (HBA.out _).size));obtain ⟨r0,r1,r2,r3,r4,r5,r6,r7,r8⟩:=cells9_of hz;simp only [Nat.zero_add] at r0 r1 r2 r3 r4 r5 r6 r7 r8;have f0:=hz.frozen 0;have f1:=hz.frozen 1;have f2:=hz.frozen 2;have f3:=hz.frozen 3;have f4:=hz.frozen 4;have f5:=hz.frozen 5;have f6:=hz.frozen 6;have f7:=hz.frozen 7;have f8:=hz.frozen 8
                 clear hz hba hyb hy))
             all_goals
              first
              | (have HZB:=Lib.hid (below9 HBB.out (Nat.le_refl _) (.string (str y.m.path)) (.string (str y.m.target)) (.string (str y.m.leader)) (.int .u8 (y.m.kind.toNat:Int)) (.int .i64 y.m.mode) (.int .i64 y.m.uid) (.int .i64 y.m.gid) (.int .i64 y.m.time) (.slice y.p y.m.body.length y.c))
                 clear MB
                 go_wp2
                 go_ret
                 exact ⟨by rw [E.out];rfl,HG2.out.trans (HZB.out.mono HG2.out.size)⟩)
              | (have HZB:Hid (Below wq.heap.size wq (wa.alloc (.cells #[.string (str y.m.path),.string (str y.m.target),.string (str y.m.leader),.int .u8 (y.m.kind.toNat:Int),.int .i64 y.m.mode,.int .i64 y.m.uid,.int .i64 y.m.gid,.int .i64 y.m.time,.slice y.p y.m.body.length y.c] 45))):=Lib.hid (HBB.out.alloc HBB.out.size _)
                 go_wp2
                 go_ret
                 exact ⟨by rw [E.out];rfl,HG2.out.trans (HZB.out.mono HG2.out.size)⟩)
           | some z =>
             go_wp2_with fail
             go_region_held_law (fun w' => w'.cell? ⟨wr.heap.size,2,none⟩=some (.string (str u.m.leader))) ((refine HCC.out _ ?_;first | with_reducible exact HBB.out | with_reducible exact HBB.out.alloc HBB.out.size _ | with_reducible exact HBA.out _ | with_reducible exact below9 HBB.out (Nat.le_refl _) _ _ _ _ _ _ _ _ _)) (first
              | (go_at_call 20
                 refine (HFI.out _ ?_).mono ?_
                 (with_reducible exact HBB.out)
                 rintro e wa ⟨y,he,hy,hyb,hba⟩;unfold NP.cs nodC at he;subst he;have HYB:Hid (BodAt wq y):=Lib.hid (of_bod (HM2.out.drop (show k+1≤n by omega)) hyb)
                 have HYM:=Lib.hid hy;have HBB:=Lib.hid (HBB.out.trans (hba.mono HBB.out.size))
                 clear hba hyb hy)
              | (go_at_call 20
                 refine (HFI.out _ ?_).mono ?_
                 (with_reducible exact HBA.out _)
                 rintro e wa ⟨y,he,hy,hyb,hba⟩;unfold NP.cs nodC at he;subst he;have HYB:Hid (BodAt wq y):=Lib.hid (of_bod (HM2.out.drop (show k+1≤n by omega)) hyb)
                 have HYM:=Lib.hid hy;have hz:Blk wa wq.heap.size 45 zeroQ.cs:=(Blk.new wq _ zeroQ.cs).drew.below hba (by simp)
                 have MB:=Lib.hid hz;have HBB:=Lib.hid ((HBA.out _).trans (hba.mono (HBA.out _).size));obtain ⟨r0,r1,r2,r3,r4,r5,r6,r7,r8⟩:=cells9_of hz;simp only [Nat.zero_add] at r0 r1 r2 r3 r4 r5 r6 r7 r8;have f0:=hz.frozen 0;have f1:=hz.frozen 1;have f2:=hz.frozen 2;have f3:=hz.frozen 3;have f4:=hz.frozen 4;have f5:=hz.frozen 5;have f6:=hz.frozen 6;have f7:=hz.frozen 7;have f8:=hz.frozen 8
                 clear hz hba hyb hy))
             all_goals
              first
              | (have MB2:=MB
                 clear r0 r1 r2 r3 r4 r5 r6 r7 r8 f0 f1 f2 f3 f4 f5 f6 f7 f8;obtain ⟨Wz,hWz⟩:∃ Wz,(((((((((wa.setCell ⟨wq.heap.size,0,none⟩ (.string (str y.m.path))).setCell ⟨wq.heap.size,1,none⟩ (.string (str y.m.target))).setCell ⟨wq.heap.size,2,none⟩ (.string (str y.m.leader))).setCell ⟨wq.heap.size,3,none⟩ (.int .u8 (y.m.kind.toNat:Int))).setCell ⟨wq.heap.size,4,none⟩ (.int .i64 y.m.mode)).setCell ⟨wq.heap.size,5,none⟩ (.int .i64 y.m.uid)).setCell ⟨wq.heap.size,6,none⟩ (.int .i64 y.m.gid)).setCell ⟨wq.heap.size,7,none⟩ (.int .i64 y.m.time)).setCell ⟨wq.heap.size,8,none⟩ (.slice y.p y.m.body.length y.c))=Wz:=⟨_,rfl⟩
                 have hZ:Blk Wz wq.heap.size 45 y.cs:=by rw [← hWz];exact blk9 MB.out (.string (str y.m.path)) (.string (str y.m.target)) (.string (str y.m.leader)) (.int .u8 (y.m.kind.toNat:Int)) (.int .i64 y.m.mode) (.int .i64 y.m.uid) (.int .i64 y.m.gid) (.int .i64 y.m.time) (.slice y.p y.m.body.length y.c)
                 have hBz:Below wq.heap.size wq Wz:=by rw [← hWz];exact below9 HBB.out (Nat.le_refl _) (.string (str y.m.path)) (.string (str y.m.target)) (.string (str y.m.leader)) (.int .u8 (y.m.kind.toNat:Int)) (.int .i64 y.m.mode) (.int .i64 y.m.uid) (.int .i64 y.m.gid) (.int .i64 y.m.time) (.slice y.p y.m.body.length y.c)
                 rw [hWz];clear hWz;have HZB:=Lib.hid hBz;obtain ⟨y0,y1,y2,y3,y4,y5,y6,y7,y8⟩:=cells9_of hZ;obtain ⟨x0,x1,x2,x3,x4,x5,x6,x7,x8⟩:=cells9_of (HX2.out.below hBz HX2.out.lt);simp only [Nat.zero_add,HKN.out] at y0 y1 y2 y3 y4 y5 y6 y7 y8 x0 x1 x2 x3 x4 x5 x6 x7 x8;have v1:(convert 23 9 (.slice y.p y.m.body.length y.c)).run Tryd.prog Wz=.ok (.string (str y.m.body)) Wz:=conv_at (HYB.out.below hBz).bat rfl _ _ _ Tryd.underlying23 Tryd.underlying5 Tryd.underlying9 _;have v2:(convert 23 9 (.slice u.p u.m.body.length u.c)).run Tryd.prog Wz=.ok (.string (str u.m.body)) Wz:=conv_at (HB2.out.below hBz).bat rfl _ _ _ Tryd.underlying23 Tryd.underlying5 Tryd.underlying9 _
                 have eyk:=kind_nq y.m.kind 48 48 rfl;obtain ⟨ky,hky⟩:∃ k:Int,(y.m.kind.toNat:Int)=k:=⟨_,rfl⟩;rw [hky] at eyk y3;have e2:=str_eqD y.m.leader y.m.path;have e4:=fun w => neqMeta y.m.mode y.m.uid y.m.gid y.m.time u.m.mode u.m.uid u.m.gid u.m.time w
                 have e5:=str_eqD y.m.body u.m.body
                 have E3:Hid (ledD ((xs.map NP.m).take (k+1)) u.m=(decide (y.m.kind=48) && (decide (y.m.leader=y.m.path) && (decide (y.m.mode=u.m.mode∧y.m.uid=u.m.uid∧y.m.gid=u.m.gid∧y.m.time=u.m.time) && decide (y.m.body=u.m.body))))):=Lib.hid (by
                  have hz:z=y.m:=HYM.out.symm
                  rw [HLD.out,hz];rfl)
                 obtain ⟨q1,hq1⟩:∃ q,decide (y.m.kind=48)=q:=⟨_,rfl⟩;obtain ⟨q2,hq2⟩:∃ q,decide (y.m.leader=y.m.path)=q:=⟨_,rfl⟩;obtain ⟨q3,hq3⟩:∃ q,decide (y.m.mode=u.m.mode∧y.m.uid=u.m.uid∧y.m.gid=u.m.gid∧y.m.time=u.m.time)=q:=⟨_,rfl⟩;obtain ⟨q4,hq4⟩:∃ q,decide (y.m.body=u.m.body)=q:=⟨_,rfl⟩;rw [hq1] at eyk;rw [hq2] at e2;simp only [hq3] at e4;rw [hq4] at e5;rw [hq1,hq2,hq3,hq4] at E3;clear hq1 hq2 hq3 hq4 hZ hBz hky
                 cases q1 with
                 | false =>
                   have E:Hid (r=false):=Lib.hid (by
                    rw [← HR.out];refine goodT_false (k:=k) (by rw [List.length_map,HL.out];exact hlt) ?_
                    rw [goodAt_is,HIN.out,E3.out];simp)
                   go_wp2
                   go_ret
                   exact ⟨by rw [E.out];rfl,HG2.out.trans (HZB.out.mono HG2.out.size)⟩
                 | true =>
                   cases q2 with
                   | false =>
                     have E:Hid (r=false):=Lib.hid (by
                      rw [← HR.out];refine goodT_false (k:=k) (by rw [List.length_map,HL.out];exact hlt) ?_
                      rw [goodAt_is,HIN.out,E3.out];simp)
                     go_wp2
                     go_ret
                     exact ⟨by rw [E.out];rfl,HG2.out.trans (HZB.out.mono HG2.out.size)⟩
                   | true =>
                     cases q3 with
                     | false =>
                       have E:Hid (r=false):=Lib.hid (by
                        rw [← HR.out];refine goodT_false (k:=k) (by rw [List.length_map,HL.out];exact hlt) ?_
                        rw [goodAt_is,HIN.out,E3.out];simp)
                       go_wp2
                       go_ret
                       exact ⟨by rw [E.out];rfl,HG2.out.trans (HZB.out.mono HG2.out.size)⟩
                     | true =>
                       cases q4 with
                       | false =>
                         have E:Hid (r=false):=Lib.hid (by
                          rw [← HR.out];refine goodT_false (k:=k) (by rw [List.length_map,HL.out];exact hlt) ?_
                          rw [goodAt_is,HIN.out,E3.out];simp)
                         go_wp2
                         go_ret
                         exact ⟨by rw [E.out];rfl,HG2.out.trans (HZB.out.mono HG2.out.size)⟩
                       | true =>
                         have HG3:Hid (∀ j,j < k+1 → goodAt (xs.map NP.m) j=true):=Lib.hid (fun j hj => by
                          rcases Nat.lt_succ_iff_lt_or_eq.1 hj with h | rfl
                          ·exact hG.out j h
                          ·rw [goodAt_is,HST.out,HIN.out,E3.out];rfl)
                         have HF3:=Lib.hid (HG2.out.trans (HZB.out.mono HG2.out.size))
                         go_wp2
                         go_roundw
                         case rel => exact ⟨k+1,by omega,by go_num,HG3,HF3⟩
                         case measure => simp [RowKit.intOf];omega)
              | (obtain ⟨Wz,hWz⟩:∃ Wz,wa.alloc (.cells #[.string (str y.m.path),.string (str y.m.target),.string (str y.m.leader),.int .u8 (y.m.kind.toNat:Int),.int .i64 y.m.mode,.int .i64 y.m.uid,.int .i64 y.m.gid,.int .i64 y.m.time,.slice y.p y.m.body.length y.c] 45)=Wz:=⟨_,rfl⟩
                 have hZ:Blk Wz wa.heap.size 45 y.cs:=by rw [← hWz];exact Blk.new wa _ _
                 have hBz:Below wq.heap.size wq Wz:=by rw [← hWz];exact HBB.out.alloc HBB.out.size _
                 rw [hWz];clear hWz;have HZB:=Lib.hid hBz;obtain ⟨y0,y1,y2,y3,y4,y5,y6,y7,y8⟩:=cells9_of hZ;obtain ⟨x0,x1,x2,x3,x4,x5,x6,x7,x8⟩:=cells9_of (HX2.out.below hBz HX2.out.lt);simp only [Nat.zero_add,HKN.out] at y0 y1 y2 y3 y4 y5 y6 y7 y8 x0 x1 x2 x3 x4 x5 x6 x7 x8;have v1:(convert 23 9 (.slice y.p y.m.body.length y.c)).run Tryd.prog Wz=.ok (.string (str y.m.body)) Wz:=conv_at (HYB.out.below hBz).bat rfl _ _ _ Tryd.underlying23 Tryd.underlying5 Tryd.underlying9 _;have v2:(convert 23 9 (.slice u.p u.m.body.length u.c)).run Tryd.prog Wz=.ok (.string (str u.m.body)) Wz:=conv_at (HB2.out.below hBz).bat rfl _ _ _ Tryd.underlying23 Tryd.underlying5 Tryd.underlying9 _
                 have eyk:=kind_nq y.m.kind 48 48 rfl;obtain ⟨ky,hky⟩:∃ k:Int,(y.m.kind.toNat:Int)=k:=⟨_,rfl⟩;rw [hky] at eyk y3;have e2:=str_eqD y.m.leader y.m.path;have e4:=fun w => neqMeta y.m.mode y.m.uid y.m.gid y.m.time u.m.mode u.m.uid u.m.gid u.m.time w
                 have e5:=str_eqD y.m.body u.m.body
                 have E3:Hid (ledD ((xs.map NP.m).take (k+1)) u.m=(decide (y.m.kind=48) && (decide (y.m.leader=y.m.path) && (decide (y.m.mode=u.m.mode∧y.m.uid=u.m.uid∧y.m.gid=u.m.gid∧y.m.time=u.m.time) && decide (y.m.body=u.m.body))))):=Lib.hid (by
                  have hz:z=y.m:=HYM.out.symm
                  rw [HLD.out,hz];rfl)
                 obtain ⟨q1,hq1⟩:∃ q,decide (y.m.kind=48)=q:=⟨_,rfl⟩;obtain ⟨q2,hq2⟩:∃ q,decide (y.m.leader=y.m.path)=q:=⟨_,rfl⟩;obtain ⟨q3,hq3⟩:∃ q,decide (y.m.mode=u.m.mode∧y.m.uid=u.m.uid∧y.m.gid=u.m.gid∧y.m.time=u.m.time)=q:=⟨_,rfl⟩;obtain ⟨q4,hq4⟩:∃ q,decide (y.m.body=u.m.body)=q:=⟨_,rfl⟩;rw [hq1] at eyk;rw [hq2] at e2;simp only [hq3] at e4;rw [hq4] at e5;rw [hq1,hq2,hq3,hq4] at E3;clear hq1 hq2 hq3 hq4 hZ hBz hky
                 cases q1 with
                 | false =>
                   have E:Hid (r=false):=Lib.hid (by
                    rw [← HR.out];refine goodT_false (k:=k) (by rw [List.length_map,HL.out];exact hlt) ?_
                    rw [goodAt_is,HIN.out,E3.out];simp)
                   go_wp2
                   go_ret
                   exact ⟨by rw [E.out];rfl,HG2.out.trans (HZB.out.mono HG2.out.size)⟩
                 | true =>
                   cases q2 with
                   | false =>
                     have E:Hid (r=false):=Lib.hid (by
                      rw [← HR.out];refine goodT_false (k:=k) (by rw [List.length_map,HL.out];exact hlt) ?_
                      rw [goodAt_is,HIN.out,E3.out];simp)
                     go_wp2
                     go_ret
                     exact ⟨by rw [E.out];rfl,HG2.out.trans (HZB.out.mono HG2.out.size)⟩
                   | true =>
                     cases q3 with
                     | false =>
                       have E:Hid (r=false):=Lib.hid (by
                        rw [← HR.out];refine goodT_false (k:=k) (by rw [List.length_map,HL.out];exact hlt) ?_
                        rw [goodAt_is,HIN.out,E3.out];simp)
                       go_wp2
                       go_ret
                       exact ⟨by rw [E.out];rfl,HG2.out.trans (HZB.out.mono HG2.out.size)⟩
                     | true =>
                       cases q4 with
                       | false =>
                         have E:Hid (r=false):=Lib.hid (by
                          rw [← HR.out];refine goodT_false (k:=k) (by rw [List.length_map,HL.out];exact hlt) ?_
                          rw [goodAt_is,HIN.out,E3.out];simp)
                         go_wp2
                         go_ret
                         exact ⟨by rw [E.out];rfl,HG2.out.trans (HZB.out.mono HG2.out.size)⟩
                       | true =>
                         have HG3:Hid (∀ j,j < k+1 → goodAt (xs.map NP.m) j=true):=Lib.hid (fun j hj => by
                          rcases Nat.lt_succ_iff_lt_or_eq.1 hj with h | rfl
                          ·exact hG.out j h
                          ·rw [goodAt_is,HST.out,HIN.out,E3.out];rfl)
                         have HF3:=Lib.hid (HG2.out.trans (HZB.out.mono HG2.out.size))
                         go_wp2
                         go_roundw
                         case rel => exact ⟨k+1,by omega,by go_num,HG3,HF3⟩
                         case measure => simp [RowKit.intOf];omega)
          ·rw [decide_eq_false h48,Bool.not_false] at ek8
           have e2:=str_empty u.m.leader
           by_cases hle:u.m.leader=[]
           ·rw [decide_eq_true hle] at e2
            have HG3:Hid (∀ j,j < k+1 → goodAt (xs.map NP.m) j=true):=Lib.hid (fun j hj => by
             rcases Nat.lt_succ_iff_lt_or_eq.1 hj with h | rfl
             ·exact hG.out j h
             ·rw [goodAt_is,HST.out,HIN.out,ledD,if_neg h48,decide_eq_true hle];rfl)
            clear h48 hle
            go_wp2
            go_roundw
            case rel => exact ⟨k+1,by omega,by go_num,HG3,HG2⟩
            case measure => simp [RowKit.intOf];omega
           ·rw [decide_eq_false hle] at e2
            have E:Hid (r=false):=Lib.hid (by
             rw [← HR.out];refine goodT_false (k:=k) (by rw [List.length_map,HL.out];exact hlt) ?_
             rw [goodAt_is,HST.out,HIN.out,ledD,if_neg h48,decide_eq_false hle];rfl)
            clear h48 hle
            go_wp2
            go_ret
            exact ⟨by rw [E.out];rfl,HG2.out⟩
  ·have hks:¬ ((k:Int) < (n:Int)):=by omega
   have H0:Hid (∀ j,j < xs.length → goodAt (xs.map NP.m) j=true):=Lib.hid (fun j hj => hG.out j (by rw [HL.out] at hj;omega))
   by_cases hbig:n≤4096
   ·have E:Hid (r=true):=Lib.hid (by
     rw [← HR.out]
     exact goodT_true (by rw [List.length_map,HL.out];exact hbig) (fun j hj => H0.out j (by rw [List.length_map] at hj;exact hj)))
    have hbz:(n:Int)≤4096:=by omega
    go_wp2
    go_ret
    exact ⟨by rw [E.out];rfl,hB.out⟩
   ·have E:Hid (r=false):=Lib.hid (by
     rw [← HR.out];unfold goodT
     rw [List.length_map,HL.out,decide_eq_false hbig,Bool.false_and])
    have hbz:¬ (n:Int)≤4096:=by omega
    have hbd:decide ((n:Int)≤4096)=false:=decide_eq_false hbz
    go_wp2
    go_ret
    exact ⟨by rw [E.out];rfl,hB.out⟩
end Go.Proofs.YtfhelebejclalaaDoor.Tre
end
section
namespace Go.Proofs.YtfhelebejclalaaDoor.Lnk
open Go.ChangeShapes Go.WideShapes Go.ChangeAt Go.RowKit Base Byt Txt Bk Mem Tre Go.Lib
set_option linter.unusedVariables false
set_option maxRecDepth 100000
def sumT (ts:List NodeV):Nat:=(ts.map fun x => x.body.length).sum
theorem sumT_snoc (ts:List NodeV) (x:NodeV):sumT (ts++[x])=sumT ts+x.body.length:=by simp [sumT]
def light11D (ts:List NodeV):Bool:=decide (ts.length≤60) && (decide (sumT ts≤200000) && goodT ts)
theorem light11D_facts {ts:List NodeV} (h:light11D ts=true):ts.length≤60∧sumT ts≤200000∧goodT ts=true:=by
 simp only [light11D,Bool.and_eq_true,decide_eq_true_eq] at h;exact ⟨h.1,h.2.1,h.2.2⟩
set_option maxHeartbeats 4000000 in
theorem light11_any (p:Option Addr) (n c:Nat) (xs:List NP) (w:World) (hM:NodesAt w p n xs) (hc:n≤c) (hm:c≤maxLen) (hR:∀ x ∈ xs,RoomN x) :
 Calls Tryd.prog 9 #[.slice p n c] w fun e w' => e=.returned (.bool (light11D (xs.map NP.m)))∧Below w.heap.size w w':=by
 have hnm:n≤9223372036854775807:=by unfold maxLen at hm;omega
 have HG:=Lib.hid (rgoodT_any p n c xs w hM hc hm fun x hx => ⟨(hR x hx).1,(hR x hx).2.1⟩)
 have HM:=Lib.hid hM;have HL:=Lib.hid hM.1;have HR:=Lib.hid hR;clear hM hR hc hm
 go_enter Tryd.func9,Tryd.ntmps9
 go_wp2_with fail
 go_loop [3,4] (fun s i => ∃ (k:Nat) (S:Int),k≤n∧i=.int .i64 (k:Int)∧s=.int .i64 S∧Hid (n≤60 → S=(sumT ((xs.take k).map NP.m):Int)∧sumT ((xs.take k).map NP.m)≤k * 140737488355328)) (fun _ i => n - (RowKit.intOf i).toNat)
 case atStart => exact ⟨0,0,Nat.zero_le _,rfl,rfl,Lib.hid (fun _ => ⟨rfl,Nat.zero_le _⟩)⟩
 case round =>
  obtain ⟨k,S,hk,rfl,rfl,hS⟩:=hrel
  by_cases hlt:k < n
  ·have hlx:k < xs.length:=by rw [HL.out];exact hlt
   have hT:=takeN_succ xs k hlx;have hrm:=HR.out _ (getN_mem xs k hlx);obtain ⟨b,o,rfl,hb,hBd,hc⟩:=HM.out.cells9 hlt;obtain ⟨y,hy⟩:∃ y,xs.getD k zeroQ=y:=⟨_,rfl⟩;rw [hy] at hT hrm hBd hc;obtain ⟨c0,c1,c2,c3,c4,c5,c6,c7,c8⟩:=hc;have hltz:(k:Int) < (n:Int):=by omega
   have HS2:Hid (n≤60 → IntKind.i64.wrap (S+(y.m.body.length:Int))=(sumT ((xs.take (k+1)).map NP.m):Int)∧sumT ((xs.take (k+1)).map NP.m)≤(k+1) * 140737488355328):=Lib.hid (fun h60 => by
    obtain ⟨h1,h2⟩:=hS.out h60;have h3:=hBd.le;have h4:=hrm.2.2.2;rw [hT,sumT_snoc,Nat.succ_mul];have h5:k * 140737488355328≤60 * 140737488355328:=Nat.mul_le_mul_right _ (by omega)
    refine ⟨?_,by omega⟩
    rw [IntKind.wrap_i64,h1]
    all_goals omega)
   clear hT hrm hBd hb hy hlx c0 c1 c2 c3 c4 c5 c6 c7
   go_wp2
   go_round
   case rel => exact ⟨k+1,_,by omega,by go_num,rfl,Lib.hid (fun h60 => by
    have h:=HS2.out h60;rw [IntKind.wrap_i64] at h
    first | exact h | (unfold wrap64;exact h))⟩
   case measure => simp [RowKit.intOf];omega
  ·have hks:¬ ((k:Int) < (n:Int)):=by omega
   have e:xs.take k=xs:=List.take_of_length_le (by rw [HL.out];omega)
   by_cases h60:n≤60
   ·have hs:=(hS.out h60).1
    rw [e] at hs;have h60z:(n:Int)≤60:=by omega
    obtain ⟨N,hN⟩:∃ N,sumT (xs.map NP.m)=N:=⟨_,rfl⟩;rw [hN] at hs;subst hs
    have E:Hid (light11D (xs.map NP.m)=(decide (N≤200000) && goodT (xs.map NP.m))):=Lib.hid (by
     unfold light11D
     rw [List.length_map,HL.out,decide_eq_true h60,hN,Bool.true_and])
    clear hS e hN
    by_cases hS2:N≤200000
    ·have hS3:(N:Int)≤200000:=by omega
     have E2:Hid (light11D (xs.map NP.m)=goodT (xs.map NP.m)):=Lib.hid (by rw [E.out,decide_eq_true hS2,Bool.true_and])
     clear hS2
     go_wp2_with fail
     refine HG.out.mono ?_
     rintro e w2 ⟨rfl,hb2⟩;have FIN:=Lib.hid hb2;clear hb2
     go_wp2
     go_ret
     exact ⟨by (rw [E2.out])<;>rfl,FIN.out⟩
    ·have hS3:¬ (N:Int)≤200000:=by omega
     have hd:decide ((N:Int)≤200000)=false:=decide_eq_false hS3;have E2:Hid (light11D (xs.map NP.m)=false):=Lib.hid (by rw [E.out,decide_eq_false hS2,Bool.false_and])
     clear hS2
     go_wp2
     go_ret
     exact ⟨by (rw [E2.out])<;>rfl,Below.refl _ _⟩
   ·have h60z:¬ (n:Int)≤60:=by omega
    have hd:decide ((n:Int)≤60)=false:=decide_eq_false h60z
    have E2:Hid (light11D (xs.map NP.m)=false):=Lib.hid (by
     unfold light11D
     rw [List.length_map,HL.out,decide_eq_false h60,Bool.false_and])
    clear hS e
    go_wp2
    go_ret
    exact ⟨by (rw [E2.out])<;>rfl,Below.refl _ _⟩
end Go.Proofs.YtfhelebejclalaaDoor.Lnk
end
