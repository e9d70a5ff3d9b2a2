/- Texts of this seat, merged: what the proof reaches. -/
import Derived.Test.YtfhelebejclalaaDoorLinksBackX19
import Derived.Deep.RegionHeld3
import Derived.Deep.RegionHeldLaw
import Derived.Deep.Draws
import Derived.Laws.ResultCell
import Derived.Test.YtfhelebejclalaaDoorLinksBackX17
import Derived.Test.YtfhelebejclalaaDoorLinksBackX6
import Derived.Test.YtfhelebejclalaaDoorLinksBackX16
namespace Go.Proofs.YtfhelebejclalaaDoor
namespace Base
end Base
namespace Bk
end Bk
namespace Byt
end Byt
namespace Mem
end Mem
namespace Txt
end Txt
end Go.Proofs.YtfhelebejclalaaDoor
section
namespace Go.Proofs.YtfhelebejclalaaDoor.Tre
open Go.ChangeShapes Go.WideShapes Go.ChangeAt Go.RowKit Base Byt Txt Bk Mem Go.Lib
set_option linter.unusedVariables false
set_option maxRecDepth 100000
set_option maxHeartbeats 4000000 in
theorem rsameT_any (p q:Option Addr) (n m c d:Nat) (xs ys:List NP) (w:World) (hn:n≤maxLen) (h1:NodesAt w p n xs) (h2:NodesAt w q m ys) :
 Calls Tryd.prog 19 #[.slice p n c,.slice q m d] w fun e w' => e=.returned (.bool (decide (xs.map NP.m=ys.map NP.m)))∧Below w.heap.size w w':=by
 unfold maxLen at hn;have H1:=Lib.hid h1;have H2:=Lib.hid h2;have HL1:=Lib.hid h1.1;have HL2:=Lib.hid h2.1;clear h1 h2
 go_enter Tryd.func19,Tryd.ntmps19
 by_cases hnm:n=m
 ·subst hnm
  have hb:(((n:Int)) != (n:Int))=false:=by simp
  go_wp2_with fail
  go_loopw [5] (fun i wr => ∃ (k:Nat),k≤n∧i=.int .i64 (k:Int)∧Hid (∀ j,j < k → (xs.getD j zeroQ).m=(ys.getD j zeroQ).m)∧Hid (Below w.heap.size w wr)) (fun i _ => n - (RowKit.intOf i).toNat)
  case atStart => exact ⟨0,Nat.zero_le _,rfl,Lib.hid (fun j hj => absurd hj (by omega)),Lib.hid (Below.refl _ _)⟩
  case round =>
   obtain ⟨k,hk,rfl,hd,hB⟩:=hrel
   by_cases hlt:k < n
   ·obtain ⟨b1,o1,rfl,hb1,hB1,hc1⟩:=(H1.out.below hB.out).cells9 hlt
    obtain ⟨b2,o2,rfl,hb2,hB2,hc2⟩:=(H2.out.below hB.out).cells9 hlt;obtain ⟨u,hu⟩:∃ u,xs.getD k zeroQ=u:=⟨_,rfl⟩;obtain ⟨v,hv⟩:∃ v,ys.getD k zeroQ=v:=⟨_,rfl⟩;rw [hu] at hB1 hc1;rw [hv] at hB2 hc2;have HU:=Lib.hid hu;have HV:=Lib.hid hv;have HA:=Lib.hid hB1;have HB:=Lib.hid hB2;have HCC:Hid (∀ w',Below wr.heap.size wr w' → Cells9 w' b1 (o1+k * 9) u∧Cells9 w' b2 (o2+k * 9) v):=Lib.hid (fun w' h => ⟨hc1.below hb1 h,hc2.below hb2 h⟩)
    have HBB:Hid (Below wr.heap.size wr wr.drew):=Lib.hid (below_drewN (Below.refl wr.heap.size wr) 1);unfold Cells9 at HCC;have hltz:(k:Int) < (n:Int):=by omega
    have e1:((str u.m.leader).toList == (str v.m.leader).toList)=decide (u.m.leader=v.m.leader):=by
     rw [str_toList,str_toList]
     by_cases h:u.m.leader=v.m.leader<;>simp [h]
    by_cases hl:u.m.leader=v.m.leader
    ·rw [decide_eq_true hl] at e1
     have HLd:=Lib.hid hl;clear hB1 hB2 hc1 hc2 hu hv hb1 hb2 hl
     go_wp2_with fail
     go_region_held3 (fun w' => (w'.cell? ⟨b1,o1+k * 9,none⟩=some (.string (str u.m.path))∧w'.cell? ⟨b1,o1+k * 9+1,none⟩=some (.string (str u.m.target))∧w'.cell? ⟨b1,o1+k * 9+2,none⟩=some (.string (str u.m.leader))∧w'.cell? ⟨b1,o1+k * 9+3,none⟩=some (.int .u8 (u.m.kind.toNat:Int))∧w'.cell? ⟨b1,o1+k * 9+4,none⟩=some (.int .i64 u.m.mode)∧w'.cell? ⟨b1,o1+k * 9+5,none⟩=some (.int .i64 u.m.uid)∧w'.cell? ⟨b1,o1+k * 9+6,none⟩=some (.int .i64 u.m.gid)∧w'.cell? ⟨b1,o1+k * 9+7,none⟩=some (.int .i64 u.m.time)∧w'.cell? ⟨b1,o1+k * 9+8,none⟩=some (.slice u.p u.m.body.length u.c))∧(w'.cell? ⟨b2,o2+k * 9,none⟩=some (.string (str v.m.path))∧w'.cell? ⟨b2,o2+k * 9+1,none⟩=some (.string (str v.m.target))∧w'.cell? ⟨b2,o2+k * 9+2,none⟩=some (.string (str v.m.leader))∧w'.cell? ⟨b2,o2+k * 9+3,none⟩=some (.int .u8 (v.m.kind.toNat:Int))∧w'.cell? ⟨b2,o2+k * 9+4,none⟩=some (.int .i64 v.m.mode)∧w'.cell? ⟨b2,o2+k * 9+5,none⟩=some (.int .i64 v.m.uid)∧w'.cell? ⟨b2,o2+k * 9+6,none⟩=some (.int .i64 v.m.gid)∧w'.cell? ⟨b2,o2+k * 9+7,none⟩=some (.int .i64 v.m.time)∧w'.cell? ⟨b2,o2+k * 9+8,none⟩=some (.slice v.p v.m.body.length v.c))) (exact HCC.out _ HBB.out) (first
      | (go_at_call 35
         refine (requalN_any u v _ (HA.out.below HBB.out) (HB.out.below HBB.out)).mono ?_
         rintro e wa ⟨rfl,hba⟩;have HBB:=Lib.hid (HBB.out.trans (hba.mono HBB.out.size))
         clear hba))
     all_goals
      by_cases huv:u.m=v.m
      ·have huv2:eqN u.m v.m=true:=by rw [huv];simp [eqN]
       have HD:Hid (∀ j,j < k+1 → (xs.getD j zeroQ).m=(ys.getD j zeroQ).m):=Lib.hid (fun j hj => by
        rcases Nat.lt_succ_iff_lt_or_eq.1 hj with h | rfl
        ·exact hd.out j h
        ·rw [HU.out,HV.out,huv])
       clear huv;have HBD:=Lib.hid (hB.out.trans (HBB.out.mono hB.out.size));rw [huv2]
       go_wp2
       go_roundw
       case rel => exact ⟨k+1,by omega,by go_num,HD,HBD⟩
       case measure => simp [RowKit.intOf];omega
      ·have huv2:eqN u.m v.m=false:=by
        rw [Bool.eq_false_iff];intro h;exact huv (node_eq (of_decide_eq_true h) HLd.out)
       have HNE:Hid (decide (xs.map NP.m=ys.map NP.m)=false):=Lib.hid (decide_eq_false (nodes_differ xs ys k (by rw [HL1.out];exact hlt) (by rw [HL2.out];exact hlt) (by rw [HU.out,HV.out];exact huv)))
       clear huv;have HBD:=Lib.hid (hB.out.trans (HBB.out.mono hB.out.size));rw [huv2]
       go_wp2
       go_ret
       exact ⟨by rw [HNE.out];rfl,HBD.out⟩
    ·rw [decide_eq_false hl] at e1
     have HNE:Hid (decide (xs.map NP.m=ys.map NP.m)=false):=Lib.hid (decide_eq_false (nodes_differ xs ys k (by rw [HL1.out];exact hlt) (by rw [HL2.out];exact hlt) (by rw [hu,hv];exact fun h => hl (by rw [h]))))
     obtain ⟨c0,c1,c2,c3,c4,c5,c6,c7,c8⟩:=hc1;obtain ⟨d0,d1,d2,d3,d4,d5,d6,d7,d8⟩:=hc2;clear hB1 hB2 hu hv hb1 hb2 hl
     go_wp2_with fail
     go_quiet (fail)
     go_wp2
     go_ret
     exact ⟨by rw [HNE.out];rfl,below_drewN hB.out _⟩
   ·have hks:¬ ((k:Int) < (n:Int)):=by omega
    have HE:Hid (decide (xs.map NP.m=ys.map NP.m)=true):=Lib.hid (decide_eq_true (nodes_same xs ys (by rw [HL1.out,HL2.out]) (fun j hj => hd.out j (by rw [HL1.out] at hj;omega))))
    go_wp2
    go_ret
    exact ⟨by rw [HE.out];rfl,hB.out⟩
 ·have hb:(((n:Int)) != (m:Int))=true:=by simp;omega
  have HNE:Hid (decide (xs.map NP.m=ys.map NP.m)=false):=Lib.hid (decide_eq_false (fun h => hnm (by
   have:=congrArg List.length h;rw [List.length_map,List.length_map,HL1.out,HL2.out] at this
   exact this)))
  go_wp2
  go_ret
  exact ⟨by rw [HNE.out];rfl,Below.refl _ _⟩
end Go.Proofs.YtfhelebejclalaaDoor.Tre
end
section
namespace Go.Proofs.YtfhelebejclalaaDoor.Tre
open Go.ChangeShapes Go.WideShapes Go.ChangeAt Go.RowKit Base Byt Txt Bk Mem Go.Lib
set_option linter.unusedVariables false
set_option maxRecDepth 100000
theorem load_node (w:World) (g:Nat) (y:NP) (h:Blk w g 45 y.cs):(loadVar 45 ⟨g,0,none⟩).run Tryd.prog w=.ok (.agg y.cs) w:=by
 obtain ⟨c0,c1,c2,c3,c4,c5,c6,c7,c8⟩:=cells9_of h;simp only [Nat.zero_add] at c0 c1 c2 c3 c4 c5 c6 c7 c8;unfold NP.cs nodC;clear h
 go_simp
theorem ret_nodB {fn:Func} (hf:fn.results=#[.cell 4 45,.tmp 5]) (tmps:Array Value) (w:World) (g:Nat) (v:Value) (ht:tmps.getD 4 undef=.pointer (some ⟨g,0,none⟩)) (hv:tmps.getD 5 undef=v)
 (y:NP) (hb:Blk w g 45 y.cs):(results fn tmps).run Tryd.prog w=.ok (.tuple #[.agg y.cs,v]) w:=by
 rw [results_cell_tmp hf,ht,hv];have hl:=load_node w g y hb;simp only [asAddr,Sem.run_pure,hl,Result.andThen]
theorem blk9 {w:World} {g:Nat} {x:NP} (hb:Blk w g 45 x.cs) (a0 a1 a2 a3 a4 a5 a6 a7 a8:Value) :
 Blk (((((((((w.setCell ⟨g,0,none⟩ a0).setCell ⟨g,1,none⟩ a1).setCell ⟨g,2,none⟩ a2).setCell ⟨g,3,none⟩ a3).setCell ⟨g,4,none⟩ a4).setCell ⟨g,5,none⟩ a5).setCell ⟨g,6,none⟩ a6).setCell ⟨g,7,none⟩ a7).setCell ⟨g,8,none⟩ a8) g 45 #[a0,a1,a2,a3,a4,a5,a6,a7,a8]:=
 (((((((((hb.set 0 a0 (by show 0 < 9;decide)).set 1 a1 (by show 1 < 9;decide)).set 2 a2 (by show 2 < 9;decide)).set 3 a3 (by show 3 < 9;decide)).set 4 a4 (by show 4 < 9;decide)).set 5 a5 (by show 5 < 9;decide)).set 6 a6 (by show 6 < 9;decide)).set 7 a7 (by show 7 < 9;decide)).set 8 a8 (by show 8 < 9;decide))
theorem below9 {w w':World} {g:Nat} (hk:Below w.heap.size w w') (hg:w.heap.size≤g) (a0 a1 a2 a3 a4 a5 a6 a7 a8:Value) :
 Below w.heap.size w (((((((((w'.setCell ⟨g,0,none⟩ a0).setCell ⟨g,1,none⟩ a1).setCell ⟨g,2,none⟩ a2).setCell ⟨g,3,none⟩ a3).setCell ⟨g,4,none⟩ a4).setCell ⟨g,5,none⟩ a5).setCell ⟨g,6,none⟩ a6).setCell ⟨g,7,none⟩ a7).setCell ⟨g,8,none⟩ a8):=
 (((((((((hk.setCell (p:=⟨g,0,none⟩) hg a0).setCell (p:=⟨g,1,none⟩) hg a1).setCell (p:=⟨g,2,none⟩) hg a2).setCell (p:=⟨g,3,none⟩) hg a3).setCell (p:=⟨g,4,none⟩) hg a4).setCell (p:=⟨g,5,none⟩) hg a5).setCell (p:=⟨g,6,none⟩) hg a6).setCell (p:=⟨g,7,none⟩) hg a7).setCell (p:=⟨g,8,none⟩) hg a8)
structure Res9 (w wi:World) (g:Nat) (y:NP):Prop where
 bel:Below w.heap.size w wi
 blk:Blk wi g 45 y.cs
 new:w.heap.size≤g
theorem Res9.below {w wi wj:World} {g:Nat} {y:NP} (h:Res9 w wi g y) (hb:Below wi.heap.size wi wj):Res9 w wj g y:=
 ⟨h.bel.trans (hb.mono h.bel.size),h.blk.below hb h.blk.lt,h.new⟩
theorem findN_none {t:List NodeV} {b:List UInt8} (h:∀ x ∈ t,x.path≠b):findN t b=none:=by
 unfold findN;rw [List.find?_eq_none];intro x hx
 simpa using h x hx
theorem findN_some {t:List NodeV} {b:List UInt8} {k:Nat} (hk:k < t.length) (h:(t.getD k zeroN).path=b) (h0:∀ x ∈ t.take k,x.path≠b):findN t b=some (t.getD k zeroN):=by
 unfold findN;rw [List.getD,List.getElem?_eq_getElem hk] at h ⊢
 have e:t=t.take k++t[k] :: t.drop (k+1):=by
  rw [← List.drop_eq_getElem_cons hk,List.take_append_drop]
 conv => lhs;rw [e,List.find?_append]
 have e1:(t.take k).find? (fun x => x.path == b)=none:=by
  rw [List.find?_eq_none];intro x hx
  simpa using h0 x hx
 rw [e1];simp only [Option.none_or];rw [List.find?_cons_of_pos (by simpa using h)]
 simp
def resN (r:Option NodeV):NodeV:=r.getD zeroN
def RFindPost (w:World) (xs:List NP) (b:List UInt8) (e:Ending) (w':World):Prop:=
 ∃ y:NP,e=.returned (.tuple #[.agg y.cs,.bool (findN (xs.map NP.m) b).isSome])∧y.m=resN (findN (xs.map NP.m) b)∧(y=zeroQ ∨ y ∈ xs)∧Below w.heap.size w w'
theorem zeroQ_cs:zeroQ.cs=#[.string ⟨#[]⟩,.string ⟨#[]⟩,.string ⟨#[]⟩,.int .u8 0,.int .i64 0,.int .i64 0,.int .i64 0,.int .i64 0,.slice none 0 0]:=rfl
theorem zero_bod (w:World):BodAt w zeroQ:=⟨BAt.none_ w none,Nat.le_refl _,by decide⟩
theorem of_bod {w:World} {p:Option Addr} {n:Nat} {xs:List NP} (h:NodesAt w p n xs) {y:NP} (hy:y=zeroQ ∨ y ∈ xs):BodAt w y:=by
 rcases hy with rfl | hy
 ·exact zero_bod w
 ·exact h.2.1 y hy
theorem takeQ_succ (xs:List NP) (k:Nat) (h:k < xs.length):xs.take (k+1)=xs.take k++[xs.getD k zeroQ]:=by
 rw [List.take_succ_eq_append_getElem h,List.getD,List.getElem?_eq_getElem h];rfl
set_option maxHeartbeats 4000000 in
theorem rfind_any (p:Option Addr) (n c:Nat) (xs:List NP) (b:List UInt8) (w:World) (h:NodesAt w p n xs) (hn:n≤maxLen) :
 Calls Tryd.prog 20 #[.slice p n c,.string (str b)] w (RFindPost w xs b):=by
 unfold maxLen at hn;have HM:=Lib.hid h;have HL:=Lib.hid h.1;have HB0:Hid (Below w.heap.size w (w.alloc (.cells zeroQ.cs 45))):=Lib.hid ((Below.refl _ _).alloc (Nat.le_refl _) _);have HG0:Hid (Blk (w.alloc (.cells zeroQ.cs 45)) w.heap.size 45 zeroQ.cs):=Lib.hid (Blk.new w _ _);clear h
 go_enter Tryd.func20,Tryd.ntmps20
 obtain ⟨W,hW⟩:∃ W,w.alloc (.cells zeroQ.cs 45)=W:=⟨_,rfl⟩;rw [hW] at HB0 HG0;rw [zeroQ_cs] at hW;have HR0:Hid (Res9 w W w.heap.size zeroQ):=Lib.hid ⟨HB0.out,HG0.out,Nat.le_refl _⟩;have HMW:=Lib.hid (HM.out.below HB0.out);clear HB0 HG0
 go_upto_region 1 with fail
 clear hW
 go_wp2_with fail
 go_loop [6] (fun i => ∃ (k:Nat),k≤n∧i=.int .i64 (k:Int)∧Hid (∀ x ∈ (xs.map NP.m).take k,x.path≠b)) (fun i => n - (RowKit.intOf i).toNat)
 case atStart => exact ⟨0,Nat.zero_le _,rfl,Lib.hid (by simp)⟩
 case round =>
  obtain ⟨k,hk,rfl,hN⟩:=hrel
  by_cases hlt:k < n
  ·obtain ⟨b1,o1,rfl,hb1,hB1,hc1⟩:=HMW.out.cells9 hlt
   obtain ⟨u,hu⟩:∃ u,xs.getD k zeroQ=u:=⟨_,rfl⟩;rw [hu] at hB1 hc1;have HU:=Lib.hid hu;have HA:Hid (u ∈ xs):=Lib.hid (by rw [← hu];exact getN_mem xs k (by rw [HL.out];exact hlt))
   obtain ⟨c0,c1,c2,c3,c4,c5,c6,c7,c8⟩:=hc1;have hltz:(k:Int) < (n:Int):=by omega
   have e1:((str u.m.path).toList == (str b).toList)=decide (u.m.path=b):=by
    rw [str_toList,str_toList]
    by_cases h:u.m.path=b<;>simp [h]
   clear hB1 hu hb1
   by_cases he:u.m.path=b
   ·rw [decide_eq_true he] at e1
    have E:Hid (findN (xs.map NP.m) b=some u.m):=Lib.hid (by
     have:=findN_some (t:=xs.map NP.m) (b:=b) (k:=k) (by rw [List.length_map,HL.out];exact hlt) (by rw [getN_map,HU.out];exact he) hN.out
     rw [this,getN_map,HU.out])
    obtain ⟨r0,r1,r2,r3,r4,r5,r6,r7,r8⟩:=cells9_of HR0.out.blk;have f0:=HR0.out.blk.frozen 0;have f1:=HR0.out.blk.frozen 1;have f2:=HR0.out.blk.frozen 2;have f3:=HR0.out.blk.frozen 3;have f4:=HR0.out.blk.frozen 4;have f5:=HR0.out.blk.frozen 5;have f6:=HR0.out.blk.frozen 6;have f7:=HR0.out.blk.frozen 7;have f8:=HR0.out.blk.frozen 8;simp only [Nat.zero_add] at r0 r1 r2 r3 r4 r5 r6 r7 r8;clear he
    go_wp2
    refine bodyPost_ret (ret_nodB rfl _ _ w.heap.size _ rfl rfl u (blk9 HR0.out.blk _ _ _ _ _ _ _ _ _)) rfl ?_
    exact ⟨u,by rw [E.out];rfl,by rw [E.out];rfl,Or.inr HA.out,below9 HR0.out.bel (Nat.le_refl _) _ _ _ _ _ _ _ _ _⟩
   ·rw [decide_eq_false he] at e1
    have HN:Hid (∀ x ∈ (xs.map NP.m).take (k+1),x.path≠b):=Lib.hid (by
     intro x hx;have hl:k < xs.length:=by rw [HL.out];exact hlt
     rw [← List.map_take,takeQ_succ xs k hl,List.map_append,List.mem_append,HU.out,List.map_take] at hx;rcases hx with hx | hx
     ·exact hN.out x hx
     ·rw [List.mem_singleton.1 hx];exact he)
    clear he
    go_wp2
    go_round
    case rel => exact ⟨k+1,by omega,by go_num,HN⟩
    case measure => simp [RowKit.intOf];omega
  ·have hks:¬ ((k:Int) < (n:Int)):=by omega
   have E:Hid (findN (xs.map NP.m) b=none):=Lib.hid (findN_none (fun x hx => hN.out x (by rw [List.take_of_length_le (by rw [List.length_map,HL.out];omega)];exact hx)))
   obtain ⟨r0,r1,r2,r3,r4,r5,r6,r7,r8⟩:=cells9_of HR0.out.blk;have f0:=HR0.out.blk.frozen 0;have f1:=HR0.out.blk.frozen 1;have f2:=HR0.out.blk.frozen 2;have f3:=HR0.out.blk.frozen 3;have f4:=HR0.out.blk.frozen 4;have f5:=HR0.out.blk.frozen 5;have f6:=HR0.out.blk.frozen 6;have f7:=HR0.out.blk.frozen 7;have f8:=HR0.out.blk.frozen 8;simp only [Nat.zero_add] at r0 r1 r2 r3 r4 r5 r6 r7 r8
   go_wp2
   refine bodyPost_ret (ret_nodB rfl _ _ w.heap.size _ rfl rfl zeroQ (blk9 HR0.out.blk _ _ _ _ _ _ _ _ _)) rfl ?_
   exact ⟨zeroQ,by rw [E.out];rfl,by rw [E.out];rfl,Or.inl rfl,below9 HR0.out.bel (Nat.le_refl _) _ _ _ _ _ _ _ _ _⟩
end Go.Proofs.YtfhelebejclalaaDoor.Tre
end
section
namespace Go.Proofs.YtfhelebejclalaaDoor.Tre
open Go.ChangeShapes Go.WideShapes Go.ChangeAt Go.RowKit Base Byt Txt Bk Mem Go.Lib
set_option linter.unusedVariables false
set_option maxRecDepth 100000
theorem kind_ne (k:UInt8) (n:UInt8) (z:Int) (hz:(n.toNat:Int)=z):(((k.toNat:Int)) == z)=decide (k=n):=by
 subst hz
 by_cases h:k=n
 ·simp [h]
 ·have:¬ k.toNat=n.toNat:=fun hh => h (UInt8.toNat.inj hh)
  simp only [h,decide_false,beq_eq_false_iff_ne,ne_eq];omega
theorem kind_nq (k:UInt8) (n:UInt8) (z:Int) (hz:(n.toNat:Int)=z):(((k.toNat:Int)) != z)=!decide (k=n):=by
 rw [← kind_ne k n z hz];rfl
theorem seek_found {t:List NodeV} {b:List UInt8} {k:Nat} (hs:Rising t) (hk:k < t.length) (h:(t.getD k zeroN).path=b):findN t b=some (t.getD k zeroN):=
 findN_some hk h (fun x hx e => by
  obtain ⟨i,hi,rfl⟩:=List.mem_iff_getElem.1 hx;rw [List.length_take] at hi;have:=rising_get hs (show i < k by omega) hk
  rw [List.getD,List.getElem?_eq_getElem (show i < t.length by omega)] at this
  rw [List.getElem_take] at e;simp only [Option.getD_some,e,h] at this;rw [ltB_irrefl] at this
  cases this)
theorem str_eqD (a b:List UInt8):((str a).toList == (str b).toList)=decide (a=b):=by
 rw [str_toList,str_toList]
 by_cases h:a=b<;>simp [h]
end Go.Proofs.YtfhelebejclalaaDoor.Tre
end
section
namespace Go.Proofs.YtfhelebejclalaaDoor.Tre
open Go.ChangeShapes Go.WideShapes Go.ChangeAt Go.RowKit Base Byt Txt Bk Mem Go.Lib
set_option linter.unusedVariables false
set_option maxRecDepth 100000
attribute [local irreducible] wpQuiet
theorem rising_take {t:List NodeV} {k:Nat} (hk:k < t.length) (h:Rising (t.take k)) (hlt:k=0 ∨ ltB (t.getD (k - 1) zeroN).path (t.getD k zeroN).path=true):Rising (t.take (k+1)):=by
 rw [List.take_succ_eq_append_getElem hk];refine List.pairwise_append.2 ⟨h,List.pairwise_singleton _ _,fun x hx y hy => ?_⟩
 rw [List.mem_singleton.1 hy];rcases hlt with rfl | hlt
 ·simp at hx
 ·obtain ⟨i,hi,rfl⟩:=getN_of_mem hx
  rw [List.length_take] at hi
  have e:(t.take k).getD i zeroN=t.getD i zeroN:=by
   rw [List.getD,List.getD,List.getElem?_take,if_pos (by omega)]
  have e2:t.getD k zeroN=t[k]:=by rw [List.getD,List.getElem?_eq_getElem hk];rfl
  rw [e,← e2];rcases Nat.lt_or_eq_of_le (show i≤k - 1 by omega) with h1 | h1
  ·have:=rising_get h (i:=i) (j:=k - 1) h1 (by rw [List.length_take];omega)
   rw [e] at this
   have e3:(t.take k).getD (k - 1) zeroN=t.getD (k - 1) zeroN:=by
    rw [List.getD,List.getD,List.getElem?_take,if_pos (by omega)]
   rw [e3] at this;exact ltB_trans _ _ _ this hlt
  ·rw [h1];exact hlt
theorem goodT_false {t:List NodeV} {k:Nat} (hk:k < t.length) (h:goodAt t k=false):goodT t=false:=by
 rw [Bool.eq_false_iff];intro hg;simp only [goodT,Bool.and_eq_true,List.all_eq_true,List.mem_range] at hg;have:=hg.2 k hk;rw [h] at this
 cases this
theorem goodT_true {t:List NodeV} (hn:t.length≤4096) (h:∀ k,k < t.length → goodAt t k=true):goodT t=true:=by
 simp only [goodT,Bool.and_eq_true,List.all_eq_true,List.mem_range,decide_eq_true_eq];exact ⟨hn,h⟩
def stepT (t:List NodeV) (i:Nat):Bool:=isNodeD (t.getD i zeroN) && (decide (i=0) || ltB (t.getD (i - 1) zeroN).path (t.getD i zeroN).path)
theorem goodAt_is (t:List NodeV) (i:Nat):goodAt t i=(stepT t i && ledD (t.take (i+1)) (t.getD i zeroN)):=rfl
def Since9 (w:World) (b o:Nat) (y:NP):Prop:=∀ p:Since w,Cells9 p.w' b o y
theorem since9 {w:World} {b o:Nat} {y:NP} (h:Cells9 w b o y) (hb:b < w.heap.size):Since9 w b o y:=fun p => h.below hb p.bel
end Go.Proofs.YtfhelebejclalaaDoor.Tre
end
