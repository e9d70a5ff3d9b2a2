/- Texts of this seat, merged: what the proof reaches. -/
import Derived.Test.YthaoohbdjlbaeaaDoorTreeLastX19
import Derived.Deep.RegionHeld3
import Derived.Deep.RegionHeldLaw
import Derived.Deep.Draws
import Derived.Laws.ResultCell
import Derived.Test.YthaoohbdjlbaeaaDoorTreeLastX17
import Derived.Test.YthaoohbdjlbaeaaDoorTreeLastX6
namespace Go.Proofs.YthaoohbdjlbaeaaDoor
namespace Base
end Base
namespace Bk
end Bk
namespace Byt
end Byt
namespace Mem
end Mem
namespace Txt
end Txt
end Go.Proofs.YthaoohbdjlbaeaaDoor
section
namespace Go.Proofs.YthaoohbdjlbaeaaDoor.Tre
open Go.ChangeShapes Go.WideShapes Go.ChangeAt Go.RowKit Base Byt Txt Bk Mem Go.Lib
set_option linter.unusedVariables false
set_option maxRecDepth 100000
theorem load_node (w:World) (g:Nat) (y:NP) (h:Blk w g 38 y.cs):(loadVar 38 ⟨g,0,none⟩).run Tryd.prog w=.ok (.agg y.cs) w:=by
 obtain ⟨c0,c1,c2,c3,c4,c5,c6,c7,c8⟩:=cells9_of h;simp only [Nat.zero_add] at c0 c1 c2 c3 c4 c5 c6 c7 c8;unfold NP.cs nodC;clear h
 go_simp
theorem ret_nodB {fn:Func} (hf:fn.results=#[.cell 4 38,.tmp 5]) (tmps:Array Value) (w:World) (g:Nat) (v:Value) (ht:tmps.getD 4 undef=.pointer (some ⟨g,0,none⟩)) (hv:tmps.getD 5 undef=v)
 (y:NP) (hb:Blk w g 38 y.cs):(results fn tmps).run Tryd.prog w=.ok (.tuple #[.agg y.cs,v]) w:=by
 rw [results_cell_tmp hf,ht,hv];have hl:=load_node w g y hb;simp only [asAddr,Sem.run_pure,hl,Result.andThen]
theorem blk9 {w:World} {g:Nat} {x:NP} (hb:Blk w g 38 x.cs) (a0 a1 a2 a3 a4 a5 a6 a7 a8:Value) :
 Blk (((((((((w.setCell ⟨g,0,none⟩ a0).setCell ⟨g,1,none⟩ a1).setCell ⟨g,2,none⟩ a2).setCell ⟨g,3,none⟩ a3).setCell ⟨g,4,none⟩ a4).setCell ⟨g,5,none⟩ a5).setCell ⟨g,6,none⟩ a6).setCell ⟨g,7,none⟩ a7).setCell ⟨g,8,none⟩ a8) g 38 #[a0,a1,a2,a3,a4,a5,a6,a7,a8]:=
 (((((((((hb.set 0 a0 (by show 0 < 9;decide)).set 1 a1 (by show 1 < 9;decide)).set 2 a2 (by show 2 < 9;decide)).set 3 a3 (by show 3 < 9;decide)).set 4 a4 (by show 4 < 9;decide)).set 5 a5 (by show 5 < 9;decide)).set 6 a6 (by show 6 < 9;decide)).set 7 a7 (by show 7 < 9;decide)).set 8 a8 (by show 8 < 9;decide))
theorem below9 {w w':World} {g:Nat} (hk:Below w.heap.size w w') (hg:w.heap.size≤g) (a0 a1 a2 a3 a4 a5 a6 a7 a8:Value) :
 Below w.heap.size w (((((((((w'.setCell ⟨g,0,none⟩ a0).setCell ⟨g,1,none⟩ a1).setCell ⟨g,2,none⟩ a2).setCell ⟨g,3,none⟩ a3).setCell ⟨g,4,none⟩ a4).setCell ⟨g,5,none⟩ a5).setCell ⟨g,6,none⟩ a6).setCell ⟨g,7,none⟩ a7).setCell ⟨g,8,none⟩ a8):=
 (((((((((hk.setCell (p:=⟨g,0,none⟩) hg a0).setCell (p:=⟨g,1,none⟩) hg a1).setCell (p:=⟨g,2,none⟩) hg a2).setCell (p:=⟨g,3,none⟩) hg a3).setCell (p:=⟨g,4,none⟩) hg a4).setCell (p:=⟨g,5,none⟩) hg a5).setCell (p:=⟨g,6,none⟩) hg a6).setCell (p:=⟨g,7,none⟩) hg a7).setCell (p:=⟨g,8,none⟩) hg a8)
structure Res9 (w wi:World) (g:Nat) (y:NP):Prop where
 bel:Below w.heap.size w wi
 blk:Blk wi g 38 y.cs
 new:w.heap.size≤g
theorem Res9.below {w wi wj:World} {g:Nat} {y:NP} (h:Res9 w wi g y) (hb:Below wi.heap.size wi wj):Res9 w wj g y:=
 ⟨h.bel.trans (hb.mono h.bel.size),h.blk.below hb h.blk.lt,h.new⟩
theorem findN_none {t:List NodeV} {b:List UInt8} (h:∀ x ∈ t,x.path≠b):findN t b=none:=by
 unfold findN;rw [List.find?_eq_none];intro x hx
 simpa using h x hx
theorem findN_some {t:List NodeV} {b:List UInt8} {k:Nat} (hk:k < t.length) (h:(t.getD k zeroN).path=b) (h0:∀ x ∈ t.take k,x.path≠b):findN t b=some (t.getD k zeroN):=by
 unfold findN;rw [List.getD,List.getElem?_eq_getElem hk] at h ⊢
 have e:t=t.take k++t[k] :: t.drop (k+1):=by
  rw [← List.drop_eq_getElem_cons hk,List.take_append_drop]
 conv => lhs;rw [e,List.find?_append]
 have e1:(t.take k).find? (fun x => x.path == b)=none:=by
  rw [List.find?_eq_none];intro x hx
  simpa using h0 x hx
 rw [e1];simp only [Option.none_or];rw [List.find?_cons_of_pos (by simpa using h)]
 simp
def resN (r:Option NodeV):NodeV:=r.getD zeroN
def RFindPost (w:World) (xs:List NP) (b:List UInt8) (e:Ending) (w':World):Prop:=
 ∃ y:NP,e=.returned (.tuple #[.agg y.cs,.bool (findN (xs.map NP.m) b).isSome])∧y.m=resN (findN (xs.map NP.m) b)∧(y=zeroQ ∨ y ∈ xs)∧Below w.heap.size w w'
theorem zeroQ_cs:zeroQ.cs=#[.string ⟨#[]⟩,.string ⟨#[]⟩,.string ⟨#[]⟩,.int .u8 0,.int .i64 0,.int .i64 0,.int .i64 0,.int .i64 0,.slice none 0 0]:=rfl
theorem zero_bod (w:World):BodAt w zeroQ:=⟨BAt.none_ w none,Nat.le_refl _,by decide⟩
theorem of_bod {w:World} {p:Option Addr} {n:Nat} {xs:List NP} (h:NodesAt w p n xs) {y:NP} (hy:y=zeroQ ∨ y ∈ xs):BodAt w y:=by
 rcases hy with rfl | hy
 ·exact zero_bod w
 ·exact h.2.1 y hy
theorem takeQ_succ (xs:List NP) (k:Nat) (h:k < xs.length):xs.take (k+1)=xs.take k++[xs.getD k zeroQ]:=by
 rw [List.take_succ_eq_append_getElem h,List.getD,List.getElem?_eq_getElem h];rfl
set_option maxHeartbeats 4000000 in
theorem rfind_any (p:Option Addr) (n c:Nat) (xs:List NP) (b:List UInt8) (w:World) (h:NodesAt w p n xs) (hn:n≤maxLen) :
 Calls Tryd.prog 18 #[.slice p n c,.string (str b)] w (RFindPost w xs b):=by
 unfold maxLen at hn;have HM:=Lib.hid h;have HL:=Lib.hid h.1;have HB0:Hid (Below w.heap.size w (w.alloc (.cells zeroQ.cs 38))):=Lib.hid ((Below.refl _ _).alloc (Nat.le_refl _) _);have HG0:Hid (Blk (w.alloc (.cells zeroQ.cs 38)) w.heap.size 38 zeroQ.cs):=Lib.hid (Blk.new w _ _);clear h
 go_enter Tryd.func18,Tryd.ntmps18
 obtain ⟨W,hW⟩:∃ W,w.alloc (.cells zeroQ.cs 38)=W:=⟨_,rfl⟩;rw [hW] at HB0 HG0;rw [zeroQ_cs] at hW;have HR0:Hid (Res9 w W w.heap.size zeroQ):=Lib.hid ⟨HB0.out,HG0.out,Nat.le_refl _⟩;have HMW:=Lib.hid (HM.out.below HB0.out);clear HB0 HG0
 go_upto_region 1 with fail
 clear hW
 go_wp2_with fail
 go_loop [6] (fun i => ∃ (k:Nat),k≤n∧i=.int .i64 (k:Int)∧Hid (∀ x ∈ (xs.map NP.m).take k,x.path≠b)) (fun i => n - (RowKit.intOf i).toNat)
 case atStart => exact ⟨0,Nat.zero_le _,rfl,Lib.hid (by simp)⟩
 case round =>
  obtain ⟨k,hk,rfl,hN⟩:=hrel
  by_cases hlt:k < n
  ·obtain ⟨b1,o1,rfl,hb1,hB1,hc1⟩:=HMW.out.cells9 hlt
   obtain ⟨u,hu⟩:∃ u,xs.getD k zeroQ=u:=⟨_,rfl⟩;rw [hu] at hB1 hc1;have HU:=Lib.hid hu;have HA:Hid (u ∈ xs):=Lib.hid (by rw [← hu];exact getN_mem xs k (by rw [HL.out];exact hlt))
   obtain ⟨c0,c1,c2,c3,c4,c5,c6,c7,c8⟩:=hc1;have hltz:(k:Int) < (n:Int):=by omega
   have e1:((str u.m.path).toList == (str b).toList)=decide (u.m.path=b):=by
    rw [str_toList,str_toList]
    by_cases h:u.m.path=b<;>simp [h]
   clear hB1 hu hb1
   by_cases he:u.m.path=b
   ·rw [decide_eq_true he] at e1
    have E:Hid (findN (xs.map NP.m) b=some u.m):=Lib.hid (by
     have:=findN_some (t:=xs.map NP.m) (b:=b) (k:=k) (by rw [List.length_map,HL.out];exact hlt) (by rw [getN_map,HU.out];exact he) hN.out
     rw [this,getN_map,HU.out])
    obtain ⟨r0,r1,r2,r3,r4,r5,r6,r7,r8⟩:=cells9_of HR0.out.blk;have f0:=HR0.out.blk.frozen 0;have f1:=HR0.out.blk.frozen 1;have f2:=HR0.out.blk.frozen 2;have f3:=HR0.out.blk.frozen 3;have f4:=HR0.out.blk.frozen 4;have f5:=HR0.out.blk.frozen 5;have f6:=HR0.out.blk.frozen 6;have f7:=HR0.out.blk.frozen 7;have f8:=HR0.out.blk.frozen 8;simp only [Nat.zero_add] at r0 r1 r2 r3 r4 r5 r6 r7 r8;clear he
    go_wp2
    refine bodyPost_ret (ret_nodB rfl _ _ w.heap.size _ rfl rfl u (blk9 HR0.out.blk _ _ _ _ _ _ _ _ _)) rfl ?_
    exact ⟨u,by rw [E.out];rfl,by rw [E.out];rfl,Or.inr HA.out,below9 HR0.out.bel (Nat.le_refl _) _ _ _ _ _ _ _ _ _⟩
   ·rw [decide_eq_false he] at e1
    have HN:Hid (∀ x ∈ (xs.map NP.m).take (k+1),x.path≠b):=Lib.hid (by
     intro x hx;have hl:k < xs.length:=by rw [HL.out];exact hlt
     rw [← List.map_take,takeQ_succ xs k hl,List.map_append,List.mem_append,HU.out,List.map_take] at hx;rcases hx with hx | hx
     ·exact hN.out x hx
     ·rw [List.mem_singleton.1 hx];exact he)
    clear he
    go_wp2
    go_round
    case rel => exact ⟨k+1,by omega,by go_num,HN⟩
    case measure => simp [RowKit.intOf];omega
  ·have hks:¬ ((k:Int) < (n:Int)):=by omega
   have E:Hid (findN (xs.map NP.m) b=none):=Lib.hid (findN_none (fun x hx => hN.out x (by rw [List.take_of_length_le (by rw [List.length_map,HL.out];omega)];exact hx)))
   obtain ⟨r0,r1,r2,r3,r4,r5,r6,r7,r8⟩:=cells9_of HR0.out.blk;have f0:=HR0.out.blk.frozen 0;have f1:=HR0.out.blk.frozen 1;have f2:=HR0.out.blk.frozen 2;have f3:=HR0.out.blk.frozen 3;have f4:=HR0.out.blk.frozen 4;have f5:=HR0.out.blk.frozen 5;have f6:=HR0.out.blk.frozen 6;have f7:=HR0.out.blk.frozen 7;have f8:=HR0.out.blk.frozen 8;simp only [Nat.zero_add] at r0 r1 r2 r3 r4 r5 r6 r7 r8
   go_wp2
   refine bodyPost_ret (ret_nodB rfl _ _ w.heap.size _ rfl rfl zeroQ (blk9 HR0.out.blk _ _ _ _ _ _ _ _ _)) rfl ?_
   exact ⟨zeroQ,by rw [E.out];rfl,by rw [E.out];rfl,Or.inl rfl,below9 HR0.out.bel (Nat.le_refl _) _ _ _ _ _ _ _ _ _⟩
end Go.Proofs.YthaoohbdjlbaeaaDoor.Tre
end
section
namespace Go.Proofs.YthaoohbdjlbaeaaDoor.Tre
open Go.ChangeShapes Go.WideShapes Go.ChangeAt Go.RowKit Base Byt Txt Bk Mem Go.Lib
set_option linter.unusedVariables false
set_option maxRecDepth 100000
def FitN (x:NP):Prop:=x.m.path.length≤1000000000000∧x.m.target.length≤1000000000000
theorem kind_ne (k:UInt8) (n:UInt8) (z:Int) (hz:(n.toNat:Int)=z):(((k.toNat:Int)) == z)=decide (k=n):=by
 subst hz
 by_cases h:k=n
 ·simp [h]
 ·have:¬ k.toNat=n.toNat:=fun hh => h (UInt8.toNat.inj hh)
  simp only [h,decide_false,beq_eq_false_iff_ne,ne_eq];omega
theorem kind_nq (k:UInt8) (n:UInt8) (z:Int) (hz:(n.toNat:Int)=z):(((k.toNat:Int)) != z)=!decide (k=n):=by
 rw [← kind_ne k n z hz];rfl
set_option maxHeartbeats 4000000 in
theorem isNode_any (x:NP) (w:World) (hF:FitN x) (hT:Path.Tabs w) :
 Calls Tryd.prog 32 #[.agg x.cs] w fun e w' => e=.returned (.bool (isNodeD x.m))∧Below w.heap.size w w':=by
 obtain ⟨W,hW⟩:∃ W,w.alloc (.cells x.cs 38)=W:=⟨_,rfl⟩;have hB:Below w.heap.size w W:=by rw [← hW];exact (Below.refl _ _).alloc (Nat.le_refl _) _
 have hX:Blk W w.heap.size 38 x.cs:=by rw [← hW];exact Blk.new w _ _
 have hG:=memGood_any x.m.mem x.p x.c W hF.1 hF.2 (hT.below hB);have ek:=kind_nq x.m.kind 49 49 rfl;unfold isNodeD;obtain ⟨g,hg⟩:∃ g,goodD x.m.mem=g:=⟨_,rfl⟩;rw [hg] at hG ⊢;obtain ⟨k,hk⟩:∃ k:Int,(x.m.kind.toNat:Int)=k:=⟨_,rfl⟩;obtain ⟨c0,c1,c2,c3,c4,c5,c6,c7,c8⟩:=cells9_of hX;simp only [Nat.zero_add] at c0 c1 c2 c3 c4 c5 c6 c7 c8;unfold NP.cs nodC at hW ⊢;unfold memC NodeV.mem at hG;rw [hk] at hW hG c3 ek ⊢;have HG:=Lib.hid hG;have HB:=Lib.hid hB;clear hG hB hX hg hk hF hT
 go_enter Tryd.func32,Tryd.ntmps32
 by_cases h49:x.m.kind=49
 ·rw [decide_eq_true h49,Bool.not_true] at ek
  have hd:decide (x.m.kind≠49)=false:=by simp [h49]
  rw [hd];clear h49 hd
  go_upto_region 1 with fail
  go_wp2
  go_ret
  exact ⟨rfl,HB.out⟩
 ·rw [decide_eq_false h49,Bool.not_false] at ek
  have hd:decide (x.m.kind≠49)=true:=by simp [h49]
  rw [hd];clear h49 hd
  go_upto_region 1 with fail
  go_wp2_with fail
  refine HG.out.mono ?_
  rintro e w2 ⟨rfl,hb⟩;have F:=Lib.hid (HB.out.trans (hb.mono HB.out.size));clear hb
  go_wp2
  go_ret
  exact ⟨rfl,F.out⟩
theorem seek_found {t:List NodeV} {b:List UInt8} {k:Nat} (hs:Rising t) (hk:k < t.length) (h:(t.getD k zeroN).path=b):findN t b=some (t.getD k zeroN):=
 findN_some hk h (fun x hx e => by
  obtain ⟨i,hi,rfl⟩:=List.mem_iff_getElem.1 hx;rw [List.length_take] at hi;have:=rising_get hs (show i < k by omega) hk
  rw [List.getD,List.getElem?_eq_getElem (show i < t.length by omega)] at this
  rw [List.getElem_take] at e;simp only [Option.getD_some,e,h] at this;rw [ltB_irrefl] at this
  cases this)
theorem str_eqD (a b:List UInt8):((str a).toList == (str b).toList)=decide (a=b):=by
 rw [str_toList,str_toList]
 by_cases h:a=b<;>simp [h]
set_option maxHeartbeats 8000000 in
theorem isLed_any (x:NP) (p:Option Addr) (n c:Nat) (xs:List NP) (w:World) (hx:BodAt w x) (h:NodesAt w p n xs) (hn:n≤1000000000) (hs:Rising (xs.map NP.m)) :
 Calls Tryd.prog 34 #[.agg x.cs,.slice p n c] w fun e w' => e=.returned (.bool (ledD (xs.map NP.m) x.m))∧Below w.heap.size w w':=by
 obtain ⟨W,hW⟩:∃ W,w.alloc (.cells x.cs 38)=W:=⟨_,rfl⟩;have hB:Below w.heap.size w W:=by rw [← hW];exact (Below.refl _ _).alloc (Nat.le_refl _) _
 have hX:Blk W w.heap.size 38 x.cs:=by rw [← hW];exact Blk.new w _ _
 have HP:=Lib.hid (place_any p n c xs x.m.leader W (h.below hB) hn);have HMW:=Lib.hid (h.below hB);have HL:=Lib.hid h.1;have HXW:=Lib.hid (hx.below hB);have HS:=Lib.hid hs;obtain ⟨r,hr⟩:∃ r,ledD (xs.map NP.m) x.m=r:=⟨_,rfl⟩;rw [hr];have HR:=Lib.hid hr;have ek:=kind_nq x.m.kind 48 48 rfl;obtain ⟨k,hk⟩:∃ k:Int,(x.m.kind.toNat:Int)=k:=⟨_,rfl⟩;have HX:=Lib.hid hX;have HK:=Lib.hid hk;obtain ⟨c0,c1,c2,c3,c4,c5,c6,c7,c8⟩:=cells9_of hX;simp only [Nat.zero_add] at c0 c1 c2 c3 c4 c5 c6 c7 c8;unfold NP.cs nodC at hW ⊢;rw [hk] at hW c3 ek ⊢;have HB:=Lib.hid hB
 clear hB hX hk hx h hr hs
 go_enter Tryd.func34,Tryd.ntmps34
 by_cases h48:x.m.kind=48
 ·rw [decide_eq_true h48,Bool.not_true] at ek
  have E:Hid (r=ledO (findN (xs.map NP.m) x.m.leader) x.m):=Lib.hid (by
   rw [← HR.out];unfold ledD
   rw [if_pos h48])
  clear HR h48
  go_upto_region 1 with fail
  clear hW
  go_wp2_with fail
  refine HP.out.mono ?_
  rintro e w2 ⟨a,there,rfl,ha,hyes,hno,hb⟩;have HB2:=Lib.hid (HB.out.trans (hb.mono HB.out.size));have hX2:=HX.out.below hb HX.out.lt;have HX2:=Lib.hid hX2;have HM2:=Lib.hid (HMW.out.below hb);have HXB2:=Lib.hid (HXW.out.below hb);obtain ⟨d0,d1,d2,d3,d4,d5,d6,d7,d8⟩:=cells9_of hX2;simp only [Nat.zero_add] at d0 d1 d2 d3 d4 d5 d6 d7 d8;clear hb hX2 c0 c1 c2 c3 c4 c5 c6 c7 c8
  cases there with
  | false =>
    have E2:Hid (r=false):=Lib.hid (by rw [E.out,findN_none (hno HS.out rfl)];rfl)
    clear hyes hno ha d0 d1 d2 d3 d4 d5 d6 d7 d8
    go_wp2
    go_ret
    exact ⟨by rw [E2.out];rfl,HB2.out⟩
  | true =>
    obtain ⟨hal,hpa⟩:=hyes rfl;have han:a < n:=by rw [List.length_map,HL.out] at hal;exact hal
    have hf:=seek_found HS.out hal hpa;rw [getN_map] at hf;obtain ⟨b1,o1,rfl,hb1,hB1,hc1⟩:=HM2.out.cells9 han;obtain ⟨y,hy⟩:∃ y,xs.getD a zeroQ=y:=⟨_,rfl⟩;rw [hy] at hf hB1 hc1;have E3:Hid (r=(decide (y.m.kind=48) && (decide (y.m.leader=y.m.path) && (decide (y.m.mode=x.m.mode∧y.m.uid=x.m.uid∧y.m.gid=x.m.gid∧y.m.time=x.m.time) && decide (y.m.body=x.m.body))))):=Lib.hid (by rw [E.out,hf];rfl)
    obtain ⟨W3,hW3⟩:∃ W3,w2.alloc (.cells y.cs 38)=W3:=⟨_,rfl⟩;have hB3:Below w2.heap.size w2 W3:=by rw [← hW3];exact (Below.refl _ _).alloc (Nat.le_refl _) _
    have hY:Blk W3 w2.heap.size 38 y.cs:=by rw [← hW3];exact Blk.new w2 _ _
    have hX3:=HX2.out.below hB3 HX2.out.lt;have HB3:=Lib.hid (HB2.out.trans (hB3.mono HB2.out.size));have HXB3:=Lib.hid (HXB2.out.below hB3);have HYB3:=Lib.hid (hB1.below hB3);obtain ⟨y0,y1,y2,y3,y4,y5,y6,y7,y8⟩:=cells9_of hY;obtain ⟨x0,x1,x2,x3,x4,x5,x6,x7,x8⟩:=cells9_of hX3;obtain ⟨z0,z1,z2,z3,z4,z5,z6,z7,z8⟩:=hc1;have eyk:=kind_ne y.m.kind 48 48 rfl;obtain ⟨ky,hky⟩:∃ k:Int,(y.m.kind.toNat:Int)=k:=⟨_,rfl⟩;unfold NP.cs nodC at hW3;rw [hky] at hW3 eyk y3 z3;simp only [Nat.zero_add] at y0 y1 y2 y3 y4 y5 y6 y7 y8 x0 x1 x2 x3 x4 x5 x6 x7 x8;have e2:=str_eqD y.m.leader y.m.path
    have e4:=fun w => eqMeta y.m.mode y.m.uid y.m.gid y.m.time x.m.mode x.m.uid x.m.gid x.m.time w
    have HE:=Lib.hid (equal_any y.p x.p y.m.body.length y.c x.m.body.length x.c y.m.body x.m.body W3 rfl rfl HYB3.out.bat HXB3.out.bat);obtain ⟨q1,hq1⟩:∃ q,decide (y.m.kind=48)=q:=⟨_,rfl⟩;obtain ⟨q2,hq2⟩:∃ q,decide (y.m.leader=y.m.path)=q:=⟨_,rfl⟩;obtain ⟨q3,hq3⟩:∃ q,decide (y.m.mode=x.m.mode∧y.m.uid=x.m.uid∧y.m.gid=x.m.gid∧y.m.time=x.m.time)=q:=⟨_,rfl⟩;obtain ⟨q4,hq4⟩:∃ q,decide (y.m.body=x.m.body)=q:=⟨_,rfl⟩;rw [hq1] at eyk;rw [hq2] at e2;simp only [hq3] at e4;rw [hq4] at HE;rw [hq1,hq2,hq3,hq4] at E3;clear hq1 hq2 hq3 hq4 hyes hno ha hal hpa hf hy hb1 hB1 hB3 hY hX3 hky
    have hanz:(a:Int) < (n:Int):=by omega
    go_upto_region 7 with fail
    clear hW3 d0 d1 d2 d3 d4 d5 d6 d7 d8 z0 z1 z2 z3 z4 z5 z6 z7 z8
    cases q1 with
    | false =>
      go_wp2
      go_ret
      exact ⟨by rw [E3.out];rfl,HB3.out⟩
    | true =>
      cases q2 with
      | false =>
        go_wp2
        go_ret
        exact ⟨by rw [E3.out];rfl,HB3.out⟩
      | true =>
        cases q3 with
        | false =>
          go_wp2
          go_ret
          exact ⟨by rw [E3.out];rfl,HB3.out⟩
        | true =>
          go_wp2_with fail
          refine HE.out.mono ?_
          rintro e w4 ⟨rfl,rfl⟩
          go_wp2
          go_ret
          exact ⟨by rw [E3.out];rfl,HB3.out⟩
 ·rw [decide_eq_false h48,Bool.not_false] at ek
  have E:Hid (r=decide (x.m.leader=[])):=Lib.hid (by
   rw [← HR.out];unfold ledD
   rw [if_neg h48])
  have e2:=str_empty x.m.leader;clear HR h48
  go_upto_region 1 with fail
  go_wp2
  go_ret
  exact ⟨by rw [E.out,← e2];rfl,HB.out⟩
end Go.Proofs.YthaoohbdjlbaeaaDoor.Tre
end
section
namespace Go.Proofs.YthaoohbdjlbaeaaDoor.Tre
open Go.ChangeShapes Go.WideShapes Go.ChangeAt Go.RowKit Base Byt Txt Bk Mem Go.Lib
set_option linter.unusedVariables false
set_option maxRecDepth 100000
attribute [local irreducible] wpQuiet
theorem rising_take {t:List NodeV} {k:Nat} (hk:k < t.length) (h:Rising (t.take k)) (hlt:k=0 ∨ ltB (t.getD (k - 1) zeroN).path (t.getD k zeroN).path=true):Rising (t.take (k+1)):=by
 rw [List.take_succ_eq_append_getElem hk];refine List.pairwise_append.2 ⟨h,List.pairwise_singleton _ _,fun x hx y hy => ?_⟩
 rw [List.mem_singleton.1 hy];rcases hlt with rfl | hlt
 ·simp at hx
 ·obtain ⟨i,hi,rfl⟩:=getN_of_mem hx
  rw [List.length_take] at hi
  have e:(t.take k).getD i zeroN=t.getD i zeroN:=by
   rw [List.getD,List.getD,List.getElem?_take,if_pos (by omega)]
  have e2:t.getD k zeroN=t[k]:=by rw [List.getD,List.getElem?_eq_getElem hk];rfl
  rw [e,← e2];rcases Nat.lt_or_eq_of_le (show i≤k - 1 by omega) with h1 | h1
  ·have:=rising_get h (i:=i) (j:=k - 1) h1 (by rw [List.length_take];omega)
   rw [e] at this
   have e3:(t.take k).getD (k - 1) zeroN=t.getD (k - 1) zeroN:=by
    rw [List.getD,List.getD,List.getElem?_take,if_pos (by omega)]
   rw [e3] at this;exact ltB_trans _ _ _ this hlt
  ·rw [h1];exact hlt
theorem goodT_false {t:List NodeV} {k:Nat} (hk:k < t.length) (h:goodAt t k=false):goodT t=false:=by
 rw [Bool.eq_false_iff];intro hg;simp only [goodT,Bool.and_eq_true,List.all_eq_true,List.mem_range] at hg;have:=hg.2 k hk;rw [h] at this
 cases this
theorem goodT_true {t:List NodeV} (hn:t.length≤4096) (h:∀ k,k < t.length → goodAt t k=true):goodT t=true:=by
 simp only [goodT,Bool.and_eq_true,List.all_eq_true,List.mem_range,decide_eq_true_eq];exact ⟨hn,h⟩
def stepT (t:List NodeV) (i:Nat):Bool:=isNodeD (t.getD i zeroN) && (decide (i=0) || ltB (t.getD (i - 1) zeroN).path (t.getD i zeroN).path)
theorem goodAt_is (t:List NodeV) (i:Nat):goodAt t i=(stepT t i && ledD (t.take (i+1)) (t.getD i zeroN)):=rfl
def Since9 (w:World) (b o:Nat) (y:NP):Prop:=∀ p:Since w,Cells9 p.w' b o y
theorem since9 {w:World} {b o:Nat} {y:NP} (h:Cells9 w b o y) (hb:b < w.heap.size):Since9 w b o y:=fun p => h.below hb p.bel
set_option maxHeartbeats 8000000 in
theorem tgood_any (p:Option Addr) (n c:Nat) (xs:List NP) (w:World) (h:NodesAt w p n xs) (hc:n≤c) (hm:c≤maxLen) (hF:∀ x ∈ xs,FitN x) (hT:Path.Tabs w) :
 Calls Tryd.prog 14 #[.slice p n c] w fun e w' => e=.returned (.bool (goodT (xs.map NP.m)))∧Below w.heap.size w w':=by
 unfold maxLen at hm;have HM:=Lib.hid h;have HL:=Lib.hid h.1;have HF:=Lib.hid hF;have HT:=Lib.hid hT;obtain ⟨r,hr⟩:∃ r,goodT (xs.map NP.m)=r:=⟨_,rfl⟩;rw [hr];have HR:=Lib.hid hr;clear h hF hT hr
 go_enter Tryd.func14,Tryd.ntmps14
 by_cases hbig:n≤4096
 ·have hbz:¬ ((4096:Int) < (n:Int)):=by omega
  go_wp2_with fail
  go_loopw [3,4,10] (fun _ _ i wr => ∃ (k:Nat),k≤n∧i=.int .i64 (k:Int)∧Hid (Rising ((xs.map NP.m).take k))∧Hid (∀ j,j < k → goodAt (xs.map NP.m) j=true)∧Hid (Below w.heap.size w wr)) (fun _ _ i _ => n - (RowKit.intOf i).toNat)
  case atStart => exact ⟨0,Nat.zero_le _,rfl,Lib.hid List.Pairwise.nil,Lib.hid (fun j hj => absurd hj (by omega)),Lib.hid (Below.refl _ _)⟩
  case round =>
   obtain ⟨k,hk,rfl,hS,hG,hB⟩:=hrel
   by_cases hlt:k < n
   ·obtain ⟨b1,o1,rfl,hb1,hB1,hc1⟩:=(HM.out.below hB.out).cells9 hlt
    obtain ⟨u,hu⟩:∃ u,xs.getD k zeroQ=u:=⟨_,rfl⟩;rw [hu] at hB1 hc1;have HU:=Lib.hid hu;have hfu:FitN u:=HF.out u (by rw [← hu];exact getN_mem xs k (by rw [HL.out];exact hlt))
    obtain ⟨W,hW⟩:∃ W,wr.alloc (.cells u.cs 38)=W:=⟨_,rfl⟩;have hBW:Below wr.heap.size wr W:=by rw [← hW];exact (Below.refl _ _).alloc (Nat.le_refl _) _
    have hX:Blk W wr.heap.size 38 u.cs:=by rw [← hW];exact Blk.new wr _ _
    have HBW:=Lib.hid (hB.out.trans (hBW.mono hB.out.size));have HCI:Hid (∀ p:Since W,Calls Tryd.prog 32 #[.agg u.cs] p.w' fun e w' => e=.returned (.bool (isNodeD u.m))∧Below p.w'.heap.size p.w' w'):=Lib.hid (fun p => isNode_any u p.w' hfu ((HT.out.below HBW.out).below p.bel))
    have sX:Since9 W wr.heap.size 0 u:=since9 (cells9_of hX) hX.lt;have HX:=Lib.hid hX;have HB1:=Lib.hid (hB1.below hBW);have HMW:=Lib.hid (HM.out.below HBW.out);have HIN:Hid ((xs.map NP.m).getD k zeroN=u.m):=Lib.hid (by rw [getN_map,hu])
    unfold NP.cs nodC at hW HCI;unfold Since9 Cells9 at sX;simp only [Nat.zero_add] at sX;obtain ⟨c0,c1,c2,c3,c4,c5,c6,c7,c8⟩:=hc1;have hltz:(k:Int) < (n:Int):=by omega
    obtain ⟨q,hq⟩:∃ q,isNodeD u.m=q:=⟨_,rfl⟩;rw [hq] at HCI;have HQ:=Lib.hid hq;clear hu hB1 hBW hX hq hfu hb1
    go_upto_region 6 with fail
    clear hW c0 c1 c2 c3 c4 c5 c6 c7 c8
    cases q with
    | false =>
      have E:Hid (r=false):=Lib.hid (by
       rw [← HR.out];refine goodT_false (k:=k) (by rw [List.length_map,HL.out];exact hlt) ?_
       rw [goodAt_is,stepT,HIN.out,HQ.out]
       rfl)
      refine wp_region_since (by kernel_rfl) (by kernel_rfl) ?_
      repeat (quiet_step (first | (go_at_call 32;exact Calls.since_of (HCI.out _))))
      refine wpQuiet_nil ?_
      intro wq hw';have hwq:=since_bel hw';clear hw';have F:=Lib.hid (HBW.out.trans (hwq.mono HBW.out.size));clear hwq sX
      go_wp2
      go_ret
      exact ⟨by rw [E.out];rfl,F.out⟩
    | true =>
      by_cases hk0:k=0
      ·have HST:Hid (stepT (xs.map NP.m) k=true):=Lib.hid (by rw [stepT,HIN.out,HQ.out,decide_eq_true hk0];rfl)
       have hkz:decide ((0:Int) < (k:Int))=false:=decide_eq_false (by omega)
       have hkn:decide (0 < k)=false:=decide_eq_false (by omega)
       have HS1:Hid (Rising ((xs.map NP.m).take (k+1))):=Lib.hid (rising_take (by rw [List.length_map,HL.out];exact hlt) hS.out (.inl hk0))
       clear hk0;refine wp_region_since (by kernel_rfl) (by kernel_rfl) ?_
       repeat (quiet_step (first
        | (go_at_call 32;exact Calls.since_of (HCI.out _))))
       refine wpQuiet_nil ?_
       intro wq hw';have hwq:=since_bel hw';clear hw';have HG2:=Lib.hid (HBW.out.trans (hwq.mono HBW.out.size))
       have HL2:Hid (∀ p:Since wq,Calls Tryd.prog 34 #[.agg u.cs,.slice (some ⟨b1,o1,none⟩) (k+1) c] p.w' fun e w' => e=.returned (.bool (ledD ((xs.map NP.m).take (k+1)) u.m))∧Below p.w'.heap.size p.w' w'):=Lib.hid (fun p => by
        have hb:=hwq.trans (p.bel.mono hwq.size);have hm:=(HMW.out.below hb).drop (show k+1≤n by omega)
        have:=isLed_any u (some ⟨b1,o1,none⟩) (k+1) c (xs.take (k+1)) p.w' (HB1.out.below hb) hm (by omega) (by rw [List.map_take];exact HS1.out)
        rw [List.map_take] at this
        exact this)
       obtain ⟨q2,hq2⟩:∃ q,ledD ((xs.map NP.m).take (k+1)) u.m=q:=⟨_,rfl⟩;rw [hq2] at HL2;have HQ2:=Lib.hid hq2;have sX2:Since9 wq wr.heap.size 0 u:=since9 (cells9_of (HX.out.below hwq HX.out.lt)) (Nat.lt_of_lt_of_le HX.out.lt hwq.size);unfold NP.cs nodC at HL2;unfold Since9 Cells9 at sX2;simp only [Nat.zero_add] at sX2;have w1:IntKind.i64.wrap ((k:Int)+1)=(k:Int)+1:=by rw [IntKind.wrap_i64];omega
       have hkc:(k:Int)+1≤(c:Int):=by omega
       have hk0:(0:Int)≤(k:Int)+1:=by omega
       have hkt:((k:Int)+1).toNat=k+1:=by omega
       clear hwq sX hq2
       cases q2 with
       | false =>
         have E:Hid (r=false):=Lib.hid (by
          rw [← HR.out];refine goodT_false (k:=k) (by rw [List.length_map,HL.out];exact hlt) ?_
          rw [goodAt_is,HIN.out,HQ2.out,Bool.and_false])
         go_wp2_with fail
         refine wp_region_since (by kernel_rfl) (by kernel_rfl) ?_
         repeat (quiet_step (first
          | (go_at_call 34;exact Calls.since_of (HL2.out _))))
         refine wpQuiet_nil ?_
         intro wz hw';have hwz:=since_bel hw';clear hw';have F:=Lib.hid (HG2.out.trans (hwz.mono HG2.out.size));clear hwz sX2
         go_wp2
         go_ret
         exact ⟨by rw [E.out];rfl,F.out⟩
       | true =>
         have HG3:Hid (∀ j,j < k+1 → goodAt (xs.map NP.m) j=true):=Lib.hid (fun j hj => by
          rcases Nat.lt_succ_iff_lt_or_eq.1 hj with h | rfl
          ·exact hG.out j h
          ·rw [goodAt_is,HST.out,HIN.out,HQ2.out];rfl)
         go_wp2_with fail
         refine wp_region_since (by kernel_rfl) (by kernel_rfl) ?_
         repeat (quiet_step (first
          | (go_at_call 34;exact Calls.since_of (HL2.out _))))
         refine wpQuiet_nil ?_
         intro wz hw';have hwz:=since_bel hw';clear hw';have F:=Lib.hid (HG2.out.trans (hwz.mono HG2.out.size));clear hwz sX2
         go_wp2
         go_roundw
         case rel => exact ⟨k+1,by omega,by go_num,HS1,HG3,F⟩
         case measure => simp [RowKit.intOf];omega
      ·have hk1:k - 1 < n:=by omega
       obtain ⟨b2,o2,hp2,hb2,hB2,hc2⟩:=HMW.out.cells9 hk1;simp only [Option.some.injEq,Addr.mk.injEq,and_true] at hp2;obtain ⟨rfl,rfl⟩:=hp2;obtain ⟨v,hv⟩:∃ v,xs.getD (k - 1) zeroQ=v:=⟨_,rfl⟩;rw [hv] at hc2;have HIV:Hid ((xs.map NP.m).getD (k - 1) zeroN=v.m):=Lib.hid (by rw [getN_map,hv])
       have sV:Since9 W b1 (o1+(k - 1) * 9) v:=since9 hc2 hb2;unfold Since9 Cells9 at sV;have HLS:Hid (∀ p:Since W,Calls Tryd.prog 33 #[.string (str v.m.path),.string (str u.m.path)] p.w' fun e w' => e=.returned (.bool (ltB v.m.path u.m.path))∧p.w'=w'):=Lib.hid (fun p => Path.less_any v.m.path u.m.path p.w')
       obtain ⟨lt,hltv⟩:∃ x,ltB v.m.path u.m.path=x:=⟨_,rfl⟩;rw [hltv] at HLS;have HLT:=Lib.hid hltv;have hkz:(0:Int) < (k:Int):=by omega
       have hkn:0 < k:=by omega
       have hk1z:(1:Int)≤(k:Int):=by omega
       have wk:IntKind.i64.wrap ((k:Int) - 1)=(k:Int) - 1:=by rw [IntKind.wrap_i64];omega
       have wk0:(0:Int)≤(k:Int) - 1:=by omega
       have wk2:(k:Int) - 1 < (n:Int):=by omega
       have wk3:((k:Int) - 1).toNat=k - 1:=by omega
       clear hv hc2 hB2 hb2 hltv
       cases lt with
       | false =>
         have E:Hid (r=false):=Lib.hid (by
          rw [← HR.out];refine goodT_false (k:=k) (by rw [List.length_map,HL.out];exact hlt) ?_
          rw [goodAt_is,stepT,HIN.out,HIV.out,HLT.out,HQ.out,decide_eq_false hk0]
          rfl)
         refine wp_region_since (by kernel_rfl) (by kernel_rfl) ?_
         repeat (quiet_step (first
          | (go_at_call 32;exact Calls.since_of (HCI.out _))
          | (go_at_call 33;exact Calls.since_same (HLS.out _))))
         refine wpQuiet_nil ?_
         intro wq hw';have hwq:=since_bel hw';clear hw';have F:=Lib.hid (HBW.out.trans (hwq.mono HBW.out.size));clear hwq sX sV
         go_wp2
         go_ret
         exact ⟨by rw [E.out];rfl,F.out⟩
       | true =>
         have HST:Hid (stepT (xs.map NP.m) k=true):=Lib.hid (by rw [stepT,HIN.out,HIV.out,HLT.out,HQ.out,Bool.or_true];rfl)
         have HS1:Hid (Rising ((xs.map NP.m).take (k+1))):=Lib.hid (rising_take (by rw [List.length_map,HL.out];exact hlt) hS.out (.inr (by rw [HIN.out,HIV.out];exact HLT.out)))
         refine wp_region_since (by kernel_rfl) (by kernel_rfl) ?_
         repeat (quiet_step (first
          | (go_at_call 32;exact Calls.since_of (HCI.out _))
          | (go_at_call 33;exact Calls.since_same (HLS.out _))))
         refine wpQuiet_nil ?_
         intro wq hw';have hwq:=since_bel hw';clear hw';clear sV hk0;have HG2:=Lib.hid (HBW.out.trans (hwq.mono HBW.out.size))
         have HL2:Hid (∀ p:Since wq,Calls Tryd.prog 34 #[.agg u.cs,.slice (some ⟨b1,o1,none⟩) (k+1) c] p.w' fun e w' => e=.returned (.bool (ledD ((xs.map NP.m).take (k+1)) u.m))∧Below p.w'.heap.size p.w' w'):=Lib.hid (fun p => by
          have hb:=hwq.trans (p.bel.mono hwq.size);have hm:=(HMW.out.below hb).drop (show k+1≤n by omega)
          have:=isLed_any u (some ⟨b1,o1,none⟩) (k+1) c (xs.take (k+1)) p.w' (HB1.out.below hb) hm (by omega) (by rw [List.map_take];exact HS1.out)
          rw [List.map_take] at this
          exact this)
         obtain ⟨q2,hq2⟩:∃ q,ledD ((xs.map NP.m).take (k+1)) u.m=q:=⟨_,rfl⟩;rw [hq2] at HL2;have HQ2:=Lib.hid hq2;have sX2:Since9 wq wr.heap.size 0 u:=since9 (cells9_of (HX.out.below hwq HX.out.lt)) (Nat.lt_of_lt_of_le HX.out.lt hwq.size);unfold NP.cs nodC at HL2;unfold Since9 Cells9 at sX2;simp only [Nat.zero_add] at sX2;have w1:IntKind.i64.wrap ((k:Int)+1)=(k:Int)+1:=by rw [IntKind.wrap_i64];omega
         have hkc:(k:Int)+1≤(c:Int):=by omega
         have hk0:(0:Int)≤(k:Int)+1:=by omega
         have hkt:((k:Int)+1).toNat=k+1:=by omega
         clear hwq sX hq2
         cases q2 with
         | false =>
           have E:Hid (r=false):=Lib.hid (by
            rw [← HR.out];refine goodT_false (k:=k) (by rw [List.length_map,HL.out];exact hlt) ?_
            rw [goodAt_is,HIN.out,HQ2.out,Bool.and_false])
           go_wp2_with fail
           refine wp_region_since (by kernel_rfl) (by kernel_rfl) ?_
           repeat (quiet_step (first
            | (go_at_call 34;exact Calls.since_of (HL2.out _))))
           refine wpQuiet_nil ?_
           intro wz hw';have hwz:=since_bel hw';clear hw';have F:=Lib.hid (HG2.out.trans (hwz.mono HG2.out.size));clear hwz sX2
           go_wp2
           go_ret
           exact ⟨by rw [E.out];rfl,F.out⟩
         | true =>
           have HG3:Hid (∀ j,j < k+1 → goodAt (xs.map NP.m) j=true):=Lib.hid (fun j hj => by
            rcases Nat.lt_succ_iff_lt_or_eq.1 hj with h | rfl
            ·exact hG.out j h
            ·rw [goodAt_is,HST.out,HIN.out,HQ2.out];rfl)
           go_wp2_with fail
           refine wp_region_since (by kernel_rfl) (by kernel_rfl) ?_
           repeat (quiet_step (first
            | (go_at_call 34;exact Calls.since_of (HL2.out _))))
           refine wpQuiet_nil ?_
           intro wz hw';have hwz:=since_bel hw';clear hw';have F:=Lib.hid (HG2.out.trans (hwz.mono HG2.out.size));clear hwz sX2
           go_wp2
           go_roundw
           case rel => exact ⟨k+1,by omega,by go_num,HS1,HG3,F⟩
           case measure => simp [RowKit.intOf];omega
   ·have hks:¬ ((k:Int) < (n:Int)):=by omega
    have E:Hid (r=true):=Lib.hid (by
     rw [← HR.out]
     exact goodT_true (by rw [List.length_map,HL.out];exact hbig) (fun j hj => hG.out j (by rw [List.length_map,HL.out] at hj;omega)))
    go_wp2
    go_ret
    exact ⟨by rw [E.out];rfl,hB.out⟩
 ·have hbz:(4096:Int) < (n:Int):=by omega
  have E:Hid (r=false):=Lib.hid (by
   rw [← HR.out];unfold goodT
   rw [List.length_map,HL.out,decide_eq_false hbig,Bool.false_and])
  go_wp2
  go_ret
  exact ⟨by rw [E.out];rfl,Below.refl _ _⟩
end Go.Proofs.YthaoohbdjlbaeaaDoor.Tre
end
