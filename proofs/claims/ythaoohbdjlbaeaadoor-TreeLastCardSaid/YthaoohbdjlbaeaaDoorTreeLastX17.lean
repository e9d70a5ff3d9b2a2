/- Texts of this seat, merged: what the proof reaches. -/
import Derived.Test.YthaoohbdjlbaeaaDoorTreeLastX16
import Derived.Test.YthaoohbdjlbaeaaDoorTreeLastX10
import Derived.Deep.DeepCutAuto
import Derived.Test.YthaoohbdjlbaeaaDoorTreeLastX15
namespace Go.Proofs.YthaoohbdjlbaeaaDoor
namespace Base
end Base
namespace Bk
end Bk
namespace Byt
end Byt
namespace Mem
end Mem
namespace Txt
end Txt
end Go.Proofs.YthaoohbdjlbaeaaDoor
section
namespace Go.Proofs.YthaoohbdjlbaeaaDoor.Tre
open Go.ChangeShapes Go.WideShapes Go.ChangeAt Go.RowKit Base Byt Txt Bk Mem Go.Lib
set_option linter.unusedVariables false
set_option maxRecDepth 100000
def cmpD (a b:List UInt8):Int:=if ltB a b=true then -1 else if ltB b a=true then 1 else 0
theorem cmpD_lt (a b:List UInt8):(cmpD a b < 0) ↔ ltB a b=true:=by
 unfold cmpD
 by_cases h1:ltB a b=true
 ·simp [h1]
 ·by_cases h2:ltB b a=true<;>simp [h1,h2]
theorem cmpD_zero (a b:List UInt8):cmpD a b=0 ↔ a=b:=by
 unfold cmpD
 by_cases h1:ltB a b=true
 ·simp [h1,ltB_ne h1]
 ·by_cases h2:ltB b a=true
  ·simp only [h1,h2,if_true,Bool.false_eq_true,if_false]
   exact ⟨fun h => by omega,fun h => absurd h.symm (ltB_ne h2)⟩
  ·simp only [h1,h2,Bool.false_eq_true,if_false,true_iff]
   exact ltB_tri a b (by simpa using h1) (by simpa using h2)
theorem compare_any (a b:List UInt8) (w:World) :
 Calls Tryd.prog 47 #[.string (str a),.string (str b)] w fun e w' => e=.returned (.int .i64 (cmpD a b))∧w=w':=by
 have h1:=Path.less_any a b;have h2:=Path.less_any b a;change ∀ w,Calls Tryd.prog 33 #[.string (str a),.string (str b)] w fun e w' => e=.returned (.bool (ltB a b))∧w=w' at h1
 change ∀ w,Calls Tryd.prog 33 #[.string (str b),.string (str a)] w fun e w' => e=.returned (.bool (ltB b a))∧w=w' at h2
 unfold cmpD;obtain ⟨x,hx⟩:∃ x,ltB a b=x:=⟨_,rfl⟩;obtain ⟨y,hy⟩:∃ y,ltB b a=y:=⟨_,rfl⟩;rw [hx] at h1 ⊢;rw [hy] at h2 ⊢;clear hx hy
 go_enter Tryd.func47,Tryd.ntmps47
 cases x with
 | true =>
   go_wp2_with fail
   refine (h1 _).mono ?_
   rintro e w' ⟨rfl,rfl⟩
   go_wp2
   go_ret
   exact ⟨rfl,rfl⟩
 | false =>
   cases y with
   | true =>
     go_wp2_with fail
     refine (h1 _).mono ?_
     rintro e w' ⟨rfl,rfl⟩
     go_wp2_with fail
     refine (h2 _).mono ?_
     rintro e w' ⟨rfl,rfl⟩
     go_wp2
     go_ret
     exact ⟨rfl,rfl⟩
   | false =>
     go_wp2_with fail
     refine (h1 _).mono ?_
     rintro e w' ⟨rfl,rfl⟩
     go_wp2_with fail
     refine (h2 _).mono ?_
     rintro e w' ⟨rfl,rfl⟩
     go_wp2
     go_ret
     exact ⟨rfl,rfl⟩
set_option maxHeartbeats 1000000 in
theorem placeF_any (x:NP) (b:List UInt8) (w:World) :
 Calls Tryd.prog 49 #[.agg x.cs,.string (str b)] w fun e w' => e=.returned (.int .i64 (cmpD x.m.path b))∧Below w.heap.size w w':=by
 have hX:=Blk.new w 38 x.cs;have c0:=hX.cell 0;have hB:Below w.heap.size w (w.alloc (.cells x.cs 38)):=(Below.refl _ _).alloc (Nat.le_refl _) _;obtain ⟨W,hW⟩:∃ W,w.alloc (.cells x.cs 38)=W:=⟨_,rfl⟩;unfold NP.cs nodC at hW c0 hX hB ⊢;rw [hW] at c0 hB;simp only [List.getElem?_toArray,List.getElem?_cons_zero] at c0;have HW:=Lib.hid hW;have HB:=Lib.hid hB;have hc:=compare_any x.m.path b W;obtain ⟨r,hr⟩:∃ r,cmpD x.m.path b=r:=⟨_,rfl⟩;rw [hr] at hc ⊢;have HC:=Lib.hid hc;clear hW hB hX hc hr
 go_enter Tryd.func49,Tryd.ntmps49
 go_upto_region 1 with fail
 rw [HW.out]
 go_wp2_with fail
 refine HC.out.mono ?_
 rintro e w' ⟨rfl,rfl⟩
 go_wp2
 go_ret
 exact ⟨rfl,HB.out⟩
def SeekPost (ys:List NodeV) (b:List UInt8) (w:World) (e:Ending) (w':World):Prop:=
 ∃ (k:Nat) (r:Bool),e=.returned (.tuple #[.int .i64 (k:Int),.bool r])∧k≤ys.length∧(r=true → k < ys.length∧(ys.getD k zeroN).path=b)∧(Rising ys → r=false → ∀ y ∈ ys,y.path≠b)∧Below w.heap.size w w'
theorem rising_get {ys:List NodeV} (h:Rising ys) {i j:Nat} (hij:i < j) (hj:j < ys.length):ltB (ys.getD i zeroN).path (ys.getD j zeroN).path=true:=by
 have hi:i < ys.length:=by omega
 have:=List.pairwise_iff_getElem.1 h i j hi hj hij;rw [List.getD,List.getD,List.getElem?_eq_getElem hi,List.getElem?_eq_getElem hj];exact this
theorem getN_of_mem {ys:List NodeV} {y:NodeV} (h:y ∈ ys):∃ i,i < ys.length∧ys.getD i zeroN=y:=by
 obtain ⟨i,hi,he⟩:=List.mem_iff_getElem.1 h;exact ⟨i,hi,by rw [List.getD,List.getElem?_eq_getElem hi];exact he⟩
def BRel (ys:List NodeV) (b:List UInt8) (i j:Nat):Prop:=
 Rising ys → (∀ k,k < i → ltB (ys.getD k zeroN).path b=true)∧(∀ k,j≤k → k < ys.length → ltB (ys.getD k zeroN).path b=false)
theorem BRel.up {ys:List NodeV} {b:List UInt8} {i j h:Nat} (hr:BRel ys b i j) (hh:ltB (ys.getD h zeroN).path b=true) (hl:h < ys.length):BRel ys b (h+1) j:=fun hs => by
 refine ⟨fun k hk => ?_,(hr hs).2⟩
 rcases Nat.lt_succ_iff_lt_or_eq.1 hk with hk | rfl
 ·exact ltB_trans _ _ _ (rising_get hs hk hl) hh
 ·exact hh
theorem BRel.down {ys:List NodeV} {b:List UInt8} {i j h:Nat} (hr:BRel ys b i j) (hh:ltB (ys.getD h zeroN).path b=false):BRel ys b i h:=fun hs => by
 refine ⟨(hr hs).1,fun k hk hl => ?_⟩
 rcases Nat.lt_or_eq_of_le hk with hk | rfl
 ·cases hc:ltB (ys.getD k zeroN).path b with
  | false => rfl
  | true => rw [ltB_trans _ _ _ (rising_get hs hk hl) hc] at hh;cases hh
 ·exact hh
theorem BRel.none_ {ys:List NodeV} {b:List UInt8} {i:Nat} (hr:BRel ys b i i) (hne:i < ys.length → (ys.getD i zeroN).path≠b) (hs:Rising ys):∀ y ∈ ys,y.path≠b:=fun y hy e => by
 obtain ⟨k,hk,rfl⟩:=getN_of_mem hy;obtain ⟨h1,h2⟩:=hr hs;rcases Nat.lt_trichotomy k i with h | h | h
 ·exact ltB_ne (h1 k h) e
 ·subst h;exact hne hk e
 ·have a1:=rising_get hs h hk
  rw [e,h2 i (Nat.le_refl _) (by omega)] at a1
  cases a1
set_option maxHeartbeats 4000000 in
theorem seek_any (p:Option Addr) (n c:Nat) (xs:List NP) (b:List UInt8) (w:World) (h:NodesAt w p n xs) (hn:n≤1000000000) :
 Calls Tryd.prog 48 #[.slice p n c,.string (str b),.func (.func 49) #[] #[]] w (SeekPost (xs.map NP.m) b w):=by
 have HM:=Lib.hid h;have HL:=Lib.hid h.1;clear h
 go_enter Tryd.func48,Tryd.ntmps48
 go_wp2_with fail
 go_loopw [9,10,11] (fun vi vj vh wr => ∃ (i j:Nat),i≤j∧j≤n∧vi=.int .i64 (i:Int)∧vj=.int .i64 (j:Int)∧Hid (BRel (xs.map NP.m) b i j)∧Hid (Below w.heap.size w wr)) (fun vi vj _ _ => (RowKit.intOf vj).toNat - (RowKit.intOf vi).toNat)
 case atStart => exact ⟨0,n,Nat.zero_le _,Nat.le_refl _,rfl,rfl,Lib.hid (fun _ => ⟨fun k hk => by omega,fun k h1 h2 => by rw [List.length_map,HL.out] at h2;omega⟩),Lib.hid (Below.refl _ _)⟩
 case round =>
  obtain ⟨i,j,hij,hj,rfl,rfl,hR,hB⟩:=hrel
  by_cases hlt:i < j
  ·have q1:IntKind.i64.wrap ((i:Int)+(j:Int))=(i:Int)+(j:Int):=by rw [IntKind.wrap_i64];omega
   have hltz:(i:Int) < (j:Int):=by omega
   obtain ⟨h,hh⟩:∃ h,(i+j) / 2=h:=⟨_,rfl⟩;have hh1:i≤h:=by omega
   have hh2:h < j:=by omega
   obtain ⟨bb,o,rfl,hb,hBd,hc9⟩:=(HM.out.below hB.out).cells9 (show h < n by omega)
   obtain ⟨y,hy⟩:∃ y,xs.getD h zeroQ=y:=⟨_,rfl⟩;rw [hy] at hBd hc9;obtain ⟨c0,c1,c2,c3,c4,c5,c6,c7,c8⟩:=hc9;have hC:=placeF_any y b wr;unfold NP.cs nodC at hC;obtain ⟨r,hr⟩:∃ r,cmpD y.m.path b=r:=⟨_,rfl⟩;rw [hr] at hC;have HY:Hid (((xs.map NP.m).getD h zeroN).path=y.m.path):=Lib.hid (by rw [getN_map,hy])
   have HR:=Lib.hid hr;have HC:=Lib.hid hC;clear hC hr hy hb hBd;have q2:(((i:Int)+(j:Int)) / 2)=(h:Int):=by omega
   by_cases hneg:r < 0
   ·have HUP:Hid (BRel (xs.map NP.m) b (h+1) j):=Lib.hid (hR.out.up (by rw [HY.out,← cmpD_lt,HR.out];exact hneg) (by rw [List.length_map,HL.out];omega))
    go_wp2_with fail
    refine HC.out.mono ?_
    rintro e w2 ⟨rfl,hb2⟩;have HB2:=Lib.hid (hB.out.trans (hb2.mono hB.out.size));clear hb2 c0 c1 c2 c3 c4 c5 c6 c7 c8
    go_wp2
    go_roundw
    case rel => exact ⟨h+1,j,by omega,hj,by go_num,rfl,HUP,HB2⟩
    case measure => simp [RowKit.intOf];omega
   ·have HDN:Hid (BRel (xs.map NP.m) b i h):=Lib.hid (hR.out.down (by
     rw [HY.out,Bool.eq_false_iff,ne_eq,← cmpD_lt,HR.out];exact hneg))
    go_wp2_with fail
    refine HC.out.mono ?_
    rintro e w2 ⟨rfl,hb2⟩;have HB2:=Lib.hid (hB.out.trans (hb2.mono hB.out.size));clear hb2 c0 c1 c2 c3 c4 c5 c6 c7 c8
    go_wp2
    go_roundw
    case rel => exact ⟨i,h,by omega,by omega,rfl,by go_num,HDN,HB2⟩
    case measure => simp [RowKit.intOf];omega
  ·have hks:¬ ((i:Int) < (j:Int)):=by omega
   have hij2:i=j:=by omega
   subst hij2
   by_cases hin:i < n
   ·have hinz:(i:Int) < (n:Int):=by omega
    obtain ⟨bb,o,rfl,hb,hBd,hc9⟩:=(HM.out.below hB.out).cells9 hin;obtain ⟨y,hy⟩:∃ y,xs.getD i zeroQ=y:=⟨_,rfl⟩;rw [hy] at hBd hc9;obtain ⟨c0,c1,c2,c3,c4,c5,c6,c7,c8⟩:=hc9;have hC:=placeF_any y b wr;unfold NP.cs nodC at hC;obtain ⟨r,hr⟩:∃ r,cmpD y.m.path b=r:=⟨_,rfl⟩;rw [hr] at hC;have HY:Hid (((xs.map NP.m).getD i zeroN).path=y.m.path):=Lib.hid (by rw [getN_map,hy])
    have HR:=Lib.hid hr;have HC:=Lib.hid hC;clear hC hr hy hb hBd
    go_wp2_with fail
    refine HC.out.mono ?_
    rintro e w2 ⟨rfl,hb2⟩;have HB2:=Lib.hid (hB.out.trans (hb2.mono hB.out.size));clear hb2 c0 c1 c2 c3 c4 c5 c6 c7 c8
    by_cases h0:r=0
    ·have P:Hid (i < (xs.map NP.m).length∧((xs.map NP.m).getD i zeroN).path=b):=Lib.hid ⟨by rw [List.length_map,HL.out];exact hin,by rw [HY.out];exact (cmpD_zero _ _).1 (by rw [HR.out,h0])⟩
     have h0b:(r == 0)=true:=by simpa using h0
     go_wp2
     go_ret2
     exact ⟨i,true,rfl,by rw [List.length_map,HL.out];omega,fun _ => P.out,(fun _ h => by cases h),HB2.out⟩
    ·have h0b:(r == 0)=false:=by simpa using h0
     have P:Hid (Rising (xs.map NP.m) → ∀ y ∈ xs.map NP.m,y.path≠b):=Lib.hid (hR.out.none_ (fun _ e => h0 (by rw [← HR.out,cmpD_zero,← HY.out];exact e)))
     go_wp2
     go_ret2
     exact ⟨i,false,rfl,by rw [List.length_map,HL.out];omega,(fun h => by cases h),fun h _ => P.out h,HB2.out⟩
   ·have hinz:¬ (i:Int) < (n:Int):=by omega
    have P:Hid (Rising (xs.map NP.m) → ∀ y ∈ xs.map NP.m,y.path≠b):=Lib.hid (hR.out.none_ (fun h => absurd h (by rw [List.length_map,HL.out];exact hin)))
    go_wp2
    go_ret2
    exact ⟨i,false,rfl,by rw [List.length_map,HL.out];omega,(fun h => by cases h),fun h _ => P.out h,hB.out⟩
theorem place_any (p:Option Addr) (n c:Nat) (xs:List NP) (b:List UInt8) (w:World) (h:NodesAt w p n xs) (hn:n≤1000000000) :
 Calls Tryd.prog 35 #[.slice p n c,.string (str b)] w (SeekPost (xs.map NP.m) b w):=by
 have HS:=Lib.hid (seek_any p n c xs b w h hn);clear h
 go_enter Tryd.func35,Tryd.ntmps35
 go_wp2_with fail
 refine HS.out.mono ?_
 rintro e w2 ⟨k,r,rfl,h1,h2,h3,hb⟩;have P:=Lib.hid (And.intro h1 (And.intro h2 (And.intro h3 hb)));clear h1 h2 h3 hb
 go_wp2
 go_ret2
 exact ⟨k,r,rfl,P.out⟩
end Go.Proofs.YthaoohbdjlbaeaaDoor.Tre
end
section
namespace Go.Proofs.YthaoohbdjlbaeaaDoor.Tre
open Go.ChangeShapes Go.WideShapes Go.ChangeAt Go.RowKit Base Byt Txt Bk Mem Go.Lib
set_option linter.unusedVariables false
set_option maxRecDepth 100000
def sumL1 (ms:List MemV):Nat:=(ms.map fun m => m.body.length).sum
def okL1 (m:MemV):Bool:=decide (m.path.length≤2000) && (decide (m.target.length≤2000) && decide (m.body.length≤100000))
def light1D (ms:List MemV):Bool:=decide (ms.length≤60) && (ms.all okL1 && decide (sumL1 ms≤200000))
theorem sumL1_snoc (ms:List MemV) (m:MemV):sumL1 (ms++[m])=sumL1 ms+m.body.length:=by simp [sumL1]
theorem light1D_facts {ms:List MemV} (h:light1D ms=true):ms.length≤60∧(∀ m ∈ ms,m.path.length≤2000∧m.target.length≤2000∧m.body.length≤100000):=by
 simp only [light1D,Bool.and_eq_true,decide_eq_true_eq,List.all_eq_true,okL1] at h;exact ⟨h.1,h.2.1⟩
set_option maxHeartbeats 4000000 in
theorem light1_any (p:Option Addr) (n c:Nat) (xs:List MP) (w:World) (hM:MemsAt w p n xs) (hR:∀ x ∈ xs,RoomM x) :
 Calls Tryd.prog 8 #[.slice p n c] w fun e w' => e=.returned (.bool (light1D (xs.map MP.m)))∧w=w':=by
 have HM:=Lib.hid hM;have HL:=Lib.hid hM.1;have HR:=Lib.hid hR;clear hM hR
 go_enter Tryd.func8,Tryd.ntmps8
 go_wp2
 go_loop [3,4] (fun s i => ∃ (k S:Nat),k≤n∧i=.int .i64 (k:Int)∧s=.int .i64 (S:Int)∧(k=0 ∨ n≤60)∧S≤k * 100000∧Hid (sumL1 ((xs.take k).map MP.m)=S)∧Hid (∀ m ∈ (xs.take k).map MP.m,okL1 m=true)) (fun _ i => n - (RowKit.intOf i).toNat)
 case atStart => exact ⟨0,0,Nat.zero_le _,rfl,rfl,.inl rfl,Nat.zero_le _,Lib.hid rfl,Lib.hid (by simp)⟩
 case round =>
  obtain ⟨k,S,hk,rfl,rfl,hk60,hS,hE,hG⟩:=hrel
  by_cases hlt:k < n
  ·have hlx:k < xs.length:=by rw [HL.out];exact hlt
   have hT:=takeP_succ xs k hlx;have hmem:=getP_mem xs k hlx;have hrm:=HR.out _ hmem;obtain ⟨b,o,rfl,hb,hBd,c0,c1,c2,c3,c4,c5,c6,c7⟩:=HM.out.cells hlt;obtain ⟨y,hy⟩:∃ y,xs.getD k zeroP=y:=⟨_,rfl⟩;rw [hy] at hT hmem hrm hBd c0 c1 c7;rw [Nat.mul_comm] at c0 c1 c7;have hs0:(str y.m.path).size=y.m.path.length:=str_size _;have hs1:(str y.m.target).size=y.m.target.length:=str_size _;obtain ⟨pl,hpl⟩:∃ pl,y.m.path.length=pl:=⟨_,rfl⟩;obtain ⟨tl,htl⟩:∃ tl,y.m.target.length=tl:=⟨_,rfl⟩;obtain ⟨bl,hbl⟩:∃ bl,y.m.body.length=bl:=⟨_,rfl⟩;have HY:Hid (y.m.path.length=pl∧y.m.target.length=tl∧y.m.body.length=bl):=Lib.hid ⟨hpl,htl,hbl⟩
   have hblm:bl≤140737488351232:=by rw [← hbl];have:=hBd.le;have:=hrm.2.2;omega
   rw [hpl] at hs0;rw [htl] at hs1;rw [hbl] at c7;have HT:=Lib.hid hT;have HMM:Hid (y.m ∈ xs.map MP.m):=Lib.hid (List.mem_map_of_mem hmem);have hltz:(k:Int) < (n:Int):=by omega
   clear hT hb hy hlx hmem hrm hBd c2 c3 c4 c5 c6 hpl htl hbl
   by_cases h60:60 < n
   ·have E:Hid (light1D (xs.map MP.m)=false):=Lib.hid (by
     unfold light1D
     rw [List.length_map,HL.out,decide_eq_false (by omega),Bool.false_and])
    have h60i:(60:Int) < (n:Int):=by omega
    go_wp2
    go_ret
    exact ⟨by rw [E.out];rfl,rfl⟩
   ·have h60i:¬ ((60:Int) < (n:Int)):=by omega
    by_cases hok:okL1 y.m=true
    ·have hok2:=hok
     unfold okL1 at hok2;rw [HY.out.1,HY.out.2.1,HY.out.2.2] at hok2;simp only [Bool.and_eq_true,decide_eq_true_eq] at hok2;obtain ⟨a1,a2,a3⟩:=hok2;have i1:¬ (2000:Int) < (pl:Int):=by omega
     have i2:¬ (2000:Int) < (tl:Int):=by omega
     have i3:¬ (100000:Int) < (bl:Int):=by omega
     have HOK:=Lib.hid hok;have HK2:Hid (S+bl≤(k+1) * 100000):=Lib.hid (by omega)
     have hSb:S≤6000000:=by omega
     have HN60:Hid (n≤60):=Lib.hid (by omega)
     clear hok a1 a2 hk60 hS
     go_wp2
     go_round
     case rel => exact ⟨k+1,S+bl,by omega,by go_num,by go_num,.inr HN60.out,HK2.out,Lib.hid (by rw [HT.out,sumL1_snoc,hE.out,HY.out.2.2]),Lib.hid (fun m hm => by
      rw [HT.out,List.mem_append] at hm;rcases hm with hm | hm
      ·exact hG.out m hm
      ·rw [List.mem_singleton.1 hm];exact HOK.out)⟩
     case measure => simp [RowKit.intOf];omega
    ·have E:Hid (light1D (xs.map MP.m)=false):=Lib.hid (by
      rw [Bool.eq_false_iff];intro h;simp only [light1D,Bool.and_eq_true,List.all_eq_true] at h
      exact hok (h.2.1 _ HMM.out))
     have hor:2000 < pl ∨ (pl≤2000∧2000 < tl) ∨ (pl≤2000∧tl≤2000∧100000 < bl):=by
      unfold okL1 at hok;rw [HY.out.1,HY.out.2.1,HY.out.2.2] at hok;simp only [Bool.and_eq_true,decide_eq_true_eq] at hok;omega
     clear hok hk60 hS;rcases hor with i1 | ⟨i1,i2⟩ | ⟨i1,i2,i3⟩
     ·have j1:(2000:Int) < (pl:Int):=by omega
      go_wp2
      go_ret
      exact ⟨by rw [E.out];rfl,rfl⟩
     ·have j1:¬ (2000:Int) < (pl:Int):=by omega
      have j2:(2000:Int) < (tl:Int):=by omega
      go_wp2
      go_ret
      exact ⟨by rw [E.out];rfl,rfl⟩
     ·have j1:¬ (2000:Int) < (pl:Int):=by omega
      have j2:¬ (2000:Int) < (tl:Int):=by omega
      have j3:(100000:Int) < (bl:Int):=by omega
      go_wp2
      go_ret
      exact ⟨by rw [E.out];rfl,rfl⟩
  ·have hks:¬ ((k:Int) < (n:Int)):=by omega
   have e:xs.take k=xs:=List.take_of_length_le (by rw [HL.out];omega)
   have E:Hid (light1D (xs.map MP.m)=decide (S≤200000)):=Lib.hid (by
    have h1:=hE.out;have h2:=hG.out;rw [e] at h1 h2;unfold light1D
    rw [h1,List.all_eq_true.2 h2,List.length_map,HL.out,decide_eq_true (show n≤60 by omega),Bool.true_and,Bool.true_and])
   clear e hk60 hS
   by_cases hS2:S≤200000
   ·have hS3:(S:Int)≤200000:=by omega
    have E2:Hid (light1D (xs.map MP.m)=true):=Lib.hid (by rw [E.out,decide_eq_true hS2])
    clear hS2
    go_wp2
    go_ret
    exact ⟨by rw [E2.out];rfl,rfl⟩
   ·have hS3:¬ (S:Int)≤200000:=by omega
    have hd:decide ((S:Int)≤200000)=false:=decide_eq_false hS3;have E2:Hid (light1D (xs.map MP.m)=false):=Lib.hid (by rw [E.out,decide_eq_false hS2])
    clear hS2
    go_wp2
    go_ret
    exact ⟨by rw [E2.out];rfl,rfl⟩
end Go.Proofs.YthaoohbdjlbaeaaDoor.Tre
end
