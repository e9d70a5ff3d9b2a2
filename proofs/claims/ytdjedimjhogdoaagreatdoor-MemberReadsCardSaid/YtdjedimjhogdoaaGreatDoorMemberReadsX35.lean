/- Texts of this seat, merged: what the proof reaches. -/
import Derived.Test.YtdjedimjhogdoaaGreatDoorMemberReadsX34
import Derived.Deep.RegionHeld3
import Derived.Deep.RegionHeldLaw
import Derived.Test.YtdjedimjhogdoaaGreatDoorMemberReadsX32
import Derived.Lib.SlBytesConst
section
namespace Go.Proofs.YtdjedimjhogdoaaGreatDoor.Mem
open Go.ChangeShapes Go.WideShapes Go.ChangeAt Go.RowKit Base Byt Txt Bk Hp Head Num Path Block Rec Go.Lib
set_option linter.unusedVariables false
set_option maxRecDepth 100000
def Cells8 (w:World) (b o:Nat) (y:MP):Prop:=
 w.cell? ⟨b,o,none⟩=some (.string (str y.m.path))∧w.cell? ⟨b,o+1,none⟩=some (.string (str y.m.target))∧w.cell? ⟨b,o+2,none⟩=some (.int .u8 (y.m.kind.toNat:Int))∧w.cell? ⟨b,o+3,none⟩=some (.int .i64 y.m.mode) ∧
 w.cell? ⟨b,o+4,none⟩=some (.int .i64 y.m.uid)∧w.cell? ⟨b,o+5,none⟩=some (.int .i64 y.m.gid)∧w.cell? ⟨b,o+6,none⟩=some (.int .i64 y.m.time)∧w.cell? ⟨b,o+7,none⟩=some (.slice y.p y.m.body.length y.c)
theorem Cells8.below {w w':World} {b o:Nat} {y:MP} (h:Cells8 w b o y) (hb:b < w.heap.size) (hw:Below w.heap.size w w'):Cells8 w' b o y:=by
 unfold Cells8 at h ⊢;simp only [hw.cell (p:=⟨b,_,none⟩) hb];exact h
theorem MemsAt.cells8 {w:World} {p:Option Addr} {n:Nat} {xs:List MP} (h:MemsAt w p n xs) {i:Nat} (hi:i < n):∃ b o,p=some ⟨b,o,none⟩∧b < w.heap.size∧BodyAt w (xs.getD i zeroP)∧Cells8 w b (o+i * 8) (xs.getD i zeroP):=by
 obtain ⟨b,o,hp,hb,hB,c0,c1,c2,c3,c4,c5,c6,c7⟩:=h.cells hi;rw [Nat.mul_comm] at c0 c1 c2 c3 c4 c5 c6 c7;exact ⟨b,o,hp,hb,hB,c0,c1,c2,c3,c4,c5,c6,c7⟩
set_option maxHeartbeats 4000000 in
theorem rsameAll_any (p q:Option Addr) (n m c d:Nat) (xs ys:List MP) (w:World) (hn:n≤maxLen) (h1:MemsAt w p n xs) (h2:MemsAt w q m ys) :
 Calls Tryz.prog 14 #[.slice p n c,.slice q m d] w fun e w' => e=.returned (.bool (decide (xs.map MP.m=ys.map MP.m)))∧Below w.heap.size w w':=by
 unfold maxLen at hn;have H1:=Lib.hid h1;have H2:=Lib.hid h2;have HL1:=Lib.hid h1.1;have HL2:=Lib.hid h2.1;clear h1 h2
 go_enter Tryz.func14,Tryz.ntmps14
 by_cases hnm:n=m
 ·subst hnm
  have hb:(((n:Int)) != (n:Int))=false:=by simp
  go_wp2_with fail
  go_loopw [5] (fun i wr => ∃ (k:Nat),k≤n∧i=.int .i64 (k:Int)∧Hid (∀ j,j < k → (xs.getD j zeroP).m=(ys.getD j zeroP).m)∧Hid (Below w.heap.size w wr)) (fun i _ => n - (RowKit.intOf i).toNat)
  case atStart => exact ⟨0,Nat.zero_le _,rfl,Lib.hid (fun j hj => absurd hj (by omega)),Lib.hid (Below.refl _ _)⟩
  case round =>
   obtain ⟨k,hk,rfl,hd,hB⟩:=hrel
   by_cases hlt:k < n
   ·obtain ⟨b1,o1,rfl,hb1,hB1,hc1⟩:=(H1.out.below hB.out).cells8 hlt
    obtain ⟨b2,o2,rfl,hb2,hB2,hc2⟩:=(H2.out.below hB.out).cells8 hlt;obtain ⟨u,hu⟩:∃ u,xs.getD k zeroP=u:=⟨_,rfl⟩;obtain ⟨v,hv⟩:∃ v,ys.getD k zeroP=v:=⟨_,rfl⟩;rw [hu] at hB1 hc1;rw [hv] at hB2 hc2;have HU:=Lib.hid hu;have HV:=Lib.hid hv;have HA:=Lib.hid hB1;have HB:=Lib.hid hB2;have HCC:Hid (∀ w',Below wr.heap.size wr w' → Cells8 w' b1 (o1+k * 8) u∧Cells8 w' b2 (o2+k * 8) v):=Lib.hid (fun w' h => ⟨hc1.below hb1 h,hc2.below hb2 h⟩)
    have HBB:Hid (Below wr.heap.size wr wr.drew):=Lib.hid (below_drewN (Below.refl wr.heap.size wr) 1);unfold Cells8 at HCC;clear hB1 hB2 hc1 hc2 hu hv hb1 hb2;have hltz:(k:Int) < (n:Int):=by omega
    go_wp2_with fail
    go_region_held3 (fun w' => (w'.cell? ⟨b1,o1+k * 8,none⟩=some (.string (str u.m.path))∧w'.cell? ⟨b1,o1+k * 8+1,none⟩=some (.string (str u.m.target))∧w'.cell? ⟨b1,o1+k * 8+2,none⟩=some (.int .u8 (u.m.kind.toNat:Int))∧w'.cell? ⟨b1,o1+k * 8+3,none⟩=some (.int .i64 u.m.mode)∧w'.cell? ⟨b1,o1+k * 8+4,none⟩=some (.int .i64 u.m.uid)∧w'.cell? ⟨b1,o1+k * 8+5,none⟩=some (.int .i64 u.m.gid)∧w'.cell? ⟨b1,o1+k * 8+6,none⟩=some (.int .i64 u.m.time)∧w'.cell? ⟨b1,o1+k * 8+7,none⟩=some (.slice u.p u.m.body.length u.c))∧(w'.cell? ⟨b2,o2+k * 8,none⟩=some (.string (str v.m.path))∧w'.cell? ⟨b2,o2+k * 8+1,none⟩=some (.string (str v.m.target))∧w'.cell? ⟨b2,o2+k * 8+2,none⟩=some (.int .u8 (v.m.kind.toNat:Int))∧w'.cell? ⟨b2,o2+k * 8+3,none⟩=some (.int .i64 v.m.mode)∧w'.cell? ⟨b2,o2+k * 8+4,none⟩=some (.int .i64 v.m.uid)∧w'.cell? ⟨b2,o2+k * 8+5,none⟩=some (.int .i64 v.m.gid)∧w'.cell? ⟨b2,o2+k * 8+6,none⟩=some (.int .i64 v.m.time)∧w'.cell? ⟨b2,o2+k * 8+7,none⟩=some (.slice v.p v.m.body.length v.c))) (exact HCC.out _ HBB.out) (first
     | (go_at_call 18
        refine (rsame_any u.m v.m u.p v.p u.c v.c _ (HA.out.below HBB.out).bat (HB.out.below HBB.out).bat).mono ?_
        rintro e wa ⟨rfl,hba⟩;have HBB:=Lib.hid (HBB.out.trans (hba.mono HBB.out.size))
        clear hba))
    all_goals
     by_cases huv:u.m=v.m
     ·have huv2:decide (u.m=v.m)=true:=decide_eq_true huv
      have HD:Hid (∀ j,j < k+1 → (xs.getD j zeroP).m=(ys.getD j zeroP).m):=Lib.hid (fun j hj => by
       rcases Nat.lt_succ_iff_lt_or_eq.1 hj with h | rfl
       ·exact hd.out j h
       ·rw [HU.out,HV.out,huv])
      clear huv;have HBD:=Lib.hid (hB.out.trans (HBB.out.mono hB.out.size));rw [huv2]
      go_wp2
      go_roundw
      case rel => exact ⟨k+1,by omega,by go_num,HD,HBD⟩
      case measure => simp [RowKit.intOf];omega
     ·have huv2:decide (u.m=v.m)=false:=decide_eq_false huv
      have HNE:Hid (decide (xs.map MP.m=ys.map MP.m)=false):=Lib.hid (decide_eq_false (mems_differ xs ys k (by rw [HL1.out];exact hlt) (by rw [HL2.out];exact hlt) (by rw [HU.out,HV.out];exact huv)))
      clear huv;have HBD:=Lib.hid (hB.out.trans (HBB.out.mono hB.out.size));rw [huv2]
      go_wp2
      go_ret
      exact ⟨by rw [HNE.out];rfl,HBD.out⟩
   ·have hks:¬ ((k:Int) < (n:Int)):=by omega
    have HE:Hid (decide (xs.map MP.m=ys.map MP.m)=true):=Lib.hid (decide_eq_true (mems_same xs ys (by rw [HL1.out,HL2.out]) (fun j hj => hd.out j (by rw [HL1.out] at hj;omega))))
    go_wp2
    go_ret
    exact ⟨by rw [HE.out];rfl,hB.out⟩
 ·have hb:(((n:Int)) != (m:Int))=true:=by simp;omega
  have HNE:Hid (decide (xs.map MP.m=ys.map MP.m)=false):=Lib.hid (decide_eq_false (fun e => hnm (by have:=congrArg List.length e;rw [List.length_map,List.length_map,HL1.out,HL2.out] at this;exact this)))
  go_wp2
  go_ret
  exact ⟨by rw [HNE.out];rfl,Below.refl _ _⟩
end Go.Proofs.YtdjedimjhogdoaaGreatDoor.Mem
end
section
namespace Go.Proofs.YtdjedimjhogdoaaGreatDoor.Mem
open Go.ChangeShapes Go.WideShapes Go.ChangeAt Go.RowKit Base Byt Txt Bk Hp Head Num Path Block Rec Go.Proofs.YtdjedimjhogdoaaGreatDoor.Mp Go.Lib
set_option linter.unusedVariables false
set_option maxRecDepth 100000
def oneM:MemV:=⟨[97],[],48,0,0,0,0,[120]⟩
theorem ret_mem0 {fn:Func} (hf:fn.results=#[.cell 0 37]) (tmps:Array Value) (w:World) (g:Nat) (y:MP) (ht:tmps.getD 0 undef=.pointer (some ⟨g,0,none⟩))
 (hb:Blk w g 37 y.cs):(results fn tmps).run Tryz.prog w=.ok (.agg y.cs) w:=by
 have c0:=hb.cell
 have hl:(loadVar 37 ⟨g,0,none⟩).run Tryz.prog w=.ok (.agg y.cs) w:=by
  unfold MP.cs memC at c0 ⊢
  go_simp
 have ht':tmps[0]?.getD undef=.pointer (some ⟨g,0,none⟩):=by simpa using ht
 simp only [results,hf];simp [ht',asAddr,hl]
theorem one_any (w:World):Calls Tryz.prog 28 #[] w fun e w' => ∃ p,e=.returned (.agg #[.string ⟨#[97]⟩,.string ⟨#[]⟩,.int .u8 48,.int .i64 0,.int .i64 0,.int .i64 0,.int .i64 0,.slice p 1 1])∧Below w.heap.size w w'∧BAt w' p 1 [120]:=by
 have kc:(convert 22 22 (.slice (some ⟨w.heap.size+1,0,none⟩) 1 1)).run Tryz.prog ((w.alloc (.cells #[.string ⟨#[]⟩,.string ⟨#[]⟩,.int .u8 0,.int .i64 0,.int .i64 0,.int .i64 0,.int .i64 0,.slice none 0 0] 37)).alloc (.cells #[.int .u8 120] 5))=.ok (.slice (some ⟨w.heap.size+1,0,none⟩) 1 1) ((w.alloc (.cells #[.string ⟨#[]⟩,.string ⟨#[]⟩,.int .u8 0,.int .i64 0,.int .i64 0,.int .i64 0,.int .i64 0,.slice none 0 0] 37)).alloc (.cells #[.int .u8 120] 5 (1,2))):=by
  have hq:=Lib.run_convert_bytes_const (P:=Tryz.prog) (w.alloc (.cells #[.string ⟨#[]⟩,.string ⟨#[]⟩,.int .u8 0,.int .i64 0,.int .i64 0,.int .i64 0,.int .i64 0,.slice none 0 0] 37)) 22 5 #[.int .u8 120] 1 1 Tryz.underlying22 Tryz.underlying5;have hz:(w.alloc (.cells #[.string ⟨#[]⟩,.string ⟨#[]⟩,.int .u8 0,.int .i64 0,.int .i64 0,.int .i64 0,.int .i64 0,.slice none 0 0] 37)).heap.size=w.heap.size+1:=by simp
  rw [hz] at hq;exact hq
 go_enter Tryz.func28,Tryz.ntmps28
 go_wp2
 obtain ⟨w1,h1⟩:∃ w1,w.alloc (.cells #[.string ⟨#[97]⟩,.string ⟨#[]⟩,.int .u8 48,.int .i64 0,.int .i64 0,.int .i64 0,.int .i64 0,.slice (some ⟨w.heap.size+1,0,none⟩) 1 1] 37)=w1:=⟨_,rfl⟩;have hs:w1.heap.size=w.heap.size+1:=by rw [← h1];simp
 have hb:Blk w1 w.heap.size 37 (memC oneM (some ⟨w.heap.size+1,0,none⟩) 1):=by rw [← h1];exact Blk.new w _ _
 have hb1:Below w.heap.size w w1:=by rw [← h1];exact (Below.refl _ _).alloc (Nat.le_refl _) _
 rw [h1];clear h1;refine bodyPost_ret (ret_mem0 rfl _ _ w.heap.size ⟨oneM,some ⟨w.heap.size+1,0,none⟩,1⟩ rfl (hb.below ((Below.refl _ _).alloc (Nat.le_refl _) _) hb.lt)) rfl ?_
 refine ⟨_,rfl,hb1.alloc hb1.size _,fun _ => ⟨w.heap.size+1,0,rfl,fun i hi => ?_⟩⟩
 obtain rfl:i=0:=by omega
 rw [← hs];unfold World.cell?;rw [heap_alloc_new];rfl
theorem mems_blk {w:World} {b:Nat} {y:MP} (hb:Blk w b 37 y.cs) (hB:BodyAt w y):MemsAt w (some ⟨b,0,none⟩) 1 [y]:=by
 refine ⟨rfl,fun x hx => by rw [List.mem_singleton] at hx;subst hx;exact hB,fun _ => ⟨b,0,rfl,hb.lt,fun i hi j hj => ?_⟩⟩
 obtain rfl:i=0:=by omega
 rw [show 0+8 * 0+j=j by omega]
 exact hb.cell j
theorem iat_nil (w:World):IAt w none 0 []:=fun h => absurd h (by decide)
theorem oneM_good:GoodM oneM:=good_facts (by decide +kernel)
theorem read_oneM:membersD (archD ([⟨oneM,none,0⟩].map MP.m))=([oneM],0,0):=by
 have:=read_arch (ms:=[oneM]) (by intro m hm;rw [List.mem_singleton] at hm;subst hm;exact oneM_good) (by decide) 0
 rw [List.replicate_zero,List.append_nil] at this;exact this
theorem archD_len {ms:List MemV} (h:∀ m ∈ ms,GoodM m) (hl:ms.length≤100):(archD ms).length≤400000000:=by
 have:=putAllM_len ms h;rw [archD_eq,List.length_append,List.length_replicate];omega
theorem sameOne_any (y:MP) (hy:y.m=oneM) (w:World) (hB:BodyAt w y) (p:Option Addr) (hb:BAt w p 1 [120]) :
 Calls Tryz.prog 17 #[.agg #[.string (str y.m.path),.string (str y.m.target),.int .u8 (y.m.kind.toNat:Int),.int .i64 y.m.mode,.int .i64 y.m.uid,.int .i64 y.m.gid,.int .i64 y.m.time,.slice y.p y.m.body.length y.c],.agg #[.string ⟨#[97]⟩,.string ⟨#[]⟩,.int .u8 48,.int .i64 0,.int .i64 0,.int .i64 0,.int .i64 0,.slice p 1 1]] w
  fun e w' => e=.returned (.bool true)∧Below w.heap.size w w':=by
 have:=same_any y.m oneM y.p p y.c 1 w hB.bat hb;rw [show decide (y.m=oneM)=true from decide_eq_true hy] at this
 exact this
theorem goodOne_any (p:Option Addr) (w:World) (hT:Tabs w) :
 Calls Tryz.prog 15 #[.agg #[.string ⟨#[97]⟩,.string ⟨#[]⟩,.int .u8 48,.int .i64 0,.int .i64 0,.int .i64 0,.int .i64 0,.slice p 1 1]] w fun e w' => e=.returned (.bool true)∧Below w.heap.size w w':=by
 have:=memGood_any oneM p 1 w (by decide) (by decide) hT
 rw [show goodD oneM=true by decide +kernel] at this
 exact this
theorem goodZero_any (w:World) (hT:Tabs w) :
 Calls Tryz.prog 15 #[.agg #[.string ⟨#[]⟩,.string ⟨#[]⟩,.int .u8 0,.int .i64 0,.int .i64 0,.int .i64 0,.int .i64 0,.slice none 0 0]] w fun e w' => e=.returned (.bool false)∧Below w.heap.size w w':=by
 have:=memGood_any zeroM none 0 w (by decide) (by decide) hT
 rw [show goodD zeroM=false by decide +kernel] at this
 exact this
theorem read_zeros:membersD (List.replicate 512 0)=([],2,0):=end_cut startS 512 (by decide) 0
set_option maxHeartbeats 4000000 in
theorem ans08_any (w:World) (hN:Need w):Calls Tryz.prog 11 #[] w fun e w' => e=.returned (.bool true)∧Below w.heap.size w w':=by
 have mk:∀ w:World,(Instr.makeSlice 22 (.int .i64 512) (.int .i64 512)).run Tryz.prog w=.ok (.slice (some ⟨w.heap.size,0,none⟩) 512 512) (w.alloc (.cells (madeCells #[.int .u8 0] 512) 5)):=fun w => by
  obtain ⟨i0,hi0,hz0,hz1,hz2⟩:=info_parts infoU8;have h:=run_makeSlice (P:=Tryz.prog) w 22 5 i0 (.int .u8 0) Tryz.underlying22 hi0 hz0 .i64 .i64 512 512 (by decide) (by decide) (by rw [hz1];decide) (by rw [hz2];decide) (by decide)
  rw [hz1] at h;exact h
 have HN:=Lib.hid hN;clear hN
 go_enter Tryz.func11,Tryz.ntmps11
 go_wp2_with fail
 refine (one_any _).mono ?_
 rintro e w1 ⟨p1,rfl,hb1,hbt1⟩;have HM:Hid (MemsAt (w1.alloc (.cells #[.string ⟨#[97]⟩,.string ⟨#[]⟩,.int .u8 48,.int .i64 0,.int .i64 0,.int .i64 0,.int .i64 0,.slice p1 1 1] 37)) (some ⟨w1.heap.size,0,none⟩) 1 [⟨oneM,p1,1⟩]):=Lib.hid (mems_blk (y:=⟨oneM,p1,1⟩) (Blk.new w1 _ _) ⟨hbt1.below ((Below.refl _ _).alloc (Nat.le_refl _) _),Nat.le_refl 1,(by decide:(1:Nat)≤maxLen)⟩)
 have HB1:=Lib.hid (hb1.alloc hb1.size (.cells #[.string ⟨#[97]⟩,.string ⟨#[]⟩,.int .u8 48,.int .i64 0,.int .i64 0,.int .i64 0,.int .i64 0,.slice p1 1 1] 37));clear hbt1 hb1
 go_wp2_with fail
 refine (rarch_any _ _ 1 1 [⟨oneM,p1,1⟩] HM.out (fun x hx => by rw [List.mem_singleton] at hx;subst hx;exact oneM_good) (by decide)).mono ?_
 rintro e w2 ⟨v2,rfl,ho2,hk2⟩;obtain ⟨p2,c2,rfl,_,_,hb2,_,_⟩:=ho2.slice;have hL:=archD_len (ms:=[oneM]) (fun x hx => by rw [List.mem_singleton] at hx;subst hx;exact oneM_good) (by decide)
 have HB2:=Lib.hid (HB1.out.trans (hk2.below HB1.out.size (fun _ h => h.elim)))
 have hR:=memRead_any w2 p2 _ c2 _ none 0 0 [] hb2 rfl (by show (archD [oneM]).length≤_;omega) (iat_nil _) rfl (by decide) (HN.out.below HB2.out)
 unfold ReadD at hR;rw [show ([⟨oneM,p1,1⟩]:List MP).map MP.m=[⟨oneM,none,0⟩].map MP.m from rfl,read_oneM] at hR
 have HR:=Lib.hid hR;clear hR hL hk2 hb2 ho2
 go_wp2_with fail
 refine HR.out.mono ?_
 rintro e w3 ⟨p3,c3,xs3,rfl,_,_,hx3,hm3,hb3⟩
 obtain ⟨y,rfl⟩:∃ y,xs3=[y]:=by
  cases xs3 with
  | nil => exact absurd (congrArg List.length hx3) (by simp)
  | cons y t =>
    cases t with
    | nil => exact ⟨y,rfl⟩
    | cons _ _ => exact absurd (congrArg List.length hx3) (by simp)
 have HY:Hid (y.m=oneM):=Lib.hid (by simpa using hx3)
 obtain ⟨b3,o3,rfl,hbw3,hBd3,hc3⟩:=hm3.cells8 (i:=0) (by show 0 < 1;decide)
 have HC3:Hid (Cells8 w3 b3 o3 y):=Lib.hid (by simpa using hc3)
 have HBd3:Hid (BodyAt w3 y):=Lib.hid (by simpa using hBd3)
 have HW3:=Lib.hid hbw3;have HB3:=Lib.hid (HB2.out.trans (hb3.mono HB2.out.size));clear hx3 hm3 hb3 hBd3 hc3 hbw3 HR
 go_wp2_with fail
 have HB4:Hid (Below w.heap.size w ((w3.alloc (.cells #[.int .i64 0,.int .i64 0] 28)).alloc (.cells (madeCells #[.int .u8 0] 512) 5))):=Lib.hid ((HB3.out.alloc HB3.out.size _).alloc (HB3.out.alloc HB3.out.size _).size _);have hz4:(w3.alloc (.cells #[.int .i64 0,.int .i64 0] 28)).heap.size=w3.heap.size+1:=by simp
 have hr4:=(rowB_made (w3.alloc (.cells #[.int .i64 0,.int .i64 0] 28)) 512).bat;rw [hz4,List.length_replicate] at hr4;have hR4:=memRead_any _ (some ⟨w3.heap.size+1,0,none⟩) 512 512 (List.replicate 512 0) none 0 0 [] hr4 (List.length_replicate ..) (by decide) (iat_nil _) rfl (by decide) (HN.out.below HB4.out)
 unfold ReadD at hR4;rw [read_zeros] at hR4;have hF4:Blk ((w3.alloc (.cells #[.int .i64 0,.int .i64 0] 28)).alloc (.cells (madeCells #[.int .u8 0] 512) 5)) w3.heap.size 28 #[.int .i64 0,.int .i64 0]:=(Blk.new w3 _ _).below ((Below.refl _ _).alloc (Nat.le_refl _) _) (Blk.new w3 _ _).lt;have h34:Below w3.heap.size w3 ((w3.alloc (.cells #[.int .i64 0,.int .i64 0] 28)).alloc (.cells (madeCells #[.int .u8 0] 512) 5)):=((Below.refl _ w3).alloc (Nat.le_refl _) _).alloc ((Below.refl _ w3).alloc (Nat.le_refl _) _).size _;obtain ⟨w4,hw4⟩:∃ w4,(w3.alloc (.cells #[.int .i64 0,.int .i64 0] 28)).alloc (.cells (madeCells #[.int .u8 0] 512) 5)=w4:=⟨_,rfl⟩
 rw [hw4] at HB4 hR4 hF4 h34 ⊢;clear hw4 hr4 hz4;refine hR4.mono ?_
 rintro e w5 ⟨p5,c5,xs5,rfl,_,_,hx5,_,hb5⟩;obtain rfl:xs5=[]:=by simpa using hx5
 go_upto_region 3 with fail
 obtain ⟨w6,hw6⟩:∃ w6,w5.alloc (.cells #[.int .i64 2,.int .i64 0] 28)=w6:=⟨_,rfl⟩;have h56:Below w5.heap.size w5 w6:=by rw [← hw6];exact (Below.refl _ _).alloc (Nat.le_refl _) _
 have hG6:Blk w6 w5.heap.size 28 #[.int .i64 2,.int .i64 0]:=by rw [← hw6];exact Blk.new w5 _ _
 have h46:Below w4.heap.size w4 w6:=hb5.trans (h56.mono hb5.size);have h36:Below w3.heap.size w3 w6:=h34.trans (h46.mono h34.size);have hF6:=hF4.below h46 hF4.lt;have HN6:=Lib.hid (HN.out.below (HB4.out.trans (h46.mono HB4.out.size)));have HB6:=Lib.hid (HB4.out.trans (h46.mono HB4.out.size));have HC6:=HC3.out.below HW3.out h36;have HBd6:=Lib.hid (HBd3.out.below h36);have hW6:b3 < w6.heap.size:=Nat.lt_of_lt_of_le HW3.out h36.size
 have HCC:Hid (∀ w',Below w6.heap.size w6 w' → (w'.cell? ⟨w3.heap.size,0,none⟩=some (.int .i64 0)∧w'.cell? ⟨w5.heap.size,0,none⟩=some (.int .i64 2))∧Cells8 w' b3 o3 y):=Lib.hid (fun w' h =>
  ⟨⟨(hF6.below h hF6.lt).cell 0,(hG6.below h hG6.lt).cell 0⟩,HC6.below hW6 h⟩)
 unfold Cells8 at HCC;have HBB:Hid (Below w6.heap.size w6 w6.drew):=Lib.hid (below_drewN (Below.refl w6.heap.size w6) 1);have MARK:Hid (0=0):=Lib.hid rfl;rw [hw6];clear hw6 h56 hG6 h46 h36 hF6 HC6 hW6 hb5 hF4 h34 hx5 hR4 HN HC3 HM HB1 HB2 HB3
 go_region_held3 (fun w' => (w'.cell? ⟨w3.heap.size,0,none⟩=some (.int .i64 0)∧w'.cell? ⟨w5.heap.size,0,none⟩=some (.int .i64 2))∧(w'.cell? ⟨b3,o3,none⟩=some (.string (str y.m.path))∧w'.cell? ⟨b3,o3+1,none⟩=some (.string (str y.m.target))∧w'.cell? ⟨b3,o3+2,none⟩=some (.int .u8 (y.m.kind.toNat:Int))∧w'.cell? ⟨b3,o3+3,none⟩=some (.int .i64 y.m.mode)∧w'.cell? ⟨b3,o3+4,none⟩=some (.int .i64 y.m.uid)∧w'.cell? ⟨b3,o3+5,none⟩=some (.int .i64 y.m.gid)∧w'.cell? ⟨b3,o3+6,none⟩=some (.int .i64 y.m.time)∧w'.cell? ⟨b3,o3+7,none⟩=some (.slice y.p y.m.body.length y.c))) (exact HCC.out _ HBB.out) (first
  | (go_at_call 28
     refine (one_any _).mono ?_
     rintro e wa ⟨pa,rfl,hba,hbt⟩;have HBT:=Lib.hid hbt;have HBB:=Lib.hid (HBB.out.trans (hba.mono HBB.out.size))
     clear hba hbt)
  | (go_at_call 17
     refine (sameOne_any y HY.out _ (HBd6.out.below HBB.out) _ HBT.out).mono ?_
     rintro e wa ⟨rfl,hba⟩;have HBB:=Lib.hid (HBB.out.trans (hba.mono HBB.out.size))
     clear hba)
  | (go_at_call 15
     clear MARK;refine (goodOne_any _ _ (HN6.out.below HBB.out).tabs).mono ?_
     rintro e wa ⟨rfl,hba⟩;have HBB:=Lib.hid (HBB.out.trans (hba.mono HBB.out.size))
     clear hba)
  | (go_at_call 15
     refine (goodZero_any _ (HN6.out.below HBB.out).tabs).mono ?_
     rintro e wa ⟨rfl,hba⟩;have HBB:=Lib.hid (HBB.out.trans (hba.mono HBB.out.size))
     clear hba))
 all_goals
  have HF:=Lib.hid (HB6.out.trans (HBB.out.mono HB6.out.size))
  go_wp2
  go_ret
  exact ⟨rfl,HF.out⟩
end Go.Proofs.YtdjedimjhogdoaaGreatDoor.Mem
end
section
namespace Go.Proofs.YtdjedimjhogdoaaGreatDoor.Mem
open Go.ChangeShapes Go.WideShapes Go.ChangeAt Go.RowKit Base Byt Txt Bk Go.Lib
theorem eqFlt_deep (a b a' b':Int) (n:Nat) (w:World):(Op.equalIn (n+1+1) 28 (.agg #[.int .i64 a,.int .i64 b]) (.agg #[.int .i64 a',.int .i64 b'])).run Tryz.prog w=.ok (decide (a=a'∧b=b')) w:=by
 have hM:Tryz.prog.underlying 28=some (.struct (Tryz.prog.fieldsOf 28)):=by kernel_rfl
 have pM:Tryz.prog.stoodInHeld 28=false:=by kernel_rfl
 rw [run_equalIn_agg (P:=Tryz.prog) w (n+1) 28 _ _ hM pM];clear hM pM;simp only [Program.fieldsOf,Tryz.underlying28]
 go_simp
 by_cases h4:a=a'<;>by_cases h5:b=b'<;>simp [h4,h5]
theorem eqFlt (a b a' b':Int) (w:World):(binOp .eql 28 (.agg #[.int .i64 a,.int .i64 b]) (.agg #[.int .i64 a',.int .i64 b'])).run Tryz.prog w=.ok (.bool (decide (a=a'∧b=b'))) w:=by
 rw [run_eql_struct,show (10000:Nat)=9998+1+1 from rfl,eqFlt_deep]
 rfl
theorem eqFlt_self (a b:Int) (w:World):(binOp .eql 28 (.agg #[.int .i64 a,.int .i64 b]) (.agg #[.int .i64 a,.int .i64 b])).run Tryz.prog w=.ok (.bool true) w:=by
 rw [eqFlt,decide_eq_true ⟨rfl,rfl⟩]
end Go.Proofs.YtdjedimjhogdoaaGreatDoor.Mem
namespace Go.Proofs.YtdjedimjhogdoaaGreatDoor.Walk
open Go.ChangeShapes Go.WideShapes Go.ChangeAt Go.RowKit Base Byt Txt Bk Num Block Rec Mem Go.Lib
set_option linter.unusedVariables false
set_option maxRecDepth 100000
end Go.Proofs.YtdjedimjhogdoaaGreatDoor.Walk
end
section
namespace Go.Proofs.YtdjedimjhogdoaaGreatDoor.Walk
open Go.ChangeShapes Go.WideShapes Go.ChangeAt Go.RowKit Base Byt Txt Bk Num Block Rec Mem Go.Lib
set_option linter.unusedVariables false
set_option maxRecDepth 100000
set_option maxHeartbeats 4000000 in
theorem memberReads (a0:Option Addr) (len0 cap0:Nat) (z0:List Int) (a1:Option Addr) (len1 cap1:Nat) (z1:List Int) (w:World) (w0:IsRow .u8 w a0 len0 cap0 z0) (b0:cap0 * 1≤140737488351232) (w1:IsRow .i64 w a1 len1 cap1 z1) (b1:cap1 * 8≤140737488351232) (hT:Need w) :
 Calls Tryz.prog 3 #[.slice a0 len0 cap0,.slice a1 len1 cap1] w fun e w' => e=.returned (.bool true)∧Below w.heap.size w w':=by
 obtain ⟨hb,hl,hc,_⟩:=bat_of_row w0;obtain ⟨hi,hil,hic,_⟩:=iat_of_row w1;obtain ⟨bs,hbs⟩:∃ bs,bs=bytesOf (z0.take len0):=⟨_,rfl⟩;obtain ⟨zs,hzs⟩:∃ zs,zs=z1.take len1:=⟨_,rfl⟩;rw [← hbs] at hb hl;rw [← hzs] at hi hil;have hcp:len0≤cap0∧cap0≤140737488351232:=⟨hc,by omega⟩
 obtain ⟨n,rfl⟩:∃ n,n=len0:=⟨_,rfl⟩;have hm8:len1 * 8≤140737488351232:=by omega
 have HB:=Lib.hid hb;have HL:=Lib.hid hl;have HI:=Lib.hid hi;have HIL:=Lib.hid hil;have HM8:=Lib.hid hm8;have HN:=Lib.hid hT;clear hb hl hbs w0 hc b0 hT hi hil hzs w1 hic b1 hm8
 by_cases hbig:40000 < n
 ·go_enter Tryz.func3,Tryz.ntmps3
  go_wp2_with fail
  refine (ans08_any _ HN.out).mono ?_
  rintro e w2 ⟨rfl,hk⟩;have HK:=Lib.hid hk;clear hk
  go_wp2
  go_ret
  exact ⟨rfl,HK.out⟩
 ·have hn:n≤40000:=by omega
  obtain ⟨i0,hi0,hz0,hz1,hz2⟩:=info_parts infoU8;have HI0:=Lib.hid hi0;have HZ0:=Lib.hid hz0;have HZ1:=Lib.hid hz1;have HZ2:=Lib.hid hz2;obtain ⟨i1,hi1,hy0,hy1,hy2⟩:=info_parts infoI64;have HI1:=Lib.hid hi1;have HY0:=Lib.hid hy0;have HY1:=Lib.hid hy1;have HY2:=Lib.hid hy2;have HCP:=Lib.hid hcp;obtain ⟨⟨ms,er,a⟩,hD⟩:∃ x,membersD bs=x:=⟨_,rfl⟩;have HD:=Lib.hid hD;have HR2:Hid (∀ w',Below w.heap.size w w' → Calls Tryz.prog 13 #[.slice a0 n cap0] w' (ReadD w' bs)):=Lib.hid (fun w' h => rread_any a0 n cap0 bs w' (HB.out.below h) HL.out (by omega) HCP.out.1 HCP.out.2 (HN.out.below h))
  unfold ReadD at HR2;rw [hD] at HR2;clear hi0 hz0 hz1 hz2 hi1 hy0 hy1 hy2 hD hcp
  go_enter Tryz.func3,Tryz.ntmps3
  go_wp2_with (at_builtin;refine append_bytes rfl _ _ 22 rfl w.heap.size 5 i0 Tryz.underlying22 HI0.out HZ0.out HZ1.out HZ2.out _ 0 [] rfl (World.ownsRow_made w #[] 0 (Nat.le_refl _) (by decide) rfl) a0 n cap0 bs rfl (HB.out.alloc _) HL.out ?d2 ?d3 ?_)
  case d2 => omega
  intro v1 w1 hown1 hgrow1
  have ho1:OwnB w1 w.heap.size v1 n bs:=by
   unfold OwnB
   simpa using hown1
  have hk1:Byt.Kept noneB w w1:=((Byt.Kept.refl noneB w).alloc _).grown hgrow1 (by intro k hk;simp [Value.ownBlock] at hk;omega)
  have HK1:=Lib.hid hk1;obtain ⟨p1,c1,rfl,_,_,hb1,_,_⟩:=ho1.slice;have HB1:=Lib.hid hb1;clear hown1 hgrow1 ho1 hk1 hb1
  go_wp2_with (at_builtin;refine append_ints rfl _ _ 23 rfl w1.heap.size 3 i1 Tryz.underlying23 HI1.out HY0.out HY1.out HY2.out _ 0 [] rfl (World.ownsRow_made w1 #[] 0 (Nat.le_refl _) (by decide) rfl) a1 len1 cap1 zs rfl ?e1 HIL.out ?e2 ?e3 ?_)
  case e1 => exact (HI.out.kept HK1.out (fun _ _ _ => id)).kept ((Byt.Kept.refl noneB w1).alloc _) (fun _ _ _ => id)
  case e2 => have:=HM8.out;omega
  case e3 => simp
  intro v2 w2' hown2 hgrow2;have ho2:w2'.ownsRow w1.heap.size 3 1 v2 len1 (zs.map (Value.int .i64)):=by simpa using hown2
  have hk2:Byt.Kept noneB w1 w2':=((Byt.Kept.refl noneB w1).alloc _).grown hgrow2 (by intro k hk;simp [Value.ownBlock] at hk;omega)
  have HK2:=Lib.hid (HK1.out.trans hk2);obtain ⟨p2,c2,rfl,_,_,hi2,_,_⟩:=iat_of_own ho2;have HBB:=Lib.hid (HK2.out.below (Nat.le_refl _) (fun _ h => h.elim))
  have hR:=memRead_any w2' p1 n c1 bs p2 len1 c2 zs (HB1.out.kept hk2 (fun _ _ _ => id)) HL.out (by omega) hi2 HIL.out HM8.out (HN.out.below HBB.out)
  unfold ReadD at hR;rw [HD.out] at hR;have HR:=Lib.hid hR;clear hown2 hgrow2 ho2 hk2 hi2 hR
  go_wp2_with fail
  refine HR.out.mono ?_
  rintro e w2 ⟨p,c,xs,rfl,hxc,hcm,hx,hm,hb2⟩;obtain ⟨L,hL⟩:∃ L,xs.length=L:=⟨_,rfl⟩;rw [hL] at hm hxc ⊢;obtain ⟨A,hA⟩:∃ A:Int,(a:Int)=A:=⟨_,rfl⟩;simp only [hA] at HR2 ⊢;have HM:=Lib.hid hm;have HX:=Lib.hid hx;have HLN:=Lib.hid hL;have HB2:=Lib.hid (HBB.out.trans (hb2.mono HBB.out.size));have HHL:=Lib.hid hxc;clear hm hx hL hb2 HR hxc hA
  go_upto_region 4 with fail
  obtain ⟨w3,hw3⟩:∃ w3,w2.alloc (.cells #[.int .i64 er,.int .i64 A] 28)=w3:=⟨_,rfl⟩;have hX3:Blk w3 w2.heap.size 28 #[.int .i64 er,.int .i64 A]:=by rw [← hw3];exact Blk.new w2 _ _
  have h23:Below w2.heap.size w2 w3:=by rw [← hw3];exact (Below.refl _ _).alloc (Nat.le_refl _) _
  have HX3:=Lib.hid hX3;have HB3:=Lib.hid (HB2.out.trans (h23.mono HB2.out.size));have HM3:=Lib.hid (HM.out.below h23);rw [hw3];clear hw3 hX3 h23 HM
  go_wp2_with fail
  refine (HR2.out _ HB3.out).mono ?_
  rintro e w4 ⟨p4,c4,ys,rfl,hyc,hcm4,hy,hm4,hb4⟩;obtain ⟨L4,hL4⟩:∃ L,ys.length=L:=⟨_,rfl⟩;rw [hL4] at hm4 hyc ⊢;have HX4:=Lib.hid (HX3.out.below hb4 HX3.out.lt);have HM4:=Lib.hid (HM3.out.below hb4);have HY:=Lib.hid hy;have HM5:=Lib.hid hm4;have HB4:=Lib.hid (HB3.out.trans (hb4.mono HB3.out.size));clear hm4 hy hL4 hb4 hyc HM3 HX3
  go_upto_region 5 with fail
  obtain ⟨w5,hw5⟩:∃ w5,w4.alloc (.cells #[.int .i64 er,.int .i64 A] 28)=w5:=⟨_,rfl⟩;have hX5:Blk w5 w4.heap.size 28 #[.int .i64 er,.int .i64 A]:=by rw [← hw5];exact Blk.new w4 _ _
  have h45:Below w4.heap.size w4 w5:=by rw [← hw5];exact (Below.refl _ _).alloc (Nat.le_refl _) _
  have HX5:=Lib.hid hX5;have HX6:=Lib.hid (HX4.out.below h45 HX4.out.lt);have HB5:=Lib.hid (HB4.out.trans (h45.mono HB4.out.size));have HMx:=Lib.hid (HM4.out.below h45);have HMy:=Lib.hid (HM5.out.below h45);rw [hw5];clear hw5 hX5 h45 HM4 HM5 HX4
  go_wp2_with fail
  refine (ans08_any _ (HN.out.below HB5.out)).mono ?_
  rintro e w6 ⟨rfl,hb6⟩;have x0:=(HX5.out.below hb6 HX5.out.lt).cell 0;have x1:=(HX5.out.below hb6 HX5.out.lt).cell 1;have y0:=(HX6.out.below hb6 HX6.out.lt).cell 0;have y1:=(HX6.out.below hb6 HX6.out.lt).cell 1;simp only [List.getElem?_toArray,List.getElem?_cons_zero,List.getElem?_cons_succ] at x0 x1 y0 y1;have EQ:=eqFlt_self er A;have HB6:=Lib.hid (HB5.out.trans (hb6.mono HB5.out.size));have HSA:=Lib.hid (rsameAll_any p p4 L L4 c c4 xs ys w6 (Nat.le_trans HHL.out hcm) (HMx.out.below hb6) (HMy.out.below hb6));have HDE:Hid (decide (xs.map MP.m=ys.map MP.m)=true):=Lib.hid (decide_eq_true (by rw [HX.out,HY.out]))
  clear hb6
  go_wp2_with fail
  refine HSA.out.mono ?_
  rw [HDE.out];rintro e w7 ⟨rfl,hb7⟩;have FIN:=Lib.hid (HB6.out.trans (hb7.mono HB6.out.size));clear hb7
  go_wp2
  go_ret
  exact ⟨rfl,FIN.out⟩
end Go.Proofs.YtdjedimjhogdoaaGreatDoor.Walk
end
