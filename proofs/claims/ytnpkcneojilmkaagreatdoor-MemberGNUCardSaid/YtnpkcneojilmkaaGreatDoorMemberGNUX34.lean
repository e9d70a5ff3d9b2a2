/- Texts of this seat, merged: what the proof reaches. -/
import Derived.Test.YtnpkcneojilmkaaGreatDoorMemberGNUX31
import Derived.Deep.RegionHeld3
import Derived.Deep.RegionHeldLaw
import Derived.Test.YtnpkcneojilmkaaGreatDoorMemberGNUX33
import Derived.Lib.SlBytesConst
import Derived.Test.YtnpkcneojilmkaaGreatDoorMemberGNUX21
import Derived.Test.YtnpkcneojilmkaaGreatDoorMemberGNUX28
section
namespace Go.Proofs.YtnpkcneojilmkaaGreatDoor.Mem
open Go.ChangeShapes Go.WideShapes Go.ChangeAt Go.RowKit Base Byt Txt Bk Hp Head Num Path Block Rec Go.Lib
set_option linter.unusedVariables false
set_option maxRecDepth 100000
def Cells8 (w:World) (b o:Nat) (y:MP):Prop:=
 w.cell? ⟨b,o,none⟩=some (.string (str y.m.path))∧w.cell? ⟨b,o+1,none⟩=some (.string (str y.m.target))∧w.cell? ⟨b,o+2,none⟩=some (.int .u8 (y.m.kind.toNat:Int))∧w.cell? ⟨b,o+3,none⟩=some (.int .i64 y.m.mode) ∧
 w.cell? ⟨b,o+4,none⟩=some (.int .i64 y.m.uid)∧w.cell? ⟨b,o+5,none⟩=some (.int .i64 y.m.gid)∧w.cell? ⟨b,o+6,none⟩=some (.int .i64 y.m.time)∧w.cell? ⟨b,o+7,none⟩=some (.slice y.p y.m.body.length y.c)
theorem Cells8.below {w w':World} {b o:Nat} {y:MP} (h:Cells8 w b o y) (hb:b < w.heap.size) (hw:Below w.heap.size w w'):Cells8 w' b o y:=by
 unfold Cells8 at h ⊢;simp only [hw.cell (p:=⟨b,_,none⟩) hb];exact h
theorem MemsAt.cells8 {w:World} {p:Option Addr} {n:Nat} {xs:List MP} (h:MemsAt w p n xs) {i:Nat} (hi:i < n):∃ b o,p=some ⟨b,o,none⟩∧b < w.heap.size∧BodyAt w (xs.getD i zeroP)∧Cells8 w b (o+i * 8) (xs.getD i zeroP):=by
 obtain ⟨b,o,hp,hb,hB,c0,c1,c2,c3,c4,c5,c6,c7⟩:=h.cells hi;rw [Nat.mul_comm] at c0 c1 c2 c3 c4 c5 c6 c7;exact ⟨b,o,hp,hb,hB,c0,c1,c2,c3,c4,c5,c6,c7⟩
end Go.Proofs.YtnpkcneojilmkaaGreatDoor.Mem
end
section
namespace Go.Proofs.YtnpkcneojilmkaaGreatDoor.Mem
open Go.ChangeShapes Go.WideShapes Go.ChangeAt Go.RowKit Base Byt Txt Bk Hp Head Num Path Block Rec Go.Proofs.YtnpkcneojilmkaaGreatDoor.Mp Go.Lib
set_option linter.unusedVariables false
set_option maxRecDepth 100000
def oneM:MemV:=⟨[97],[],48,0,0,0,0,[120]⟩
theorem ret_mem0 {fn:Func} (hf:fn.results=#[.cell 0 26]) (tmps:Array Value) (w:World) (g:Nat) (y:MP) (ht:tmps.getD 0 undef=.pointer (some ⟨g,0,none⟩))
 (hb:Blk w g 26 y.cs):(results fn tmps).run Tryz.prog w=.ok (.agg y.cs) w:=by
 have c0:=hb.cell
 have hl:(loadVar 26 ⟨g,0,none⟩).run Tryz.prog w=.ok (.agg y.cs) w:=by
  unfold MP.cs memC at c0 ⊢
  go_simp
 have ht':tmps[0]?.getD undef=.pointer (some ⟨g,0,none⟩):=by simpa using ht
 simp only [results,hf];simp [ht',asAddr,hl]
theorem one_any (w:World):Calls Tryz.prog 24 #[] w fun e w' => ∃ p,e=.returned (.agg #[.string ⟨#[97]⟩,.string ⟨#[]⟩,.int .u8 48,.int .i64 0,.int .i64 0,.int .i64 0,.int .i64 0,.slice p 1 1])∧Below w.heap.size w w'∧BAt w' p 1 [120]:=by
 have kc:(convert 24 24 (.slice (some ⟨w.heap.size+1,0,none⟩) 1 1)).run Tryz.prog ((w.alloc (.cells #[.string ⟨#[]⟩,.string ⟨#[]⟩,.int .u8 0,.int .i64 0,.int .i64 0,.int .i64 0,.int .i64 0,.slice none 0 0] 26)).alloc (.cells #[.int .u8 120] 5))=.ok (.slice (some ⟨w.heap.size+1,0,none⟩) 1 1) ((w.alloc (.cells #[.string ⟨#[]⟩,.string ⟨#[]⟩,.int .u8 0,.int .i64 0,.int .i64 0,.int .i64 0,.int .i64 0,.slice none 0 0] 26)).alloc (.cells #[.int .u8 120] 5 (1,2))):=by
  have hq:=Lib.run_convert_bytes_const (P:=Tryz.prog) (w.alloc (.cells #[.string ⟨#[]⟩,.string ⟨#[]⟩,.int .u8 0,.int .i64 0,.int .i64 0,.int .i64 0,.int .i64 0,.slice none 0 0] 26)) 24 5 #[.int .u8 120] 1 1 Tryz.underlying24 Tryz.underlying5;have hz:(w.alloc (.cells #[.string ⟨#[]⟩,.string ⟨#[]⟩,.int .u8 0,.int .i64 0,.int .i64 0,.int .i64 0,.int .i64 0,.slice none 0 0] 26)).heap.size=w.heap.size+1:=by simp
  rw [hz] at hq;exact hq
 go_enter Tryz.func24,Tryz.ntmps24
 go_wp2
 obtain ⟨w1,h1⟩:∃ w1,w.alloc (.cells #[.string ⟨#[97]⟩,.string ⟨#[]⟩,.int .u8 48,.int .i64 0,.int .i64 0,.int .i64 0,.int .i64 0,.slice (some ⟨w.heap.size+1,0,none⟩) 1 1] 26)=w1:=⟨_,rfl⟩;have hs:w1.heap.size=w.heap.size+1:=by rw [← h1];simp
 have hb:Blk w1 w.heap.size 26 (memC oneM (some ⟨w.heap.size+1,0,none⟩) 1):=by rw [← h1];exact Blk.new w _ _
 have hb1:Below w.heap.size w w1:=by rw [← h1];exact (Below.refl _ _).alloc (Nat.le_refl _) _
 rw [h1];clear h1;refine bodyPost_ret (ret_mem0 rfl _ _ w.heap.size ⟨oneM,some ⟨w.heap.size+1,0,none⟩,1⟩ rfl (hb.below ((Below.refl _ _).alloc (Nat.le_refl _) _) hb.lt)) rfl ?_
 refine ⟨_,rfl,hb1.alloc hb1.size _,fun _ => ⟨w.heap.size+1,0,rfl,fun i hi => ?_⟩⟩
 obtain rfl:i=0:=by omega
 rw [← hs];unfold World.cell?;rw [heap_alloc_new];rfl
theorem mems_blk {w:World} {b:Nat} {y:MP} (hb:Blk w b 26 y.cs) (hB:BodyAt w y):MemsAt w (some ⟨b,0,none⟩) 1 [y]:=by
 refine ⟨rfl,fun x hx => by rw [List.mem_singleton] at hx;subst hx;exact hB,fun _ => ⟨b,0,rfl,hb.lt,fun i hi j hj => ?_⟩⟩
 obtain rfl:i=0:=by omega
 rw [show 0+8 * 0+j=j by omega]
 exact hb.cell j
theorem iat_nil (w:World):IAt w none 0 []:=fun h => absurd h (by decide)
theorem oneM_good:GoodM oneM:=good_facts (by decide +kernel)
theorem read_oneM:membersD (archD ([⟨oneM,none,0⟩].map MP.m))=([oneM],0,0):=by
 have:=read_arch (ms:=[oneM]) (by intro m hm;rw [List.mem_singleton] at hm;subst hm;exact oneM_good) (by decide) 0
 rw [List.replicate_zero,List.append_nil] at this;exact this
theorem archD_len {ms:List MemV} (h:∀ m ∈ ms,GoodM m) (hl:ms.length≤100):(archD ms).length≤400000000:=by
 have:=putAllM_len ms h;rw [archD_eq,List.length_append,List.length_replicate];omega
theorem sameOne_any (y:MP) (hy:y.m=oneM) (w:World) (hB:BodyAt w y) (p:Option Addr) (hb:BAt w p 1 [120]) :
 Calls Tryz.prog 25 #[.agg #[.string (str y.m.path),.string (str y.m.target),.int .u8 (y.m.kind.toNat:Int),.int .i64 y.m.mode,.int .i64 y.m.uid,.int .i64 y.m.gid,.int .i64 y.m.time,.slice y.p y.m.body.length y.c],.agg #[.string ⟨#[97]⟩,.string ⟨#[]⟩,.int .u8 48,.int .i64 0,.int .i64 0,.int .i64 0,.int .i64 0,.slice p 1 1]] w
  fun e w' => e=.returned (.bool true)∧Below w.heap.size w w':=by
 have:=same_any y.m oneM y.p p y.c 1 w hB.bat hb;rw [show decide (y.m=oneM)=true from decide_eq_true hy] at this
 exact this
theorem goodOne_any (p:Option Addr) (w:World) (hT:Tabs w) :
 Calls Tryz.prog 26 #[.agg #[.string ⟨#[97]⟩,.string ⟨#[]⟩,.int .u8 48,.int .i64 0,.int .i64 0,.int .i64 0,.int .i64 0,.slice p 1 1]] w fun e w' => e=.returned (.bool true)∧Below w.heap.size w w':=by
 have:=memGood_any oneM p 1 w (by decide) (by decide) hT
 rw [show goodD oneM=true by decide +kernel] at this
 exact this
theorem goodZero_any (w:World) (hT:Tabs w) :
 Calls Tryz.prog 26 #[.agg #[.string ⟨#[]⟩,.string ⟨#[]⟩,.int .u8 0,.int .i64 0,.int .i64 0,.int .i64 0,.int .i64 0,.slice none 0 0]] w fun e w' => e=.returned (.bool false)∧Below w.heap.size w w':=by
 have:=memGood_any zeroM none 0 w (by decide) (by decide) hT
 rw [show goodD zeroM=false by decide +kernel] at this
 exact this
theorem read_zeros:membersD (List.replicate 512 0)=([],2,0):=end_cut startS 512 (by decide) 0
set_option maxHeartbeats 4000000 in
theorem ans08_any (w:World) (hN:Need w):Calls Tryz.prog 10 #[] w fun e w' => e=.returned (.bool true)∧Below w.heap.size w w':=by
 have mk:∀ w:World,(Instr.makeSlice 24 (.int .i64 512) (.int .i64 512)).run Tryz.prog w=.ok (.slice (some ⟨w.heap.size,0,none⟩) 512 512) (w.alloc (.cells (madeCells #[.int .u8 0] 512) 5)):=fun w => by
  obtain ⟨i0,hi0,hz0,hz1,hz2⟩:=info_parts infoU8;have h:=run_makeSlice (P:=Tryz.prog) w 24 5 i0 (.int .u8 0) Tryz.underlying24 hi0 hz0 .i64 .i64 512 512 (by decide) (by decide) (by rw [hz1];decide) (by rw [hz2];decide) (by decide)
  rw [hz1] at h;exact h
 have HN:=Lib.hid hN;clear hN
 go_enter Tryz.func10,Tryz.ntmps10
 go_wp2_with fail
 refine (one_any _).mono ?_
 rintro e w1 ⟨p1,rfl,hb1,hbt1⟩;have HM:Hid (MemsAt (w1.alloc (.cells #[.string ⟨#[97]⟩,.string ⟨#[]⟩,.int .u8 48,.int .i64 0,.int .i64 0,.int .i64 0,.int .i64 0,.slice p1 1 1] 26)) (some ⟨w1.heap.size,0,none⟩) 1 [⟨oneM,p1,1⟩]):=Lib.hid (mems_blk (y:=⟨oneM,p1,1⟩) (Blk.new w1 _ _) ⟨hbt1.below ((Below.refl _ _).alloc (Nat.le_refl _) _),Nat.le_refl 1,(by decide:(1:Nat)≤maxLen)⟩)
 have HB1:=Lib.hid (hb1.alloc hb1.size (.cells #[.string ⟨#[97]⟩,.string ⟨#[]⟩,.int .u8 48,.int .i64 0,.int .i64 0,.int .i64 0,.int .i64 0,.slice p1 1 1] 26));clear hbt1 hb1
 go_wp2_with fail
 refine (rarch_any _ _ 1 1 [⟨oneM,p1,1⟩] HM.out (fun x hx => by rw [List.mem_singleton] at hx;subst hx;exact oneM_good) (by decide)).mono ?_
 rintro e w2 ⟨v2,rfl,ho2,hk2⟩;obtain ⟨p2,c2,rfl,_,_,hb2,_,_⟩:=ho2.slice;have hL:=archD_len (ms:=[oneM]) (fun x hx => by rw [List.mem_singleton] at hx;subst hx;exact oneM_good) (by decide)
 have HB2:=Lib.hid (HB1.out.trans (hk2.below HB1.out.size (fun _ h => h.elim)))
 have hR:=memRead_any w2 p2 _ c2 _ none 0 0 [] hb2 rfl (by show (archD [oneM]).length≤_;omega) (iat_nil _) rfl (by decide) (HN.out.below HB2.out)
 unfold ReadD at hR;rw [show ([⟨oneM,p1,1⟩]:List MP).map MP.m=[⟨oneM,none,0⟩].map MP.m from rfl,read_oneM] at hR
 have HR:=Lib.hid hR;clear hR hL hk2 hb2 ho2
 go_wp2_with fail
 refine HR.out.mono ?_
 rintro e w3 ⟨p3,c3,xs3,rfl,_,_,hx3,hm3,hb3⟩
 obtain ⟨y,rfl⟩:∃ y,xs3=[y]:=by
  cases xs3 with
  | nil => exact absurd (congrArg List.length hx3) (by simp)
  | cons y t =>
    cases t with
    | nil => exact ⟨y,rfl⟩
    | cons _ _ => exact absurd (congrArg List.length hx3) (by simp)
 have HY:Hid (y.m=oneM):=Lib.hid (by simpa using hx3)
 obtain ⟨b3,o3,rfl,hbw3,hBd3,hc3⟩:=hm3.cells8 (i:=0) (by show 0 < 1;decide)
 have HC3:Hid (Cells8 w3 b3 o3 y):=Lib.hid (by simpa using hc3)
 have HBd3:Hid (BodyAt w3 y):=Lib.hid (by simpa using hBd3)
 have HW3:=Lib.hid hbw3;have HB3:=Lib.hid (HB2.out.trans (hb3.mono HB2.out.size));clear hx3 hm3 hb3 hBd3 hc3 hbw3 HR
 go_wp2_with fail
 have HB4:Hid (Below w.heap.size w ((w3.alloc (.cells #[.int .i64 0,.int .i64 0] 44)).alloc (.cells (madeCells #[.int .u8 0] 512) 5))):=Lib.hid ((HB3.out.alloc HB3.out.size _).alloc (HB3.out.alloc HB3.out.size _).size _);have hz4:(w3.alloc (.cells #[.int .i64 0,.int .i64 0] 44)).heap.size=w3.heap.size+1:=by simp
 have hr4:=(rowB_made (w3.alloc (.cells #[.int .i64 0,.int .i64 0] 44)) 512).bat;rw [hz4,List.length_replicate] at hr4;have hR4:=memRead_any _ (some ⟨w3.heap.size+1,0,none⟩) 512 512 (List.replicate 512 0) none 0 0 [] hr4 (List.length_replicate ..) (by decide) (iat_nil _) rfl (by decide) (HN.out.below HB4.out)
 unfold ReadD at hR4;rw [read_zeros] at hR4;have hF4:Blk ((w3.alloc (.cells #[.int .i64 0,.int .i64 0] 44)).alloc (.cells (madeCells #[.int .u8 0] 512) 5)) w3.heap.size 44 #[.int .i64 0,.int .i64 0]:=(Blk.new w3 _ _).below ((Below.refl _ _).alloc (Nat.le_refl _) _) (Blk.new w3 _ _).lt;have h34:Below w3.heap.size w3 ((w3.alloc (.cells #[.int .i64 0,.int .i64 0] 44)).alloc (.cells (madeCells #[.int .u8 0] 512) 5)):=((Below.refl _ w3).alloc (Nat.le_refl _) _).alloc ((Below.refl _ w3).alloc (Nat.le_refl _) _).size _;obtain ⟨w4,hw4⟩:∃ w4,(w3.alloc (.cells #[.int .i64 0,.int .i64 0] 44)).alloc (.cells (madeCells #[.int .u8 0] 512) 5)=w4:=⟨_,rfl⟩
 rw [hw4] at HB4 hR4 hF4 h34 ⊢;clear hw4 hr4 hz4;refine hR4.mono ?_
 rintro e w5 ⟨p5,c5,xs5,rfl,_,_,hx5,_,hb5⟩;obtain rfl:xs5=[]:=by simpa using hx5
 go_upto_region 3 with fail
 obtain ⟨w6,hw6⟩:∃ w6,w5.alloc (.cells #[.int .i64 2,.int .i64 0] 44)=w6:=⟨_,rfl⟩;have h56:Below w5.heap.size w5 w6:=by rw [← hw6];exact (Below.refl _ _).alloc (Nat.le_refl _) _
 have hG6:Blk w6 w5.heap.size 44 #[.int .i64 2,.int .i64 0]:=by rw [← hw6];exact Blk.new w5 _ _
 have h46:Below w4.heap.size w4 w6:=hb5.trans (h56.mono hb5.size);have h36:Below w3.heap.size w3 w6:=h34.trans (h46.mono h34.size);have hF6:=hF4.below h46 hF4.lt;have HN6:=Lib.hid (HN.out.below (HB4.out.trans (h46.mono HB4.out.size)));have HB6:=Lib.hid (HB4.out.trans (h46.mono HB4.out.size));have HC6:=HC3.out.below HW3.out h36;have HBd6:=Lib.hid (HBd3.out.below h36);have hW6:b3 < w6.heap.size:=Nat.lt_of_lt_of_le HW3.out h36.size
 have HCC:Hid (∀ w',Below w6.heap.size w6 w' → (w'.cell? ⟨w3.heap.size,0,none⟩=some (.int .i64 0)∧w'.cell? ⟨w5.heap.size,0,none⟩=some (.int .i64 2))∧Cells8 w' b3 o3 y):=Lib.hid (fun w' h =>
  ⟨⟨(hF6.below h hF6.lt).cell 0,(hG6.below h hG6.lt).cell 0⟩,HC6.below hW6 h⟩)
 unfold Cells8 at HCC;have HBB:Hid (Below w6.heap.size w6 w6.drew):=Lib.hid (below_drewN (Below.refl w6.heap.size w6) 1);have MARK:Hid (0=0):=Lib.hid rfl;rw [hw6];clear hw6 h56 hG6 h46 h36 hF6 HC6 hW6 hb5 hF4 h34 hx5 hR4 HN HC3 HM HB1 HB2 HB3
 go_region_held3 (fun w' => (w'.cell? ⟨w3.heap.size,0,none⟩=some (.int .i64 0)∧w'.cell? ⟨w5.heap.size,0,none⟩=some (.int .i64 2))∧(w'.cell? ⟨b3,o3,none⟩=some (.string (str y.m.path))∧w'.cell? ⟨b3,o3+1,none⟩=some (.string (str y.m.target))∧w'.cell? ⟨b3,o3+2,none⟩=some (.int .u8 (y.m.kind.toNat:Int))∧w'.cell? ⟨b3,o3+3,none⟩=some (.int .i64 y.m.mode)∧w'.cell? ⟨b3,o3+4,none⟩=some (.int .i64 y.m.uid)∧w'.cell? ⟨b3,o3+5,none⟩=some (.int .i64 y.m.gid)∧w'.cell? ⟨b3,o3+6,none⟩=some (.int .i64 y.m.time)∧w'.cell? ⟨b3,o3+7,none⟩=some (.slice y.p y.m.body.length y.c))) (exact HCC.out _ HBB.out) (first
  | (go_at_call 24
     refine (one_any _).mono ?_
     rintro e wa ⟨pa,rfl,hba,hbt⟩;have HBT:=Lib.hid hbt;have HBB:=Lib.hid (HBB.out.trans (hba.mono HBB.out.size))
     clear hba hbt)
  | (go_at_call 25
     refine (sameOne_any y HY.out _ (HBd6.out.below HBB.out) _ HBT.out).mono ?_
     rintro e wa ⟨rfl,hba⟩;have HBB:=Lib.hid (HBB.out.trans (hba.mono HBB.out.size))
     clear hba)
  | (go_at_call 26
     clear MARK;refine (goodOne_any _ _ (HN6.out.below HBB.out).tabs).mono ?_
     rintro e wa ⟨rfl,hba⟩;have HBB:=Lib.hid (HBB.out.trans (hba.mono HBB.out.size))
     clear hba)
  | (go_at_call 26
     refine (goodZero_any _ (HN6.out.below HBB.out).tabs).mono ?_
     rintro e wa ⟨rfl,hba⟩;have HBB:=Lib.hid (HBB.out.trans (hba.mono HBB.out.size))
     clear hba))
 all_goals
  have HF:=Lib.hid (HB6.out.trans (HBB.out.mono HB6.out.size))
  go_wp2
  go_ret
  exact ⟨rfl,HF.out⟩
end Go.Proofs.YtnpkcneojilmkaaGreatDoor.Mem
end
section
namespace Go.Proofs.YtnpkcneojilmkaaGreatDoor.Mem
open Go.ChangeShapes Go.WideShapes Go.ChangeAt Go.RowKit Go.Shelf Base Byt Txt Bk Hp Head Go.Proofs.YtnpkcneojilmkaaGreatDoor.Mp Block Go.Lib
set_option linter.unusedVariables false
set_option maxRecDepth 100000
theorem gnu_bs (w:World) (a b:ByteArray) (k m u g t:Int) (p:Option Addr) (l c:Nat):(Instr.buildSlice 32 1 #[(0,.agg #[.string a,.string b,.int .u8 k,.int .i64 m,.int .i64 u,.int .i64 g,.int .i64 t,.slice p l c])]).run Tryz.prog w=.ok (.slice (some ⟨w.heap.size,0,none⟩) 1 1) (w.alloc (.cells #[.string a,.string b,.int .u8 k,.int .i64 m,.int .i64 u,.int .i64 g,.int .i64 t,.slice p l c] 26)):=by kernel_rfl
noncomputable def gnu12Ops:Array Oper:=regionAt Tryz.f3 12
structure gnu12G where
 v1:Value
 vp:Value
 v2:Value
 nb:Nat
def gnu12V (gx:Nat) (v0:Value) (x:MP) (γ:gnu12G):Nat → Value
 | 0 => v0 | 1 => .slice (some ⟨gx,0,none⟩) 512 512 | 2 => γ.v1 | 3 => .agg x.cs | 4 => .slice (some ⟨γ.nb,0,none⟩) 1 1 | 5 => γ.vp | 6 => γ.v2 | 7 => γ.v2 | _ => undef
theorem gnu12_size:gnu12Ops.size=8:=rfl
theorem gnu12_apart:apartG gnu12Ops 135=true:=by kernel_rfl
theorem gnu12_dst0:dstAt gnu12Ops 0=some 89:=rfl
theorem gnu12_op0:∃ o,gnu12Ops[0]? = some o∧o.op=.move (.tmp 11)∧o.dst=some 89:=⟨_,rfl,rfl,rfl⟩
theorem gnu12_dst1:dstAt gnu12Ops 1=some 90:=rfl
theorem gnu12_op1:∃ o,gnu12Ops[1]? = some o∧o.op=.move (.tmp 15)∧o.dst=some 90:=⟨_,rfl,rfl,rfl⟩
theorem gnu12_dst2:dstAt gnu12Ops 2=some 91:=rfl
theorem gnu12_op2:∃ o,gnu12Ops[2]? = some o∧o.op=.call { callee:=.builtin .append,args:=#[.tmp 89,.tmp 90],argTypes:=#[24,24] }∧o.dst=some 91:=⟨_,rfl,rfl,rfl⟩
theorem gnu12_dst3:dstAt gnu12Ops 3=some 92:=rfl
theorem gnu12_op3:∃ o,gnu12Ops[3]? = some o∧o.op=.load 26 (.tmp 7)∧o.dst=some 92:=⟨_,rfl,rfl,rfl⟩
theorem gnu12_dst4:dstAt gnu12Ops 4=some 93:=rfl
theorem gnu12_op4:∃ o,gnu12Ops[4]? = some o∧o.op=.buildSlice 32 1 #[(0,.tmp 92)]∧o.dst=some 93:=⟨_,rfl,rfl,rfl⟩
theorem gnu12_dst5:dstAt gnu12Ops 5=some 94:=rfl
theorem gnu12_op5:∃ o,gnu12Ops[5]? = some o∧o.op=.call { callee:=.value (.func 14),args:=#[.tmp 93],argTypes:=#[32] }∧o.dst=some 94:=⟨_,rfl,rfl,rfl⟩
theorem gnu12_dst6:dstAt gnu12Ops 6=some 95:=rfl
theorem gnu12_op6:∃ o,gnu12Ops[6]? = some o∧o.op=.call { callee:=.builtin .append,args:=#[.tmp 91,.tmp 94],argTypes:=#[24,24] }∧o.dst=some 95:=⟨_,rfl,rfl,rfl⟩
theorem gnu12_dst7:dstAt gnu12Ops 7=some 11:=rfl
theorem gnu12_op7:∃ o,gnu12Ops[7]? = some o∧o.op=.assign (.tmp 95)∧o.dst=some 11:=⟨_,rfl,rfl,rfl⟩
theorem gnu12V_v1 (gx:Nat) (v0:Value) (x:MP) (γ:gnu12G) (y:Value) {i:Nat} (h:i≠2):gnu12V gx v0 x { γ with v1:=y } i=gnu12V gx v0 x γ i:=by
 unfold gnu12V
 split<;>first | rfl | (exfalso;omega)
theorem gnu12V_vp (gx:Nat) (v0:Value) (x:MP) (γ:gnu12G) (y:Value) {i:Nat} (h:i≠5):gnu12V gx v0 x { γ with vp:=y } i=gnu12V gx v0 x γ i:=by
 unfold gnu12V
 split<;>first | rfl | (exfalso;omega)
theorem gnu12V_v2 (gx:Nat) (v0:Value) (x:MP) (γ:gnu12G) (y:Value) {i:Nat} (h:i≠6∧i≠7):gnu12V gx v0 x { γ with v2:=y } i=gnu12V gx v0 x γ i:=by
 unfold gnu12V
 split<;>first | rfl | (exfalso;omega)
theorem gnu12V_nb (gx:Nat) (v0:Value) (x:MP) (γ:gnu12G) (y:Nat) {i:Nat} (h:i≠4):gnu12V gx v0 x { γ with nb:=y } i=gnu12V gx v0 x γ i:=by
 unfold gnu12V
 split<;>first | rfl | (exfalso;omega)
structure W12 (w:World) (B bm:Nat) (x:MP) (v0:Value) (X Y P:List UInt8) (w1:World) (γ:gnu12G) (listed:Array Bool) (w':World):Prop where
 bel:Below w.heap.size w w'
 le:w1.heap.size≤w'.heap.size
 mem:Blk w' bm 26 x.cs
 bod:BodyAt w' x
 ysrc:listed.getD 2 false=false → ∀ b o,BAt w1 (some ⟨b,o,none⟩) 512 Y → (∀ k,v0.ownBlock=some k → k≠b) → BAt w' (some ⟨b,o,none⟩) 512 Y
 o0:listed.getD 2 false=false → OwnB w' B v0 X.length X
 o1:listed.getD 2 false=true → listed.getD 6 false=false → OwnB w' B γ.v1 (X++Y).length (X++Y)
 lit:listed.getD 4 false=true → listed.getD 5 false=false → Blk w' γ.nb 26 x.cs∧w1.heap.size≤γ.nb
 pd:listed.getD 5 false=true → listed.getD 6 false=false → OwnB w' w1.heap.size γ.vp P.length P
 fin:listed.getD 6 false=true → OwnB w' B γ.v2 ((X++Y)++P).length ((X++Y)++P)
 c6:listed.getD 6 false=true → listed.getD 2 false=true∧listed.getD 5 false=true
 c2:listed.getD 2 false=true → listed.getD 0 false=true
theorem W12.keep {w w1 w':World} {B bm:Nat} {x:MP} {v0:Value} {X Y P:List UInt8} {γ:gnu12G} {listed:Array Bool} (hW:W12 w B bm x v0 X Y P w1 γ listed w') {j:Nat} (hlt:j < listed.size) (hj:j≠2∧j≠4∧j≠5∧j≠6):W12 w B bm x v0 X Y P w1 γ (listed.setIfInBounds j true) w':=by
 have e2:(listed.setIfInBounds j true).getD 2 false=listed.getD 2 false:=by rw [listed_get hlt,if_neg (by omega)]
 have e4:(listed.setIfInBounds j true).getD 4 false=listed.getD 4 false:=by rw [listed_get hlt,if_neg (by omega)]
 have e5:(listed.setIfInBounds j true).getD 5 false=listed.getD 5 false:=by rw [listed_get hlt,if_neg (by omega)]
 have e6:(listed.setIfInBounds j true).getD 6 false=listed.getD 6 false:=by rw [listed_get hlt,if_neg (by omega)]
 exact ⟨hW.bel,hW.le,hW.mem,hW.bod,by rw [e2];exact hW.ysrc,by rw [e2];exact hW.o0,by rw [e2,e6];exact hW.o1,by rw [e4,e5];exact hW.lit,by rw [e5,e6];exact hW.pd,by rw [e6];exact hW.fin,by rw [e2,e5,e6];exact hW.c6,fun hx => (by rw [e2] at hx;rw [listed_get hlt];split;rfl;exact hW.c2 hx)⟩
set_option maxHeartbeats 4000000 in
theorem gnu12_region {Q':Exit → Act → World → Prop} {a0:Act} {w w1:World} (B bm gx:Nat) (v0:Value) (X Y:List UInt8) (x:MP)
 (hsz:135≤a0.tmps.size) (h11:a0.eval (.tmp 11)=v0) (h15:a0.eval (.tmp 15)=.slice (some ⟨gx,0,none⟩) 512 512) (h7:a0.eval (.tmp 7)=.pointer (some ⟨bm,0,none⟩))
 (hb1:Below w.heap.size w w1) (hmem:Blk w1 bm 26 x.cs) (hbod:BodyAt w x) (hv0:OwnB w1 B v0 X.length X) (hB:bm < B) (hBw:B≤w1.heap.size) (hwB:w.heap.size≤B) (hy:BAt w1 (some ⟨gx,0,none⟩) 512 Y) (hyl:Y.length=512) (hyb:∀ k,v0.ownBlock=some k → k≠gx)
 (hg:GoodM x.m) (hX:X.length≤10000000)
 (hQ:∀ (γ:gnu12G) w',OwnB w' B γ.v2 ((X++Y)++archD [x.m]).length ((X++Y)++archD [x.m]) → Below w.heap.size w w' → Blk w' bm 26 x.cs → Q' .normal ((((((((a0.put (some 89) (v0)).put (some 90) (.slice (some ⟨gx,0,none⟩) 512 512)).put (some 91) (γ.v1)).put (some 92) (.agg x.cs)).put (some 93) (.slice (some ⟨γ.nb,0,none⟩) 1 1)).put (some 94) (γ.vp)).put (some 95) (γ.v2)).put (some 11) (γ.v2)) w') :
 wpAny Tryz.prog .any gnu12Ops Q' gnu12Ops.size (Array.replicate gnu12Ops.size false) a0 w1.drew:=by
 have no:∀ j,(Array.replicate gnu12Ops.size false).getD j false=false:=fun j => by
  rw [Array.getD_eq_getD_getElem?,Array.getElem?_replicate]
  split<;>rfl
 have hpl:(archD [x.m]).length≤4000000:=by
  have h1:=putM_len hg;rw [archD_eq,List.length_append,List.length_replicate,putAllM_cons,List.length_append];show (putM x.m).length+0+1024≤_;omega
 obtain ⟨P,hP⟩:∃ P,archD [x.m]=P:=⟨_,rfl⟩;rw [hP] at hQ hpl;refine wpAny_ghost (Γ:=gnu12G) (gnu12V gx v0 x) { v1:=undef,vp:=undef,v2:=undef,nb:=0 } a0 (fun γ listed w' => W12 w B bm x v0 X Y P w1 γ listed w'∧(listed.getD 7 false=true → listed.getD 6 false=true)) 135 gnu12_apart hsz ?_ ?_ ?_
 ·intro γ listed a w' j o hRI ho hun hdep
  have hlt:=lt_of_unlisted hun;have hW:=hRI.wd.1
  have hj:j < 8:=by
   have:=(Array.getElem?_eq_some_iff.1 ho).1
   rwa [gnu12_size] at this
  have same:∀ {j':Nat} {o':Oper},gnu12Ops[j']? = some o' → j=j' → o'=o:=fun {j' o'} h' e => by subst e;exact Option.some.inj (h'.symm.trans ho)
  have hlf:=getD_flip hun;have hne:∀ i,listed.getD i false=true → i≠j:=fun i hi e => by rw [e,hlf] at hi;cases hi
  have h67:∀ {k:Nat},k≠7 → k=j → ((listed.setIfInBounds j true).getD 7 false=true → (listed.setIfInBounds j true).getD 6 false=true):=fun {k} hk e hx => by
   subst e;rw [listed_get hlt,if_neg (fun e => hk e.symm)] at hx
   rw [listed_get hlt]
   split
   ·rfl
   ·exact hRI.wd.2 hx
  rcases (show j=0 ∨ j=1 ∨ j=2 ∨ j=3 ∨ j=4 ∨ j=5 ∨ j=6 ∨ j=7 by omega) with rfl | rfl | rfl | rfl | rfl | rfl | rfl | rfl
  ·obtain ⟨o',ho',hop,hdst⟩:=gnu12_op0
   obtain rfl:=same ho' rfl
   have e0:a.eval (.tmp 11)=v0:=(hRI.same 11 (fun j' o'' h1 h2 => by
    obtain ⟨o7,ho7,_,hd7⟩:=gnu12_op7;obtain rfl:=((apartG_spec gnu12_apart 7 o7 ho7).2.2 11 hd7).2 j' o'' h1 h2
    cases hx:listed.getD 7 false with
    | false => rfl
    | true => have:=hW.c2 (hW.c6 (hRI.wd.2 hx)).1;rw [hlf] at this;cases this)).trans h11
   exact wp_move _ _ (Or.inl hop) e0 ⟨γ,fun _ _ => rfl,rfl,hW.keep hlt (by decide),h67 (by decide) rfl⟩
  ·obtain ⟨o',ho',hop,hdst⟩:=gnu12_op1
   obtain rfl:=same ho' rfl;have e0:a.eval (.tmp 15)=.slice (some ⟨gx,0,none⟩) 512 512:=(hRI.old (t:=15) (by kernel_rfl)).trans h15
   exact wp_move _ _ (Or.inl hop) e0 ⟨γ,fun _ _ => rfl,rfl,hW.keep hlt (by decide),h67 (by decide) rfl⟩
  ·obtain ⟨o',ho',hop,hdst⟩:=gnu12_op2
   obtain rfl:=same ho' rfl;have x0:a.eval (.tmp 89)=v0:=(hRI.get ho hdep (i:=0) (d:=89) (by kernel_rfl) rfl)
   have x1:a.eval (.tmp 90)=.slice (some ⟨gx,0,none⟩) 512 512:=(hRI.get ho hdep (i:=1) (d:=90) (by kernel_rfl) rfl)
   have e2:(listed.setIfInBounds 2 true).getD 2 false=true:=by rw [listed_get hlt,if_pos rfl]
   have e4:(listed.setIfInBounds 2 true).getD 4 false=listed.getD 4 false:=by rw [listed_get hlt,if_neg (by decide)]
   have e5:(listed.setIfInBounds 2 true).getD 5 false=listed.getD 5 false:=by rw [listed_get hlt,if_neg (by decide)]
   have e6:(listed.setIfInBounds 2 true).getD 6 false=listed.getD 6 false:=by rw [listed_get hlt,if_neg (by decide)]
   have hy':=hW.ysrc hlf gx 0 hy hyb;have dep02:listed.getD 0 false=true:=dep_listed ho hdep (by kernel_rfl)
   have n6:listed.getD 6 false=false:=by
    cases hx:listed.getD 6 false with
    | false => rfl
    | true => have:=(hW.c6 hx).1;rw [hlf] at this;cases this
   refine wp_append_bytes _ _ hop B v0 X x0 (hW.o0 hlf) (some ⟨gx,0,none⟩) 512 512 Y x1 hy' hyl (by omega) (Nat.le_trans hBw hW.le) (fun v' w2 g1 g2 g3 => ⟨{ γ with v1:=v' },fun i hi => gnu12V_v1 _ _ _ _ _ (hne i hi),rfl,?_,h67 (by decide) rfl⟩)
   have hk:Kept (fun k => v0.ownBlock=some k) w' w2:=(Kept.refl _ w').grown g2 (fun k hk => .inr hk)
   have hbw:Below w.heap.size w w2:=hW.bel.trans (hk.below hW.bel.size (fun k hk => Nat.le_trans hwB (hv0.lt k hk).1))
   refine ⟨hbw,Nat.le_trans hW.le hk.size,hW.mem.keptS hk (fun e => by have:=(hv0.lt _ e).1;omega),hbod.below hbw,fun hx => (by rw [e2] at hx;cases hx),fun hx => (by rw [e2] at hx;cases hx),fun _ _ => g1,fun h4 h5 => ?_,fun hx _ => ?_,fun hx => (by rw [e6,n6] at hx;cases hx),fun hx => (by rw [e6,n6] at hx;cases hx),fun _ => (by rw [listed_get hlt,if_neg (by decide)];exact dep02)⟩
   ·rw [e4] at h4
    rw [e5] at h5;obtain ⟨l1,l2⟩:=hW.lit h4 h5;exact ⟨l1.keptS hk (fun e => by have:=(hv0.lt _ e).2;omega),l2⟩
   ·rw [e5] at hx
    exact (hW.pd hx n6).kept hk (fun k hk e => by have h1:=((hW.pd hx n6).lt k hk).1;have h2:=(hv0.lt k e).2;omega)
  ·obtain ⟨o',ho',hop,hdst⟩:=gnu12_op3
   obtain rfl:=same ho' rfl;have e0:a.eval (.tmp 7)=.pointer (some ⟨bm,0,none⟩):=(hRI.old (t:=7) (by kernel_rfl)).trans h7
   have y0:w'.cell? ⟨bm,0,none⟩=some (.string (str x.m.path)):=hW.mem.cell 0;have y1:w'.cell? ⟨bm,1,none⟩=some (.string (str x.m.target)):=hW.mem.cell 1;have y2:w'.cell? ⟨bm,2,none⟩=some (.int .u8 (x.m.kind.toNat:Int)):=hW.mem.cell 2;have y3:w'.cell? ⟨bm,3,none⟩=some (.int .i64 x.m.mode):=hW.mem.cell 3;have y4:w'.cell? ⟨bm,4,none⟩=some (.int .i64 x.m.uid):=hW.mem.cell 4;have y5:w'.cell? ⟨bm,5,none⟩=some (.int .i64 x.m.gid):=hW.mem.cell 5;have y6:w'.cell? ⟨bm,6,none⟩=some (.int .i64 x.m.time):=hW.mem.cell 6;have y7:w'.cell? ⟨bm,7,none⟩=some (.slice x.p x.m.body.length x.c):=hW.mem.cell 7
   refine wp_run _ ?_ ⟨γ,fun _ _ => rfl,rfl,hW.keep hlt (by decide),h67 (by decide) rfl⟩
   generalize a.eval=ev at e0 ⊢;simp [go_sem,execOp,hop,e0,y0,y1,y2,y3,y4,y5,y6,y7,gnu12V,MP.cs,memC]
  ·obtain ⟨o',ho',hop,hdst⟩:=gnu12_op4
   obtain rfl:=same ho' rfl;have x0:a.eval (.tmp 92)=.agg x.cs:=(hRI.get ho hdep (i:=3) (d:=92) (by kernel_rfl) rfl)
   have e2:(listed.setIfInBounds 4 true).getD 2 false=listed.getD 2 false:=by rw [listed_get hlt,if_neg (by decide)]
   have e4:(listed.setIfInBounds 4 true).getD 4 false=true:=by rw [listed_get hlt,if_pos rfl]
   have e5:(listed.setIfInBounds 4 true).getD 5 false=listed.getD 5 false:=by rw [listed_get hlt,if_neg (by decide)]
   have e6:(listed.setIfInBounds 4 true).getD 6 false=listed.getD 6 false:=by rw [listed_get hlt,if_neg (by decide)]
   have q:=gnu_bs w' (str x.m.path) (str x.m.target) (x.m.kind.toNat:Int) x.m.mode x.m.uid x.m.gid x.m.time x.p x.m.body.length x.c
   have hr:(execOp a.eval o').run Tryz.prog w'=.ok (.value (.slice (some ⟨w'.heap.size,0,none⟩) 1 1)) (w'.alloc (.cells x.cs 26)):=by
    unfold MP.cs memC at x0 ⊢;simp [execOp,hop,x0,q,Result.andThen]
   have hba:Below w'.heap.size w' (w'.alloc (.cells x.cs 26)):=(Below.refl _ w').alloc (Nat.le_refl _) _;have hkn:Kept noneB w' (w'.alloc (.cells x.cs 26)):=Kept.of_below hba noneB;unfold Oper.wp;rw [hr,Oper.upon_value];refine ⟨{ γ with nb:=w'.heap.size },fun i hi => gnu12V_nb _ _ _ _ _ (hne i hi),rfl,?_,h67 (by decide) rfl⟩
   refine ⟨hW.bel.trans (hba.mono hW.bel.size),Nat.le_trans hW.le hba.size,hW.mem.keptS hkn id,hW.bod.below hba,fun hx b o h1 h2 => ?_,fun hx => ?_,fun hx h6 => ?_,fun _ _ => ⟨Blk.new w' _ _,hW.le⟩,fun hx h6 => ?_,fun hx => ?_,fun hx => ?_,fun hx => (by rw [e2] at hx;rw [listed_get hlt];split;rfl;exact hW.c2 hx)⟩
   ·rw [e2] at hx
    exact (hW.ysrc hx b o h1 h2).kept hkn (fun _ _ _ => id)
   ·rw [e2] at hx
    exact (hW.o0 hx).kept hkn (fun _ _ => id)
   ·rw [e2] at hx
    rw [e6] at h6;exact (hW.o1 hx h6).kept hkn (fun _ _ => id)
   ·rw [e5] at hx
    rw [e6] at h6;exact (hW.pd hx h6).kept hkn (fun _ _ => id)
   ·rw [e6] at hx
    exact (hW.fin hx).kept hkn (fun _ _ => id)
   ·rw [e6] at hx
    rw [e2,e5];exact hW.c6 hx
  ·obtain ⟨o',ho',hop,hdst⟩:=gnu12_op5
   obtain rfl:=same ho' rfl;have x0:a.eval (.tmp 93)=.slice (some ⟨γ.nb,0,none⟩) 1 1:=(hRI.get ho hdep (i:=4) (d:=93) (by kernel_rfl) rfl)
   have e2:(listed.setIfInBounds 5 true).getD 2 false=listed.getD 2 false:=by rw [listed_get hlt,if_neg (by decide)]
   have e4:(listed.setIfInBounds 5 true).getD 4 false=listed.getD 4 false:=by rw [listed_get hlt,if_neg (by decide)]
   have e5:(listed.setIfInBounds 5 true).getD 5 false=true:=by rw [listed_get hlt,if_pos rfl]
   have e6:(listed.setIfInBounds 5 true).getD 6 false=listed.getD 6 false:=by rw [listed_get hlt,if_neg (by decide)]
   have l4:listed.getD 4 false=true:=dep_listed ho hdep (by kernel_rfl)
   have n6:listed.getD 6 false=false:=by
    cases hx:listed.getD 6 false with
    | false => rfl
    | true => have:=(hW.c6 hx).2;rw [hlf] at this;cases this
   have hcall:=rarch_any w' (some ⟨γ.nb,0,none⟩) 1 1 [x] (mems_blk (hW.lit l4 hlf).1 hW.bod) (fun y hy => by rw [List.mem_singleton.1 hy];exact hg) (by decide)
   rw [show ([x]:List MP).map MP.m=[x.m] from rfl,hP] at hcall
   refine wp_callE _ _ _ hop #[.slice (some ⟨γ.nb,0,none⟩) 1 1] (by simp [x0]) (enters_of Tryz.func14 (by kernel_rfl) rfl) (fun v w2 => OwnB w2 w'.heap.size v P.length P∧Kept noneB w' w2) (hcall.mono fun e w2 he => by obtain ⟨v,rfl,g1,g2⟩:=he;exact ⟨v,rfl,g1,g2⟩) (fun v w2 hR => ⟨{ γ with vp:=v },fun i hi => gnu12V_vp _ _ _ _ _ (hne i hi),rfl,?_,h67 (by decide) rfl⟩)
   obtain ⟨g1,g2⟩:=hR;have hbw:Below w.heap.size w w2:=hW.bel.trans (g2.below hW.bel.size (fun _ h => h.elim))
   refine ⟨hbw,Nat.le_trans hW.le g2.size,hW.mem.keptS g2 id,hbod.below hbw,fun hx b o h1 h2 => ?_,fun hx => ?_,fun hx _ => ?_,fun _ h5 => (by rw [e5] at h5;cases h5),fun _ _ => g1.mono hW.le,fun hx => (by rw [e6,n6] at hx;cases hx),fun hx => (by rw [e6,n6] at hx;cases hx),fun hx => (by rw [e2] at hx;rw [listed_get hlt];split;rfl;exact hW.c2 hx)⟩
   ·rw [e2] at hx
    exact (hW.ysrc hx b o h1 h2).kept g2 (fun _ _ _ => id)
   ·rw [e2] at hx
    exact (hW.o0 hx).kept g2 (fun _ _ => id)
   ·rw [e2] at hx
    exact (hW.o1 hx n6).kept g2 (fun _ _ => id)
  ·obtain ⟨o',ho',hop,hdst⟩:=gnu12_op6
   obtain rfl:=same ho' rfl;have x0:a.eval (.tmp 91)=γ.v1:=(hRI.get ho hdep (i:=2) (d:=91) (by kernel_rfl) rfl)
   have x1:a.eval (.tmp 94)=γ.vp:=(hRI.get ho hdep (i:=5) (d:=94) (by kernel_rfl) rfl)
   have e2:(listed.setIfInBounds 6 true).getD 2 false=listed.getD 2 false:=by rw [listed_get hlt,if_neg (by decide)]
   have e4:(listed.setIfInBounds 6 true).getD 4 false=listed.getD 4 false:=by rw [listed_get hlt,if_neg (by decide)]
   have e5:(listed.setIfInBounds 6 true).getD 5 false=listed.getD 5 false:=by rw [listed_get hlt,if_neg (by decide)]
   have e6:(listed.setIfInBounds 6 true).getD 6 false=true:=by rw [listed_get hlt,if_pos rfl]
   have l2:listed.getD 2 false=true:=dep_listed ho hdep (by kernel_rfl)
   have l5:listed.getD 5 false=true:=dep_listed ho hdep (by kernel_rfl)
   obtain ⟨pp,pc,hvp,_,_,hpb,_,_⟩:=(hW.pd l5 hlf).slice;rw [hvp] at x1;have hlxy:(X++Y).length≤20000000:=by rw [List.length_append];omega
   have ho1:=hW.o1 l2 hlf;refine wp_append_bytes _ _ hop B γ.v1 (X++Y) x0 ho1 pp P.length pc P x1 hpb rfl (by omega) (Nat.le_trans hBw hW.le) (fun v' w2 g1 g2 g3 => ⟨{ γ with v2:=v' },fun i hi => gnu12V_v2 _ _ _ _ _ ⟨hne i hi,fun e => ?_⟩,rfl,?_,fun _ => by rw [listed_get hlt,if_pos rfl]⟩)
   ·subst e
    rw [hRI.wd.2 hi] at hlf
    cases hlf
   have hk:Kept (fun k => γ.v1.ownBlock=some k) w' w2:=(Kept.refl _ w').grown g2 (fun k hk => .inr hk)
   have hbw:Below w.heap.size w w2:=hW.bel.trans (hk.below hW.bel.size (fun k hk => Nat.le_trans hwB (ho1.lt k hk).1))
   exact ⟨hbw,Nat.le_trans hW.le hk.size,hW.mem.keptS hk (fun e => by have:=(ho1.lt _ e).1;omega),hbod.below hbw,fun hx => (by rw [e2,l2] at hx;cases hx),fun hx => (by rw [e2,l2] at hx;cases hx),fun _ hx => (by rw [e6] at hx;cases hx),fun _ h5 => (by rw [e5,l5] at h5;cases h5),fun _ hx => (by rw [e6] at hx;cases hx),fun _ => g1,fun _ => ⟨by rw [e2];exact l2,by rw [e5];exact l5⟩,fun hx => (by rw [e2] at hx;rw [listed_get hlt];split;rfl;exact hW.c2 hx)⟩
  ·obtain ⟨o',ho',hop,hdst⟩:=gnu12_op7
   obtain rfl:=same ho' rfl;have e0:a.eval (.tmp 95)=γ.v2:=(hRI.get ho hdep (i:=6) (d:=95) (by kernel_rfl) rfl)
   exact wp_move _ _ (Or.inr hop) e0 ⟨γ,fun _ _ => rfl,rfl,hW.keep hlt (by decide),(fun _ => by rw [listed_get hlt,if_neg (by decide)];exact dep_listed ho hdep (by kernel_rfl))⟩
 ·intro γ listed a w' hRI hall
  have all:∀ j,j < 8 → listed.getD j false=true:=fun j hj => hall j (by rw [gnu12_size];exact hj)
  have hW:=hRI.wd.1;rw [done_putAllG 135 gnu12_apart hsz hRI hall,gnu12_size];simp only [putAll,gnu12_dst0,gnu12_dst1,gnu12_dst2,gnu12_dst3,gnu12_dst4,gnu12_dst5,gnu12_dst6,gnu12_dst7,gnu12V];exact hQ γ w' (hW.fin (all 6 (by omega))) hW.bel hW.mem
 ·exact ⟨⟨hb1.drew,Nat.le_refl _,hmem.drew,(hbod.below hb1).below (Below.refl _ _).drew,fun _ b o h1 _ => h1.below (Below.refl _ _).drew,fun _ => hv0.kept ((Kept.refl noneB w1).drew) (fun _ _ => id),fun hx => (by rw [no] at hx;cases hx),fun hx => (by rw [no] at hx;cases hx),fun hx => (by rw [no] at hx;cases hx),fun hx => (by rw [no] at hx;cases hx),fun hx => (by rw [no] at hx;cases hx),fun hx => (by rw [no] at hx;cases hx)⟩,fun hx => (by rw [no] at hx;cases hx)⟩
end Go.Proofs.YtnpkcneojilmkaaGreatDoor.Mem
end
section
namespace Go.Proofs.YtnpkcneojilmkaaGreatDoor.Mem
open Go.ChangeShapes Go.WideShapes Go.ChangeAt Go.RowKit Base Byt Txt Bk Hp Head Num Path Block Attr Rec Go.Lib
set_option linter.unusedVariables false
set_option maxRecDepth 100000
theorem headX_wf (name:List UInt8) (k:UInt8) (n:Nat) (h:n≤1048576):∀ i,(Lit.int .i64 (numH (⟨name,[],k,0,0,0,0,(n:Int),false⟩:HeadV) i)).wf=true:=by
 intro i;unfold numH
 split<;>first | exact wf_i64 (n:=0) (by decide) (by decide) | exact wf_i64 (n:=(n:Int)) (by omega) (by omega)
theorem pad_zero (l:List UInt8):l++List.replicate (blocksOf (l.length+1) - l.length) 0=padB (l++[0]):=by
 have h:=(blocks_ge (l.length+1)).1;rw [padB,List.length_append,List.append_assoc,show ([0]:List UInt8)=List.replicate 1 0 from rfl,List.replicate_append_replicate,List.length_replicate,show 1+(blocksOf (l.length+1) - (l.length+1))=blocksOf (l.length+1) - l.length by omega]
def LongPost (w:World) (bs:List UInt8) (e:Ending) (w':World):Prop:=∃ v,e=.returned v∧OwnB w' w.heap.size v bs.length bs∧Below w.heap.size w w'
set_option maxHeartbeats 4000000 in
theorem rlong_any (K:Int) (k:UInt8) (hK:(k.toNat:Int)=K) (S:ByteArray) (hS:S.size≤1000) (H:List UInt8) (hH:putR ⟨[64],[],k,0,0,0,0,((S.size+1:Nat):Int),false⟩=some H) (hl:H.length=512) (w:World) :
 Calls Tryz.prog 11 #[.int .u8 K,.string S] w (LongPost w (H++padB (S.data.toList++[0]))):=by
 obtain ⟨i0,hi,hz0,hz1,hz2⟩:=info_parts infoU8;have HI:=Lib.hid hi;have HZ0:=Lib.hid hz0;have HZ1:=Lib.hid hz1;have HZ2:=Lib.hid hz2;have HH:=Lib.hid (And.intro hH hl);have hph:=rputH_any ⟨[64],[],k,0,0,0,0,((S.size+1:Nat):Int),false⟩ (headX_wf [64] k (S.size+1) (by omega)) (by show (1:Nat)≤_;decide) (by show (0:Nat)≤_;decide) w
 simp only [hK,hH] at hph;rw [show ((S.size+1:Nat):Int)=(S.size:Int)+1 by omega] at hph
 have HPH:=Lib.hid hph;clear hi hz0 hz1 hz2 hH hl hph;have hdiv:((S.size:Int)+1+511) / 512 * 512 - (S.size:Int)=((blocksOf (S.size+1) - S.size:Nat):Int):=by have:=(blocks_ge (S.size+1)).1;unfold blocksOf at this ⊢;omega
 have hbg:=(blocks_ge (S.size+1)).1;have hbu:=(blocks_ge (S.size+1)).2
 have HPZ:Hid (S.data.toList++List.replicate (blocksOf (S.size+1) - S.size) 0=padB (S.data.toList++[0])):=Lib.hid (by
  have:=pad_zero S.data.toList
  rwa [← size_of] at this)
 obtain ⟨B,hB⟩:∃ B,blocksOf (S.size+1)=B:=⟨_,rfl⟩;rw [hB] at hdiv hbg hbu HPZ;have HPL:Hid ((padB (S.data.toList++[0])).length=B):=Lib.hid (by rw [padB_length,List.length_append,← size_of,← hB];rfl)
 clear hB
 go_enter Tryz.func11,Tryz.ntmps11
 go_wp2_with fail
 refine HPH.out.mono ?_
 rintro e w2 ⟨hk2,(⟨bs,gx,hr,rfl,hrow,hge⟩ | ⟨hr,rfl⟩)⟩
 case inr => cases hr
 obtain rfl:bs=H:=(Option.some.inj hr).symm;have ho2:=ownB_row hrow hge (by rw [HH.out.2];decide)
 rw [HH.out.2] at ho2;have HO2:=Lib.hid ho2;have HB2:=Lib.hid (hk2.below (Nat.le_refl _) (fun _ h => h.elim))
 have cvb:=Lib.run_convert_string_bytes (P:=Tryz.prog) w2 9 24 5 S Tryz.underlying9 Tryz.underlying24 Tryz.underlying5;clear hk2 hr hrow hge ho2 HPH
 go_wp2_with (at_builtin;refine append_str_zeros (P:=Tryz.prog) rfl _ _ 24 3 rfl 5 i0 .i64 .i64 Tryz.underlying24 Tryz.underlying3 HI.out HZ0.out HZ1.out HZ2.out S rfl _ (B - S.size) rfl ?e1 ?e2 ?_)
 case e1 => rfl
 case e2 => omega
 intro p3 c3 w3 hle3 hmx3 hb3 hbel3;have HO3:Hid (OwnB w3 w.heap.size (.slice (some ⟨gx,0,none⟩) 512 512) 512 bs):=Lib.hid (HO2.out.kept (Kept.of_below hbel3 noneB) (fun _ _ => id))
 have HB3:=Lib.hid (HB2.out.trans (hbel3.mono HB2.out.size));rw [HPZ.out] at hb3;have hN:S.size+(B - S.size)=B:=by omega
 rw [hN] at hb3 hle3;rw [hN];obtain ⟨Q,hQ⟩:∃ Q,padB (S.data.toList++[0])=Q:=⟨_,rfl⟩;rw [hQ] at hb3 HPL;have HQ:=Lib.hid hQ;have HBT:=Lib.hid hb3;clear hbel3 hb3 cvb hN hQ HPZ
 go_wp2_with (at_builtin;refine append_bytes rfl _ _ 24 rfl w.heap.size 5 i0 Tryz.underlying24 HI.out HZ0.out HZ1.out HZ2.out (.slice (some ⟨gx,0,none⟩) 512 512) 512 (nums bs) rfl HO3.out p3 B c3 Q rfl HBT.out HPL.out ?d1 HB3.out.size ?_)
 case d1 => omega
 intro v4 w4 hown hgrow
 have HF:Hid (LongPost w (bs++Q) (.returned v4) w4):=Lib.hid (by
  refine ⟨v4,rfl,?_,HB3.out.trans ((((Kept.refl (fun k => w.heap.size≤k) w3).grown hgrow (fun k hk => .inr (HO3.out.lt k hk).1)).below (B:=w.heap.size) HB3.out.size (fun k hk => hk)))⟩
  unfold OwnB;rw [List.length_append,HH.out.2,HPL.out,show nums (bs++Q)=nums bs++nums Q by unfold nums;rw [List.map_append]]
  first | exact hown | (rw [List.map_append];exact hown))
 clear hown hgrow
 go_wp2
 go_ret
 rw [HQ.out];exact HF.out
end Go.Proofs.YtnpkcneojilmkaaGreatDoor.Mem
end
section
namespace Go.Proofs.YtnpkcneojilmkaaGreatDoor.Mem
open Go.ChangeShapes Go.WideShapes Go.ChangeAt Go.RowKit Base Byt Txt Bk Hp Head Num Path Block Rec Go.Lib
set_option linter.unusedVariables false
set_option maxRecDepth 100000
def sumB (ms:List MemV):Nat:=(ms.map fun m => m.body.length).sum
def goodL (ms:List MemV):Bool:=decide (ms.length≤60) && (ms.all goodD && decide (sumB ms≤100000))
theorem sumB_snoc (ms:List MemV) (m:MemV):sumB (ms++[m])=sumB ms+m.body.length:=by simp [sumB]
theorem goodL_facts {ms:List MemV} (h:goodL ms=true):ms.length≤60∧(∀ m ∈ ms,GoodM m)∧sumB ms≤100000:=by
 simp only [goodL,Bool.and_eq_true,decide_eq_true_eq,List.all_eq_true] at h;exact ⟨h.1,fun m hm => good_facts (h.2.1 m hm),h.2.2⟩
set_option maxHeartbeats 4000000 in
theorem lgood_any (p:Option Addr) (n c:Nat) (xs:List MP) (w:World) (hM:MemsAt w p n xs) (hR:∀ x ∈ xs,x.m.path.length≤140737488351232∧x.m.target.length≤140737488351232) :
 Calls Tryz.prog 9 #[.slice p n c] w fun e w' => e=.returned (.bool (goodL (xs.map MP.m)))∧Below w.heap.size w w':=by
 have HM:=Lib.hid hM;have HL:=Lib.hid hM.1;have HR:=Lib.hid hR;clear hM hR
 go_enter Tryz.func9,Tryz.ntmps9
 go_wp2_with fail
 go_loopw [3,4] (fun s i wr => ∃ (k S:Nat),k≤n∧i=.int .i64 (k:Int)∧s=.int .i64 (S:Int)∧(k=0 ∨ n≤60)∧S≤k * 1048576∧Hid (S=sumB ((xs.take k).map MP.m))∧Hid (∀ m ∈ (xs.take k).map MP.m,goodD m=true)∧Hid (Below w.heap.size w wr)) (fun _ i _ => n - (RowKit.intOf i).toNat)
 case atStart => exact ⟨0,0,Nat.zero_le _,rfl,rfl,.inl rfl,Nat.le_refl _,Lib.hid rfl,Lib.hid (by simp),Lib.hid (Below.refl _ _)⟩
 case round =>
  obtain ⟨k,S,hk,rfl,rfl,hk60,hS,hE,hG,hB⟩:=hrel
  by_cases hlt:k < n
  ·by_cases h60:60 < n
   ·have E:Hid (goodL (xs.map MP.m)=false):=Lib.hid (by
     unfold goodL
     rw [List.length_map,HL.out,decide_eq_false (by omega),Bool.false_and])
    have h60i:(60:Int) < (n:Int):=by omega
    have hltz:(k:Int) < (n:Int):=by omega
    go_wp2
    go_ret
    exact ⟨by rw [E.out];rfl,hB.out⟩
   ·have h60i:¬ ((60:Int) < (n:Int)):=by omega
    have hltz:(k:Int) < (n:Int):=by omega
    have hkl:k < xs.length:=by rw [HL.out];exact hlt
    have hT:=takeP_succ xs k hkl;have hmem:=getP_mem xs k hkl;obtain ⟨b1,o1,rfl,hb1,hB1,hc1⟩:=(HM.out.below hB.out).cells8 hlt;obtain ⟨y,hy⟩:∃ y,xs.getD k zeroP=y:=⟨_,rfl⟩;rw [hy] at hT hmem hc1;have HT:=Lib.hid hT;have HMEM:=Lib.hid hmem;have HC1:=Lib.hid hc1;have HB1:=Lib.hid hb1;obtain ⟨c0,c1,c2,c3,c4,c5,c6,c7⟩:=hc1;clear hB1 hb1 hy hT hmem hkl
    go_wp2_with fail
    refine (rgood_any y.m y.p y.c _ (HR.out y HMEM.out).1 (HR.out y HMEM.out).2).mono ?_
    rintro e w4 ⟨rfl,hb4⟩;have HB4:=Lib.hid (hB.out.trans (hb4.mono hB.out.size));have y7:=(HC1.out.below HB1.out hb4).2.2.2.2.2.2.2;clear hb4 c0 c1 c2 c3 c4 c5 c6 c7;obtain ⟨g,hg⟩:∃ g,goodD y.m=g:=⟨_,rfl⟩;rw [hg]
    cases g with
    | false =>
      have E:Hid (goodL (xs.map MP.m)=false):=Lib.hid (by
       have hf:(xs.map MP.m).all goodD=false:=by
        rw [Bool.eq_false_iff];intro h;have hh:=List.all_eq_true.1 h y.m (List.mem_map_of_mem HMEM.out);rw [hg] at hh
        cases hh
       unfold goodL
       rw [hf,Bool.false_and,Bool.and_false])
      clear hg
      go_wp2
      go_ret
      exact ⟨by rw [E.out];rfl,HB4.out⟩
    | true =>
      have hbd:=(good_facts hg).body;have HE2:Hid (S+y.m.body.length=sumB ((xs.take (k+1)).map MP.m)):=Lib.hid (by rw [HT.out,sumB_snoc,← hE.out])
      have HG2:Hid (∀ m ∈ (xs.take (k+1)).map MP.m,goodD m=true):=Lib.hid (by
       rw [HT.out];intro m hm;rcases List.mem_append.1 hm with h | h
       ·exact hG.out m h
       ·rw [List.mem_singleton] at h
        rw [h]
        exact hg)
      clear hg;obtain ⟨bl,hbl⟩:∃ bl,y.m.body.length=bl:=⟨_,rfl⟩;rw [hbl] at hbd HE2 y7;clear hbl;have hs2:S+bl≤(k+1) * 1048576:=by omega
      have hs3:S+bl≤100000000:=by omega
      go_wp2
      go_roundw
      case rel => exact ⟨k+1,S+bl,by omega,by go_num,by go_num,by omega,hs2,HE2,HG2,HB4⟩
      case measure => simp [RowKit.intOf];omega
  ·obtain rfl:k=n:=by omega
   have hks:¬ ((k:Int) < (k:Int)):=by omega
   have e:xs.take k=xs:=List.take_of_length_le (by rw [HL.out];exact Nat.le_refl _)
   rw [e] at hE hG
   have E:Hid (goodL (xs.map MP.m)=decide ((S:Int)≤100000)):=Lib.hid (by
    unfold goodL;rw [List.length_map,HL.out,decide_eq_true (by omega),List.all_eq_true.2 hG.out,← hE.out,Bool.true_and,Bool.true_and]
    congr 1
    exact propext (by omega))
   clear e
   go_wp2
   go_ret
   exact ⟨by rw [E.out];rfl,hB.out⟩
end Go.Proofs.YtnpkcneojilmkaaGreatDoor.Mem
end
section
namespace Go.Proofs.YtnpkcneojilmkaaGreatDoor.Mem
open Go.ChangeShapes Go.WideShapes Go.ChangeAt Go.RowKit Base Byt Txt Bk Hp Head Path Block Attr Rec Go.Lib
theorem shortH_wf:∀ i,(Lit.int .i64 (numH shortH i)).wf=true:=by
 intro i;unfold numH shortH
 split<;>exact wf_i64 (n:=0) (by decide) (by decide)
theorem z_line:0 < (lineD (keyT 4) [122]).length∧(lineD (keyT 4) [122]).length≤100:=by
 have hmay:mayD (keyT 4) [122]=true:=may_key 4 (by omega) (ascii_text _ (by decide)) (by decide)
 obtain ⟨d,_,_,_,_,hd7,_,e⟩:=line_parts hmay;have:(keyT 4).length=4:=rfl;have:([122]:List UInt8).length=1:=rfl;omega
theorem padS {l:List UInt8} (h0:0 < l.length) (h:l.length≤512):padB l=l++List.replicate (512 - l.length) 0:=by
 have:blocksOf l.length=512:=by unfold blocksOf;omega
 rw [padB,this]
theorem good_one {m:MemV} (h:goodL [m]=true):GoodM m:=(goodL_facts h).2.1 m (List.mem_singleton.2 rfl)
end Go.Proofs.YtnpkcneojilmkaaGreatDoor.Mem
namespace Go.Proofs.YtnpkcneojilmkaaGreatDoor.Walk
open Go.ChangeShapes Go.WideShapes Go.ChangeAt Go.RowKit Base Byt Txt Bk Num Path Block Rec Hp Head Attr Mem Go.Lib
set_option linter.unusedVariables false
set_option maxRecDepth 100000
set_option maxHeartbeats 8000000 in
theorem memberGNU (a0 a1:ByteArray) (a2:Bool) (x3:MP) (w:World) (s0:a0.size≤140737488351232) (s1:a1.size≤140737488351232) (ba:BodyAt w x3) (wm:WfM x3.m) (rm:RoomM x3) (hT:Need w) :
 Calls Tryz.prog 3 #[.string a0,.string a1,.bool a2,.agg x3.cs] w fun e w' => e=.returned (.bool true)∧Below w.heap.size w w':=by
 unfold MP.cs memC;obtain ⟨W1,hW1⟩:∃ W1,w.alloc (.cells #[.string (str x3.m.path),.string (str x3.m.target),.int .u8 (x3.m.kind.toNat:Int),.int .i64 x3.m.mode,.int .i64 x3.m.uid,.int .i64 x3.m.gid,.int .i64 x3.m.time,.slice x3.p x3.m.body.length x3.c] 26)=W1:=⟨_,rfl⟩;have hs1:W1.heap.size=w.heap.size+1:=by rw [← hW1];simp
 have hB1:Below w.heap.size w W1:=by rw [← hW1];exact (Below.refl _ w).alloc (Nat.le_refl _) _
 have hX1:Blk W1 w.heap.size 26 #[.string (str x3.m.path),.string (str x3.m.target),.int .u8 (x3.m.kind.toNat:Int),.int .i64 x3.m.mode,.int .i64 x3.m.uid,.int .i64 x3.m.gid,.int .i64 x3.m.time,.slice x3.p x3.m.body.length x3.c]:=by rw [← hW1];exact Blk.new w _ _
 have HB1:=Lib.hid hB1;have HX1:=Lib.hid hX1;have HA1:=Lib.hid (ba.below hB1);have HN:=Lib.hid (hT.below hB1);have HR:=Lib.hid rm;have HS1:=Lib.hid hs1;obtain ⟨⟨cp,ce⟩,hC⟩:∃ x,cleanD 9 6 a0.data.toList=x:=⟨_,rfl⟩;have hcl:=rclean_any a0 W1 s0;have htx:=rtext_any a1 W1 s1;rw [hC] at hcl;obtain ⟨tx,hTX⟩:∃ tx,textD a1.data.toList=tx:=⟨_,rfl⟩;rw [hTX] at htx;have HCL:=Lib.hid hcl;have HTXC:=Lib.hid htx;have HC:=Lib.hid hC;have HTX:=Lib.hid hTX;clear ba wm rm hT hB1 hcl htx hC hTX hX1
 go_enter Tryz.func3,Tryz.ntmps3
 go_upto_region 1 with fail
 clear hW1
 go_wp2_with fail
 refine HCL.out.mono ?_
 rintro e w1 ⟨rfl,rfl⟩;clear HCL
 by_cases q1:ce=0
 case neg =>
  have b1:(ce != 0)=true:=by simpa using q1
  go_wp2_with fail
  refine (ans08_any _ (HN.out.below (Below.refl W1.heap.size W1))).mono ?_
  rintro e wz ⟨rfl,hbz⟩;have FIN:=Lib.hid (HB1.out.trans (((Below.refl W1.heap.size W1).trans (hbz.mono (Below.refl W1.heap.size W1).size)).mono HB1.out.size));clear hbz
  go_wp2
  go_ret
  exact ⟨rfl,FIN.out⟩
 case pos =>
  subst q1
  by_cases q2:400 < a0.size
  case pos =>
   have b2:(400:Int) < (a0.size:Int):=by omega
   go_wp2_with fail
   refine (ans08_any _ (HN.out.below (Below.refl W1.heap.size W1))).mono ?_
   rintro e wz ⟨rfl,hbz⟩;have FIN:=Lib.hid (HB1.out.trans (((Below.refl W1.heap.size W1).trans (hbz.mono (Below.refl W1.heap.size W1).size)).mono HB1.out.size));clear hbz
   go_wp2
   go_ret
   exact ⟨rfl,FIN.out⟩
  case neg =>
   have b2:¬ (400:Int) < (a0.size:Int):=by omega
   by_cases q3:a1.data.toList=[]
   case pos =>
    have b3:a1.toList.isEmpty=true:=by rw [Lib.toList_data,q3];rfl
    go_wp2_with fail
    refine (ans08_any _ (HN.out.below (Below.refl W1.heap.size W1))).mono ?_
    rintro e wz ⟨rfl,hbz⟩;have FIN:=Lib.hid (HB1.out.trans (((Below.refl W1.heap.size W1).trans (hbz.mono (Below.refl W1.heap.size W1).size)).mono HB1.out.size));clear hbz
    go_wp2
    go_ret
    exact ⟨rfl,FIN.out⟩
   case neg =>
    have b3:a1.toList.isEmpty=false:=by rw [Lib.toList_data];simpa using q3
    by_cases q4:200 < a1.size
    case pos =>
     have b4:(200:Int) < (a1.size:Int):=by omega
     go_wp2_with fail
     refine (ans08_any _ (HN.out.below (Below.refl W1.heap.size W1))).mono ?_
     rintro e wz ⟨rfl,hbz⟩;have FIN:=Lib.hid (HB1.out.trans (((Below.refl W1.heap.size W1).trans (hbz.mono (Below.refl W1.heap.size W1).size)).mono HB1.out.size));clear hbz
     go_wp2
     go_ret
     exact ⟨rfl,FIN.out⟩
    case neg =>
     have b4:¬ (200:Int) < (a1.size:Int):=by omega
     cases tx with
     | false =>
       go_wp2_with fail
       refine HTXC.out.mono ?_
       rintro e w1 ⟨rfl,rfl⟩
       go_wp2_with fail
       refine (ans08_any _ (HN.out.below (Below.refl W1.heap.size W1))).mono ?_
       rintro e wz ⟨rfl,hbz⟩;have FIN:=Lib.hid (HB1.out.trans (((Below.refl W1.heap.size W1).trans (hbz.mono (Below.refl W1.heap.size W1).size)).mono HB1.out.size));clear hbz
       go_wp2
       go_ret
       exact ⟨rfl,FIN.out⟩
     | true =>
       go_wp2_with fail
       refine HTXC.out.mono ?_
       rintro e w1 ⟨rfl,rfl⟩;have x0:=HX1.out.cell 0;have x1:=HX1.out.cell 1;have x2:=HX1.out.cell 2;have x3_:=HX1.out.cell 3;have x4:=HX1.out.cell 4;have x5:=HX1.out.cell 5;have x6:=HX1.out.cell 6;have x7:=HX1.out.cell 7;simp only [List.getElem?_toArray,List.getElem?_cons_zero,List.getElem?_cons_succ] at x0 x1 x2 x3_ x4 x5 x6 x7;obtain ⟨W2,hW2⟩:∃ W2,W1.alloc (.cells #[.string (str x3.m.path),.string (str x3.m.target),.int .u8 (x3.m.kind.toNat:Int),.int .i64 x3.m.mode,.int .i64 x3.m.uid,.int .i64 x3.m.gid,.int .i64 x3.m.time,.slice x3.p x3.m.body.length x3.c] 26)=W2:=⟨_,rfl⟩
       have hB2:Below W1.heap.size W1 W2:=by rw [← hW2];exact (Below.refl _ W1).alloc (Nat.le_refl _) _
       have hM2:MemsAt W2 (some ⟨W1.heap.size,0,none⟩) 1 [x3]:=by rw [← hW2];exact mems_blk (y:=x3) (Blk.new W1 _ _) (HA1.out.below ((Below.refl _ W1).alloc (Nat.le_refl _) _))
       have hgl:=lgood_any (some ⟨W1.heap.size,0,none⟩) 1 1 [x3] W2 hM2 (fun x hx => by rw [List.mem_singleton.1 hx];exact ⟨HR.out.1,HR.out.2.1⟩)
       obtain ⟨gd,hgd⟩:∃ gd,goodL ([x3].map MP.m)=gd:=⟨_,rfl⟩;rw [hgd] at hgl;have HGL:=Lib.hid hgl;have HGD:=Lib.hid hgd;have HB2:=Lib.hid hB2;clear hgl hgd hM2 hB2 hs1
       go_wp2_with fail
       refine HGL.out.mono ?_
       rintro e w3 ⟨rfl,hb3⟩;have HB3:=Lib.hid (HB2.out.trans (hb3.mono HB2.out.size));clear hb3 HGL hW2 x0 x1 x2 x3_ x4 x5 x6 x7
       cases gd with
       | false =>
         go_wp2_with fail
         refine (ans08_any _ (HN.out.below HB3.out)).mono ?_
         rintro e wz ⟨rfl,hbz⟩;have FIN:=Lib.hid (HB1.out.trans ((HB3.out.trans (hbz.mono HB3.out.size)).mono HB1.out.size));clear hbz
         go_wp2
         go_ret
         exact ⟨rfl,FIN.out⟩
       | true =>
         have x2:=(HX1.out.below HB3.out HX1.out.lt).cell 2;simp only [List.getElem?_toArray,List.getElem?_cons_zero,List.getElem?_cons_succ] at x2
         by_cases q6:x3.m.kind=48
         case neg =>
          have b6:((x3.m.kind.toNat:Int) != 48)=true:=by
           simp only [bne,Bool.not_eq_true',beq_eq_false_iff_ne];intro h;exact q6 (UInt8.toNat.inj (by simpa using (by omega:x3.m.kind.toNat=48)))
          go_wp2_with fail
          refine (ans08_any _ (HN.out.below HB3.out)).mono ?_
          rintro e wz ⟨rfl,hbz⟩;have FIN:=Lib.hid (HB1.out.trans ((HB3.out.trans (hbz.mono HB3.out.size)).mono HB1.out.size));clear hbz
          go_wp2
          go_ret
          exact ⟨rfl,FIN.out⟩
         case pos =>
          have x2k:w3.cell? ⟨w.heap.size,2,none⟩=some (.int .u8 48):=by rw [x2,q6];rfl
          have hgm:=good_one HGD.out;obtain ⟨HLb,hl1,hl2,hl3⟩:=long_is (k:=76) (by decide) (l:=a0.data.toList) (by rw [← size_of];omega)
          obtain ⟨HKb,hk1,hk2,hk3⟩:=long_is (k:=75) (by decide) (l:=a1.data.toList) (by rw [← size_of];omega)
          obtain ⟨HSb,hs1,hs2,hs3⟩:=shortH_put;obtain ⟨HXb,hx1,hx2,hx3⟩:=ext_put [64] (by decide) (by decide) 120 (by decide) (lineD (keyT 4) [122]).length (by have:=z_line.2;omega)
          have htg:targetD 9 6 a1.data.toList=0:=by
           unfold targetD;rw [HTX.out,if_neg (by decide),if_neg]
           rintro (h | h)
           ·exact q3 h
           ·rw [← size_of] at h;omega
          have HRL:=Lib.hid (fun own => read_long (p:=cp) HC.out (by rw [← size_of];omega) htg hgm own hl2 hl3 hk2 hk3 hx2 hx3 hs2 hs3)
          rw [← size_of] at hl1 hk1;have HLL:=Lib.hid (And.intro hl1 hl2);have HKK:=Lib.hid (And.intro hk1 hk2);have HSS:=Lib.hid (And.intro hs1 hs2);have HXX:=Lib.hid (And.intro hx1 hx2);have HGM:=Lib.hid hgm;obtain ⟨i0,hi,hz0,hz1,hz2⟩:=info_parts infoU8;have HI:=Lib.hid hi;have HZ0:=Lib.hid hz0;have HZ1:=Lib.hid hz1;have HZ2:=Lib.hid hz2;have HQ0:=Lib.hid (show a0.size≤400 by omega)
          have HQ1:=Lib.hid (show a1.size≤200 by omega)
          clear hgm hl1 hl2 hl3 hk1 hk2 hk3 hs1 hs2 hs3 hx1 hx2 hx3 htg hi hz0 hz1 hz2 q3 b3 x2 q6
          have HLP:Hid ((HLb++padB (a0.data.toList++[0])).length≤2000):=Lib.hid (by
           have:=(blocks_ge (a0.size+1)).2;rw [List.length_append,HLL.out.2,padB_length,List.length_append,← size_of,List.length_singleton];have:=HQ0.out
           omega)
          have HKP:Hid ((HKb++padB (a1.data.toList++[0])).length≤2000):=Lib.hid (by
           have:=(blocks_ge (a1.size+1)).2;rw [List.length_append,HKK.out.2,padB_length,List.length_append,← size_of,List.length_singleton];have:=HQ1.out
           omega)
          go_wp2_with fail
          refine (rlong_any 76 76 rfl a0 (by have:=HQ0.out;omega) HLb HLL.out.1 HLL.out.2 _).mono ?_
          rintro e w4 ⟨v4,rfl,ho4,hb4⟩;obtain ⟨Lb,hLb⟩:∃ Lb,HLb++padB (a0.data.toList++[0])=Lb:=⟨_,rfl⟩;obtain ⟨Kb,hKb⟩:∃ Kb,HKb++padB (a1.data.toList++[0])=Kb:=⟨_,rfl⟩;rw [hLb] at ho4 HLP;rw [hKb] at HKP;have HLB:=Lib.hid hLb;have HKB:=Lib.hid hKb;obtain ⟨p4,c4,rfl,_,_,hbt4,hlb4,_⟩:=ho4.slice;have HBT4:=Lib.hid hbt4;have HB4:=Lib.hid (HB3.out.trans (hb4.mono HB3.out.size));clear ho4 hbt4 hb4 hLb hKb hlb4
          go_wp2_with (at_builtin;refine append_bytes rfl _ _ 24 rfl W1.heap.size 5 i0 Tryz.underlying24 HI.out HZ0.out HZ1.out HZ2.out (.slice none 0 0) 0 [] rfl (World.ownsRow_nil _ _ _ _) p4 Lb.length c4 Lb rfl HBT4.out rfl ?d1 HB4.out.size ?_)
          case d1 => have:=HLP.out;omega
          intro v5 w5 hown hgrow;have HO5:Hid (OwnB w5 W1.heap.size v5 Lb.length Lb):=Lib.hid (by simpa [OwnB] using hown)
          have HB5:Hid (Below W1.heap.size W1 w5):=Lib.hid (HB4.out.trans ((((Kept.refl noneB _).grown hgrow (by intro k hk;simp [Value.ownBlock] at hk))).below HB4.out.size (fun _ h => h.elim)))
          clear hown hgrow
          go_wp2_with fail
          refine (rlong_any 75 75 rfl a1 (by have:=HQ1.out;omega) HKb HKK.out.1 HKK.out.2 _).mono ?_
          rintro e w6 ⟨v6,rfl,ho6,hb6⟩;rw [HKB.out] at ho6;obtain ⟨p6,c6,rfl,_,_,hbt6,hlb6,_⟩:=ho6.slice;have HBT6:=Lib.hid hbt6;have HB6:=Lib.hid (HB5.out.trans (hb6.mono HB5.out.size));have HO6:Hid (OwnB w6 W1.heap.size v5 Lb.length Lb):=Lib.hid (HO5.out.kept (Kept.of_below hb6 noneB) (fun _ _ => id))
          clear ho6 hbt6 hb6 hlb6
          go_wp2_with (at_builtin;refine append_bytes rfl _ _ 24 rfl W1.heap.size 5 i0 Tryz.underlying24 HI.out HZ0.out HZ1.out HZ2.out v5 Lb.length (nums Lb) rfl HO6.out p6 Kb.length c6 Kb rfl HBT6.out rfl ?d2 HB6.out.size ?_)
          case d2 => have:=HLP.out;have:=HKP.out;omega
          intro v7 w7 hown hgrow;obtain ⟨D7,hD7⟩:∃ D7,Lb++Kb=D7:=⟨_,rfl⟩;have hD7l:D7.length=Lb.length+Kb.length:=by rw [← hD7,List.length_append]
          have ho7:OwnB w7 W1.heap.size v7 (Lb.length+Kb.length) (Lb++Kb):=by
           unfold OwnB
           first | exact hown | (rw [Rec.nums_app];first | exact hown | (rw [List.map_append];exact hown))
          rw [hD7,← hD7l] at ho7;have HO7:=Lib.hid ho7;have HB7:Hid (Below W1.heap.size W1 w7):=Lib.hid (HB6.out.trans (((Kept.refl (fun k => W1.heap.size≤k) w6).grown hgrow (fun k hk => .inr (HO6.out.lt k hk).1)).below HB6.out.size (fun k hk => hk)))
          have HD7:=Lib.hid hD7;have HD7L:Hid (D7.length≤4000):=Lib.hid (by have:=HLP.out;have:=HKP.out;omega)
          clear hown hgrow hD7 hD7l HO5 HO6 HBT4 HBT6
          cases a2 with
          | false =>
            have HRL2:=HRL.out false;have HBF:Hid (OwnB w7 W1.heap.size v7 (D7++[]).length (D7++[])):=Lib.hid (by rw [List.append_nil];exact HO7.out)
            have HPS:=Lib.hid (rputH_any shortH shortH_wf (by show (5:Nat)≤_;decide) (by show (2:Nat)≤_;decide) w7)
            go_wp2_with fail
            refine HPS.out.mono ?_
            clear HPS;rintro e w20 ⟨hk20,(⟨bs,gx,hr,rfl,hrow,hge⟩ | ⟨hr,rfl⟩)⟩
            case inr => rw [HSS.out.1] at hr;cases hr
            obtain rfl:bs=HSb:=by rw [HSS.out.1] at hr;exact (Option.some.inj hr).symm
            have hbh:=hrow.bat;rw [HSS.out.2] at hbh;have HBS:=Lib.hid hbh;have HGX:=Lib.hid hge;have HB20:=Lib.hid (HB7.out.trans (hk20.below HB7.out.size (fun _ h => h.elim)))
            have HO20:=Lib.hid (HBF.out.kept hk20 (fun _ _ => id))
            clear hk20 hr hrow hge hbh;obtain ⟨Db,hDb⟩:∃ Db,D7++[]=Db:=⟨_,rfl⟩;rw [hDb] at HO20
            have hNbb:Db.length≤6000:=by
             have:=HD7L.out;rw [← hDb,List.length_append];simp only [List.length_nil];omega
            have HEQ:Hid (membersD ((Db++bs)++archD [x3.m])=([⟨cp,a1.data.toList,50,0,0,0,0,[]⟩,x3.m],0,0)):=Lib.hid (by
             have h1:=HRL2;rw [← hDb,← HD7.out,← HLB.out,← HKB.out];simp only [List.append_assoc,List.append_nil,List.nil_append,Bool.false_eq_true,if_false] at h1 ⊢
             exact h1)
            have HNB:=Lib.hid hNbb;have HSEP:Hid (∀ k,v7.ownBlock=some k → k≠gx):=Lib.hid (fun k hk => by have h1:=(HBF.out.lt k hk).2;have h2:=HGX.out;omega)
            clear hDb hNbb HRL2 HBF
            go_upto_region 12 with fail
            refine wp_region_any (by kernel_rfl) (wpAny_ops (ops':=gnu12Ops) (by kernel_rfl) ?_)
            refine gnu12_region (w:=W1) (w1:=w20) W1.heap.size w.heap.size gx v7 Db bs x3 ?a1 ?a2 ?a3 ?a4 HB20.out (HX1.out.below HB20.out HX1.out.lt) HA1.out HO20.out (by rw [HS1.out];omega) HB20.out.size (Nat.le_refl _) HBS.out HSS.out.2 HSEP.out HGM.out (by have:=HNB.out;omega) ?_
            case a1 => exact Nat.le_refl 135
            case a2 => rfl
            case a3 => rfl
            case a4 => rfl
            intro γ w30 ho30 hb30 hm30;obtain ⟨p30,c30,hv30,_,_,hbt30,_,_⟩:=ho30.slice
            have hLb:((Db++bs)++archD [x3.m]).length≤5000000:=by
             have h1:=putM_len HGM.out;have h2:=HNB.out;rw [List.length_append,List.length_append,HSS.out.2,archD_eq,List.length_append,List.length_replicate,putAllM_cons,List.length_append];show Db.length+512+((putM x3.m).length+0+1024)≤_;omega
            obtain ⟨D,hD⟩:∃ D,(Db++bs)++archD [x3.m]=D:=⟨_,rfl⟩;rw [hD] at HEQ hv30 hbt30 hLb;obtain ⟨L,hL⟩:∃ L,D.length=L:=⟨_,rfl⟩;rw [hL] at hv30 hbt30 hLb;have hR:=memRead_any w30 p30 L c30 D none 0 0 [] hbt30 hL (by omega) (iat_nil _) rfl (by decide) (HN.out.below hb30)
            unfold ReadD at hR;rw [HEQ.out] at hR;have HRD:=Lib.hid hR;have HB30:=Lib.hid (HB1.out.trans (hb30.mono HB1.out.size));have HW30:=Lib.hid hb30;have HN30:=Lib.hid (HN.out.below hb30);have HM30:Hid (Blk w30 w.heap.size 26 x3.cs):=Lib.hid hm30;clear hR ho30 hb30 hm30 hbt30 hD hL hLb HEQ HO20 HBS HX1;simp only [Exit.then]
            apply_assumption
            simp only [Act.put,List.setIfInBounds_toArray,List.set_cons_zero,List.set_cons_succ];rw [hv30];clear hv30
            go_wp2_with fail
            refine HRD.out.mono ?_
            rintro e w31 ⟨p31,c31,us,rfl,_,_,hum,hm31,hb31⟩
            obtain ⟨u,v,rfl⟩:∃ u v,us=[u,v]:=by
             have h:=congrArg List.length hum;rw [List.length_map] at h
             match us,h with
             | [u,v],_ => exact ⟨u,v,rfl⟩
            obtain ⟨hu,hv⟩:u.m=⟨cp,a1.data.toList,50,0,0,0,0,[]⟩∧v.m=x3.m:=by simpa using hum
            obtain ⟨b,o,rfl,hbw,hc⟩:=hm31.2.2 (show 0 < 2 by decide)
            have k0:w31.cell? ⟨b,o,none⟩=some (.string (str cp)):=by
             have h:=hc 0 (show 0 < 2 by decide) 0 (by decide)
             rw [show o+8 * 0+0=o by omega] at h
             rw [h];show some (Value.string (str u.m.path))=_;rw [hu]
            have k1:w31.cell? ⟨b,o+1,none⟩=some (.string a1):=by
             have h:=hc 0 (show 0 < 2 by decide) 1 (by decide)
             rw [show o+8 * 0+1=o+1 by omega] at h
             rw [h];show some (Value.string (str u.m.target))=_;rw [hu];show some (Value.string (str a1.data.toList))=_;rw [str_of]
            have hq:∀ j,j < 8 → w31.cell? ⟨b,o+8+j,none⟩=v.cs[j]?:=fun j hj => by
             have h:=hc 1 (show 1 < 2 by decide) j hj
             rw [show o+8 * 1+j=o+8+j by omega] at h
             exact h
            have hbv:BodyAt w31 v:=hm31.2.1 v (by simp)
            have HB31:=Lib.hid (HB30.out.trans (hb31.mono HB30.out.size));have HM31:=Lib.hid (HM30.out.below hb31 HM30.out.lt);have HN31:=Lib.hid (HN30.out.below hb31);have HA31:=Lib.hid ((HA1.out.below HW30.out).below hb31);clear hum hm31 hb31 hc HRD HM30
            go_upto_region 14 with fail
            obtain ⟨w32,hw32⟩:∃ w32,w31.alloc (.cells #[.int .i64 0,.int .i64 0] 44)=w32:=⟨_,rfl⟩;have h32:Below w31.heap.size w31 w32:=by rw [← hw32];exact (Below.refl _ _).alloc (Nat.le_refl _) _
            have hF32:Blk w32 w31.heap.size 44 #[.int .i64 0,.int .i64 0]:=by rw [← hw32];exact Blk.new w31 _ _
            have hall:∀ w',Below w32.heap.size w32 w' → (w'.cell? ⟨w31.heap.size,0,none⟩=some (.int .i64 0)∧w'.cell? ⟨b,o,none⟩=some (.string (str cp))∧w'.cell? ⟨b,o+1,none⟩=some (.string a1))∧(w'.cell? ⟨b,o+8,none⟩=some (.string (str v.m.path))∧w'.cell? ⟨b,o+8+1,none⟩=some (.string (str v.m.target))∧w'.cell? ⟨b,o+8+2,none⟩=some (.int .u8 (v.m.kind.toNat:Int))∧w'.cell? ⟨b,o+8+3,none⟩=some (.int .i64 v.m.mode)∧w'.cell? ⟨b,o+8+4,none⟩=some (.int .i64 v.m.uid)∧w'.cell? ⟨b,o+8+5,none⟩=some (.int .i64 v.m.gid)∧w'.cell? ⟨b,o+8+6,none⟩=some (.int .i64 v.m.time)∧w'.cell? ⟨b,o+8+7,none⟩=some (.slice v.p v.m.body.length v.c))∧(w'.cell? ⟨w.heap.size,0,none⟩=some (.string (str x3.m.path))∧w'.cell? ⟨w.heap.size,1,none⟩=some (.string (str x3.m.target))∧w'.cell? ⟨w.heap.size,2,none⟩=some (.int .u8 (x3.m.kind.toNat:Int))∧w'.cell? ⟨w.heap.size,3,none⟩=some (.int .i64 x3.m.mode)∧w'.cell? ⟨w.heap.size,4,none⟩=some (.int .i64 x3.m.uid)∧w'.cell? ⟨w.heap.size,5,none⟩=some (.int .i64 x3.m.gid)∧w'.cell? ⟨w.heap.size,6,none⟩=some (.int .i64 x3.m.time)∧w'.cell? ⟨w.heap.size,7,none⟩=some (.slice x3.p x3.m.body.length x3.c)):=fun w' h => by
             have h3:Below w31.heap.size w31 w':=h32.trans (h.mono h32.size);have g:∀ j,j < 8 → w'.cell? ⟨b,o+8+j,none⟩=v.cs[j]?:=fun j hj => (h3.cell (p:=⟨b,o+8+j,none⟩) hbw).trans (hq j hj)
             have hx:=HM31.out.below h3 HM31.out.lt;exact ⟨⟨(hF32.below h hF32.lt).cell 0,(h3.cell (p:=⟨b,o,none⟩) hbw).trans k0,(h3.cell (p:=⟨b,o+1,none⟩) hbw).trans k1⟩,⟨g 0 (by decide),g 1 (by decide),g 2 (by decide),g 3 (by decide),g 4 (by decide),g 5 (by decide),g 6 (by decide),g 7 (by decide)⟩,hx.cell 0,hx.cell 1,hx.cell 2,hx.cell 3,hx.cell 4,hx.cell 5,hx.cell 6,hx.cell 7⟩
            have hsame:∀ w',Below w32.heap.size w32 w' → Calls Tryz.prog 16 #[.agg #[.string (str v.m.path),.string (str v.m.target),.int .u8 (v.m.kind.toNat:Int),.int .i64 v.m.mode,.int .i64 v.m.uid,.int .i64 v.m.gid,.int .i64 v.m.time,.slice v.p v.m.body.length v.c],.agg #[.string (str x3.m.path),.string (str x3.m.target),.int .u8 (x3.m.kind.toNat:Int),.int .i64 x3.m.mode,.int .i64 x3.m.uid,.int .i64 x3.m.gid,.int .i64 x3.m.time,.slice x3.p x3.m.body.length x3.c]] w' fun e w'' => e=.returned (.bool true)∧Below w'.heap.size w' w'':=fun w' h => by
             have h3:Below w31.heap.size w31 w':=h32.trans (h.mono h32.size);have:=rsame_any v.m x3.m v.p x3.p v.c x3.c w' (hbv.below h3).bat (HA31.out.below h3).bat;rw [decide_eq_true hv] at this;exact this
            have HALL:=Lib.hid hall;have HSAME:=Lib.hid hsame;have HB32:=Lib.hid (HB31.out.trans (h32.mono HB31.out.size));have HAN:Hid (∀ w',Below w32.heap.size w32 w' → Calls Tryz.prog 10 #[] w' fun e w'' => e=.returned (.bool true)∧Below w'.heap.size w' w''):=Lib.hid (fun w' h => ans08_any w' ((HN31.out.below h32).below h))
            have HBB:Hid (Below w32.heap.size w32 w32.drew):=Lib.hid (((Kept.refl noneB w32).drew).below (Nat.le_refl _) (fun _ h => h.elim))
            rw [hw32];clear hw32 h32 hF32 hall hsame k0 k1 hq hbv hbw hu hv
            go_wp2_with fail
            first
            | (go_region_held_law (fun w' => (w'.cell? ⟨w31.heap.size,0,none⟩=some (.int .i64 0)∧w'.cell? ⟨b,o,none⟩=some (.string (str cp))∧w'.cell? ⟨b,o+1,none⟩=some (.string a1))∧(w'.cell? ⟨b,o+8,none⟩=some (.string (str v.m.path))∧w'.cell? ⟨b,o+8+1,none⟩=some (.string (str v.m.target))∧w'.cell? ⟨b,o+8+2,none⟩=some (.int .u8 (v.m.kind.toNat:Int))∧w'.cell? ⟨b,o+8+3,none⟩=some (.int .i64 v.m.mode)∧w'.cell? ⟨b,o+8+4,none⟩=some (.int .i64 v.m.uid)∧w'.cell? ⟨b,o+8+5,none⟩=some (.int .i64 v.m.gid)∧w'.cell? ⟨b,o+8+6,none⟩=some (.int .i64 v.m.time)∧w'.cell? ⟨b,o+8+7,none⟩=some (.slice v.p v.m.body.length v.c))∧(w'.cell? ⟨w.heap.size,0,none⟩=some (.string (str x3.m.path))∧w'.cell? ⟨w.heap.size,1,none⟩=some (.string (str x3.m.target))∧w'.cell? ⟨w.heap.size,2,none⟩=some (.int .u8 (x3.m.kind.toNat:Int))∧w'.cell? ⟨w.heap.size,3,none⟩=some (.int .i64 x3.m.mode)∧w'.cell? ⟨w.heap.size,4,none⟩=some (.int .i64 x3.m.uid)∧w'.cell? ⟨w.heap.size,5,none⟩=some (.int .i64 x3.m.gid)∧w'.cell? ⟨w.heap.size,6,none⟩=some (.int .i64 x3.m.time)∧w'.cell? ⟨w.heap.size,7,none⟩=some (.slice x3.p x3.m.body.length x3.c))) (exact HALL.out _ HBB.out) (first
             | (go_at_call 10
                refine (HAN.out _ HBB.out).mono ?_
                rintro e wa ⟨rfl,hba⟩;have HBB:=Lib.hid (HBB.out.trans (hba.mono HBB.out.size))
                clear hba)
             | (go_at_call 16
                refine (HSAME.out _ HBB.out).mono ?_
                rintro e wa ⟨rfl,hba⟩;have HBB:=Lib.hid (HBB.out.trans (hba.mono HBB.out.size))
                clear hba)))
            | skip
            all_goals
             have FIN:=Lib.hid (HB32.out.trans (HBB.out.mono HB32.out.size))
             go_wp2
             go_ret
             exact ⟨rfl,FIN.out⟩
          | true =>
            have HRL2:=HRL.out true;obtain ⟨TL,hTL⟩:∃ TL,lineD (keyT 4) [122]=TL:=⟨_,rfl⟩;obtain ⟨ht0,ht1⟩:=z_line;rw [hTL] at ht0 ht1 HXX HRL2;obtain ⟨STL,hSTL⟩:∃ S,str TL=S:=⟨_,rfl⟩;have htl:TL.length=STL.size:=by rw [← hSTL,str_size]
            have HTN:=Lib.hid htl;have hln:=line_any (keyT 4) [122];rw [hTL,hSTL] at hln;have HLN:=Lib.hid (fun w' => hln w' (by decide))
            have HPX:Hid (∀ w',Calls Tryz.prog 13 #[.agg #[.string ⟨#[64]⟩,.string ⟨#[]⟩,.int .u8 120,.int .i64 0,.int .i64 0,.int .i64 0,.int .i64 0,.int .i64 (STL.size:Int),.bool false]] w' (PutHPost w' (some HXb))):=Lib.hid (fun w' => by
             have:=rputH_any ⟨[64],[],120,0,0,0,0,(TL.length:Int),false⟩ (headX_wf [64] 120 TL.length (by omega)) (by show (1:Nat)≤_;decide) (by show (0:Nat)≤_;decide) w'
             rw [HXX.out.1] at this;simp only [HTN.out] at this
             exact this)
            have hd:STL.data.toList=TL:=by rw [← hSTL,str_data]
            have HDT:=Lib.hid hd;rw [htl] at ht0 ht1;rw [padS (l:=TL) (by rw [htl];omega) (by rw [htl];omega),htl] at HRL2
            obtain ⟨Q,hQ⟩:∃ Q,TL++List.replicate (512 - STL.size) 0=Q:=⟨_,rfl⟩;have hQl:Q.length=512:=by rw [← hQ,List.length_append,List.length_replicate,htl];omega
            rw [hQ] at HRL2;have HQQ:=Lib.hid hQ;have HQL:=Lib.hid hQl;clear hln hd hTL hSTL htl hQ hQl
            go_wp2_with fail
            refine (HLN.out _).mono ?_
            rintro e w8 ⟨rfl,hb8⟩;have HB8:=Lib.hid (HB7.out.trans (hb8.mono HB7.out.size));have HO8:=Lib.hid (HO7.out.kept (Kept.of_below hb8 noneB) (fun _ _ => id))
            clear hb8
            go_wp2_with fail
            refine (HPX.out _).mono ?_
            rintro e w9 ⟨hk9,(⟨bs9,gx9,hr,rfl,hrow,hge⟩ | ⟨hr,rfl⟩)⟩
            case inr => cases hr
            obtain rfl:bs9=HXb:=(Option.some.inj hr).symm;have hbh:=hrow.bat;rw [HXX.out.2] at hbh;have HBH:=Lib.hid hbh;have HB9:=Lib.hid (HB8.out.trans (hk9.below HB8.out.size (fun _ h => h.elim)))
            have HO9:=Lib.hid (HO8.out.kept hk9 (fun _ _ => id))
            clear hk9 hr hrow hge hbh HLN HPX
            go_wp2_with (at_builtin;refine append_bytes rfl _ _ 24 rfl W1.heap.size 5 i0 Tryz.underlying24 HI.out HZ0.out HZ1.out HZ2.out v7 D7.length (nums D7) rfl HO9.out (some ⟨gx9,0,none⟩) 512 512 bs9 rfl HBH.out HXX.out.2 ?d3 HB9.out.size ?_)
            case d3 => have:=HD7L.out;omega
            intro v10 w10 hown hgrow
            have ho10:OwnB w10 W1.heap.size v10 (D7.length+512) (D7++bs9):=by
             unfold OwnB
             first | exact hown | (rw [Rec.nums_app];first | exact hown | (rw [List.map_append];exact hown))
            have HO10:=Lib.hid ho10;have HB10:Hid (Below W1.heap.size W1 w10):=Lib.hid (HB9.out.trans (((Kept.refl (fun k => W1.heap.size≤k) w9).grown hgrow (fun k hk => .inr (HO9.out.lt k hk).1)).below HB9.out.size (fun k hk => hk)))
            clear hown hgrow ho10;have cvb:=Lib.run_convert_string_bytes (P:=Tryz.prog) w10 9 24 5 STL Tryz.underlying9 Tryz.underlying24 Tryz.underlying5
            go_wp2_with (at_builtin;refine append_str_zeros (P:=Tryz.prog) rfl _ _ 24 3 rfl 5 i0 .i64 .i64 Tryz.underlying24 Tryz.underlying3 HI.out HZ0.out HZ1.out HZ2.out STL rfl _ (512 - STL.size) rfl ?e1 ?e2 ?_)
            case e1 => omega
            case e2 => omega
            intro p11 c11 w11 hle11 hmx11 hb11 hbel11;have hN11:STL.size+(512 - STL.size)=512:=by omega
            rw [hN11,HDT.out,HQQ.out] at hb11;rw [hN11] at hle11;rw [hN11];have HO11:=Lib.hid (HO10.out.kept (Kept.of_below hbel11 noneB) (fun _ _ => id))
            have HB11:=Lib.hid (HB10.out.trans (hbel11.mono HB10.out.size));have HBT11:=Lib.hid hb11;clear hb11 hbel11 cvb hN11
            go_wp2_with (at_builtin;refine append_bytes rfl _ _ 24 rfl W1.heap.size 5 i0 Tryz.underlying24 HI.out HZ0.out HZ1.out HZ2.out v10 (D7.length+512) (nums (D7++bs9)) rfl HO11.out p11 512 c11 Q rfl HBT11.out HQL.out ?d4 HB11.out.size ?_)
            case d4 => have:=HD7L.out;omega
            intro v12 w12 hown hgrow
            have ho12:OwnB w12 W1.heap.size v12 (D7.length+512+512) (D7++(bs9++Q)):=by
             unfold OwnB
             first | exact hown | (rw [← List.append_assoc,Rec.nums_app];first | exact hown | (rw [List.map_append];exact hown))
            rw [show D7.length+512+512=(D7++(bs9++Q)).length by rw [List.length_append,List.length_append,HXX.out.2,HQL.out]] at ho12
            have HBF:=Lib.hid ho12;have HB12:Hid (Below W1.heap.size W1 w12):=Lib.hid (HB11.out.trans (((Kept.refl (fun k => W1.heap.size≤k) w11).grown hgrow (fun k hk => .inr (HO11.out.lt k hk).1)).below HB11.out.size (fun k hk => hk)))
            clear hown hgrow ho12;have HPS:=Lib.hid (rputH_any shortH shortH_wf (by show (5:Nat)≤_;decide) (by show (2:Nat)≤_;decide) w12)
            go_wp2_with fail
            refine HPS.out.mono ?_
            clear HPS;rintro e w20 ⟨hk20,(⟨bs,gx,hr,rfl,hrow,hge⟩ | ⟨hr,rfl⟩)⟩
            case inr => rw [HSS.out.1] at hr;cases hr
            obtain rfl:bs=HSb:=by rw [HSS.out.1] at hr;exact (Option.some.inj hr).symm
            have hbh:=hrow.bat;rw [HSS.out.2] at hbh;have HBS:=Lib.hid hbh;have HGX:=Lib.hid hge;have HB20:=Lib.hid (HB12.out.trans (hk20.below HB12.out.size (fun _ h => h.elim)))
            have HO20:=Lib.hid (HBF.out.kept hk20 (fun _ _ => id))
            clear hk20 hr hrow hge hbh;obtain ⟨Db,hDb⟩:∃ Db,D7++(bs9++Q)=Db:=⟨_,rfl⟩;rw [hDb] at HO20
            have hNbb:Db.length≤6000:=by
             have:=HD7L.out;rw [← hDb,List.length_append];rw [List.length_append,HXX.out.2,HQL.out];omega
            have HEQ:Hid (membersD ((Db++bs)++archD [x3.m])=([⟨[122],a1.data.toList,50,0,0,0,0,[]⟩,x3.m],0,0)):=Lib.hid (by
             have h1:=HRL2;rw [← hDb,← HD7.out,← HLB.out,← HKB.out];simp only [List.append_assoc,if_true] at h1 ⊢
             exact h1)
            have HNB:=Lib.hid hNbb;have HSEP:Hid (∀ k,v12.ownBlock=some k → k≠gx):=Lib.hid (fun k hk => by have h1:=(HBF.out.lt k hk).2;have h2:=HGX.out;omega)
            clear hDb hNbb HRL2 HBF
            go_upto_region 12 with fail
            refine wp_region_any (by kernel_rfl) (wpAny_ops (ops':=gnu12Ops) (by kernel_rfl) ?_)
            refine gnu12_region (w:=W1) (w1:=w20) W1.heap.size w.heap.size gx v12 Db bs x3 ?a1 ?a2 ?a3 ?a4 HB20.out (HX1.out.below HB20.out HX1.out.lt) HA1.out HO20.out (by rw [HS1.out];omega) HB20.out.size (Nat.le_refl _) HBS.out HSS.out.2 HSEP.out HGM.out (by have:=HNB.out;omega) ?_
            case a1 => exact Nat.le_refl 135
            case a2 => rfl
            case a3 => rfl
            case a4 => rfl
            intro γ w30 ho30 hb30 hm30;obtain ⟨p30,c30,hv30,_,_,hbt30,_,_⟩:=ho30.slice
            have hLb:((Db++bs)++archD [x3.m]).length≤5000000:=by
             have h1:=putM_len HGM.out;have h2:=HNB.out;rw [List.length_append,List.length_append,HSS.out.2,archD_eq,List.length_append,List.length_replicate,putAllM_cons,List.length_append];show Db.length+512+((putM x3.m).length+0+1024)≤_;omega
            obtain ⟨D,hD⟩:∃ D,(Db++bs)++archD [x3.m]=D:=⟨_,rfl⟩;rw [hD] at HEQ hv30 hbt30 hLb;obtain ⟨L,hL⟩:∃ L,D.length=L:=⟨_,rfl⟩;rw [hL] at hv30 hbt30 hLb;have hR:=memRead_any w30 p30 L c30 D none 0 0 [] hbt30 hL (by omega) (iat_nil _) rfl (by decide) (HN.out.below hb30)
            unfold ReadD at hR;rw [HEQ.out] at hR;have HRD:=Lib.hid hR;have HB30:=Lib.hid (HB1.out.trans (hb30.mono HB1.out.size));have HW30:=Lib.hid hb30;have HN30:=Lib.hid (HN.out.below hb30);have HM30:Hid (Blk w30 w.heap.size 26 x3.cs):=Lib.hid hm30;clear hR ho30 hb30 hm30 hbt30 hD hL hLb HEQ HO20 HBS HX1;simp only [Exit.then]
            apply_assumption
            simp only [Act.put,List.setIfInBounds_toArray,List.set_cons_zero,List.set_cons_succ];rw [hv30];clear hv30
            go_wp2_with fail
            refine HRD.out.mono ?_
            rintro e w31 ⟨p31,c31,us,rfl,_,_,hum,hm31,hb31⟩
            obtain ⟨u,v,rfl⟩:∃ u v,us=[u,v]:=by
             have h:=congrArg List.length hum;rw [List.length_map] at h
             match us,h with
             | [u,v],_ => exact ⟨u,v,rfl⟩
            obtain ⟨hu,hv⟩:u.m=⟨[122],a1.data.toList,50,0,0,0,0,[]⟩∧v.m=x3.m:=by simpa using hum
            obtain ⟨b,o,rfl,hbw,hc⟩:=hm31.2.2 (show 0 < 2 by decide)
            have k0:w31.cell? ⟨b,o,none⟩=some (.string ⟨#[122]⟩):=by
             have h:=hc 0 (show 0 < 2 by decide) 0 (by decide)
             rw [show o+8 * 0+0=o by omega] at h
             rw [h];show some (Value.string (str u.m.path))=_;rw [hu];rfl
            have k1:w31.cell? ⟨b,o+1,none⟩=some (.string a1):=by
             have h:=hc 0 (show 0 < 2 by decide) 1 (by decide)
             rw [show o+8 * 0+1=o+1 by omega] at h
             rw [h];show some (Value.string (str u.m.target))=_;rw [hu];show some (Value.string (str a1.data.toList))=_;rw [str_of]
            have hq:∀ j,j < 8 → w31.cell? ⟨b,o+8+j,none⟩=v.cs[j]?:=fun j hj => by
             have h:=hc 1 (show 1 < 2 by decide) j hj
             rw [show o+8 * 1+j=o+8+j by omega] at h
             exact h
            have hbv:BodyAt w31 v:=hm31.2.1 v (by simp)
            have HB31:=Lib.hid (HB30.out.trans (hb31.mono HB30.out.size));have HM31:=Lib.hid (HM30.out.below hb31 HM30.out.lt);have HN31:=Lib.hid (HN30.out.below hb31);have HA31:=Lib.hid ((HA1.out.below HW30.out).below hb31);clear hum hm31 hb31 hc HRD HM30
            go_upto_region 14 with fail
            obtain ⟨w32,hw32⟩:∃ w32,w31.alloc (.cells #[.int .i64 0,.int .i64 0] 44)=w32:=⟨_,rfl⟩;have h32:Below w31.heap.size w31 w32:=by rw [← hw32];exact (Below.refl _ _).alloc (Nat.le_refl _) _
            have hF32:Blk w32 w31.heap.size 44 #[.int .i64 0,.int .i64 0]:=by rw [← hw32];exact Blk.new w31 _ _
            have hall:∀ w',Below w32.heap.size w32 w' → (w'.cell? ⟨w31.heap.size,0,none⟩=some (.int .i64 0)∧w'.cell? ⟨b,o,none⟩=some (.string ⟨#[122]⟩)∧w'.cell? ⟨b,o+1,none⟩=some (.string a1))∧(w'.cell? ⟨b,o+8,none⟩=some (.string (str v.m.path))∧w'.cell? ⟨b,o+8+1,none⟩=some (.string (str v.m.target))∧w'.cell? ⟨b,o+8+2,none⟩=some (.int .u8 (v.m.kind.toNat:Int))∧w'.cell? ⟨b,o+8+3,none⟩=some (.int .i64 v.m.mode)∧w'.cell? ⟨b,o+8+4,none⟩=some (.int .i64 v.m.uid)∧w'.cell? ⟨b,o+8+5,none⟩=some (.int .i64 v.m.gid)∧w'.cell? ⟨b,o+8+6,none⟩=some (.int .i64 v.m.time)∧w'.cell? ⟨b,o+8+7,none⟩=some (.slice v.p v.m.body.length v.c))∧(w'.cell? ⟨w.heap.size,0,none⟩=some (.string (str x3.m.path))∧w'.cell? ⟨w.heap.size,1,none⟩=some (.string (str x3.m.target))∧w'.cell? ⟨w.heap.size,2,none⟩=some (.int .u8 (x3.m.kind.toNat:Int))∧w'.cell? ⟨w.heap.size,3,none⟩=some (.int .i64 x3.m.mode)∧w'.cell? ⟨w.heap.size,4,none⟩=some (.int .i64 x3.m.uid)∧w'.cell? ⟨w.heap.size,5,none⟩=some (.int .i64 x3.m.gid)∧w'.cell? ⟨w.heap.size,6,none⟩=some (.int .i64 x3.m.time)∧w'.cell? ⟨w.heap.size,7,none⟩=some (.slice x3.p x3.m.body.length x3.c)):=fun w' h => by
             have h3:Below w31.heap.size w31 w':=h32.trans (h.mono h32.size);have g:∀ j,j < 8 → w'.cell? ⟨b,o+8+j,none⟩=v.cs[j]?:=fun j hj => (h3.cell (p:=⟨b,o+8+j,none⟩) hbw).trans (hq j hj)
             have hx:=HM31.out.below h3 HM31.out.lt;exact ⟨⟨(hF32.below h hF32.lt).cell 0,(h3.cell (p:=⟨b,o,none⟩) hbw).trans k0,(h3.cell (p:=⟨b,o+1,none⟩) hbw).trans k1⟩,⟨g 0 (by decide),g 1 (by decide),g 2 (by decide),g 3 (by decide),g 4 (by decide),g 5 (by decide),g 6 (by decide),g 7 (by decide)⟩,hx.cell 0,hx.cell 1,hx.cell 2,hx.cell 3,hx.cell 4,hx.cell 5,hx.cell 6,hx.cell 7⟩
            have hsame:∀ w',Below w32.heap.size w32 w' → Calls Tryz.prog 16 #[.agg #[.string (str v.m.path),.string (str v.m.target),.int .u8 (v.m.kind.toNat:Int),.int .i64 v.m.mode,.int .i64 v.m.uid,.int .i64 v.m.gid,.int .i64 v.m.time,.slice v.p v.m.body.length v.c],.agg #[.string (str x3.m.path),.string (str x3.m.target),.int .u8 (x3.m.kind.toNat:Int),.int .i64 x3.m.mode,.int .i64 x3.m.uid,.int .i64 x3.m.gid,.int .i64 x3.m.time,.slice x3.p x3.m.body.length x3.c]] w' fun e w'' => e=.returned (.bool true)∧Below w'.heap.size w' w'':=fun w' h => by
             have h3:Below w31.heap.size w31 w':=h32.trans (h.mono h32.size);have:=rsame_any v.m x3.m v.p x3.p v.c x3.c w' (hbv.below h3).bat (HA31.out.below h3).bat;rw [decide_eq_true hv] at this;exact this
            have HALL:=Lib.hid hall;have HSAME:=Lib.hid hsame;have HB32:=Lib.hid (HB31.out.trans (h32.mono HB31.out.size));have HAN:Hid (∀ w',Below w32.heap.size w32 w' → Calls Tryz.prog 10 #[] w' fun e w'' => e=.returned (.bool true)∧Below w'.heap.size w' w''):=Lib.hid (fun w' h => ans08_any w' ((HN31.out.below h32).below h))
            have HBB:Hid (Below w32.heap.size w32 w32.drew):=Lib.hid (((Kept.refl noneB w32).drew).below (Nat.le_refl _) (fun _ h => h.elim))
            rw [hw32];clear hw32 h32 hF32 hall hsame k0 k1 hq hbv hbw hu hv
            go_wp2_with fail
            first
            | (go_region_held_law (fun w' => (w'.cell? ⟨w31.heap.size,0,none⟩=some (.int .i64 0)∧w'.cell? ⟨b,o,none⟩=some (.string ⟨#[122]⟩)∧w'.cell? ⟨b,o+1,none⟩=some (.string a1))∧(w'.cell? ⟨b,o+8,none⟩=some (.string (str v.m.path))∧w'.cell? ⟨b,o+8+1,none⟩=some (.string (str v.m.target))∧w'.cell? ⟨b,o+8+2,none⟩=some (.int .u8 (v.m.kind.toNat:Int))∧w'.cell? ⟨b,o+8+3,none⟩=some (.int .i64 v.m.mode)∧w'.cell? ⟨b,o+8+4,none⟩=some (.int .i64 v.m.uid)∧w'.cell? ⟨b,o+8+5,none⟩=some (.int .i64 v.m.gid)∧w'.cell? ⟨b,o+8+6,none⟩=some (.int .i64 v.m.time)∧w'.cell? ⟨b,o+8+7,none⟩=some (.slice v.p v.m.body.length v.c))∧(w'.cell? ⟨w.heap.size,0,none⟩=some (.string (str x3.m.path))∧w'.cell? ⟨w.heap.size,1,none⟩=some (.string (str x3.m.target))∧w'.cell? ⟨w.heap.size,2,none⟩=some (.int .u8 (x3.m.kind.toNat:Int))∧w'.cell? ⟨w.heap.size,3,none⟩=some (.int .i64 x3.m.mode)∧w'.cell? ⟨w.heap.size,4,none⟩=some (.int .i64 x3.m.uid)∧w'.cell? ⟨w.heap.size,5,none⟩=some (.int .i64 x3.m.gid)∧w'.cell? ⟨w.heap.size,6,none⟩=some (.int .i64 x3.m.time)∧w'.cell? ⟨w.heap.size,7,none⟩=some (.slice x3.p x3.m.body.length x3.c))) (exact HALL.out _ HBB.out) (first
             | (go_at_call 10
                refine (HAN.out _ HBB.out).mono ?_
                rintro e wa ⟨rfl,hba⟩;have HBB:=Lib.hid (HBB.out.trans (hba.mono HBB.out.size))
                clear hba)
             | (go_at_call 16
                refine (HSAME.out _ HBB.out).mono ?_
                rintro e wa ⟨rfl,hba⟩;have HBB:=Lib.hid (HBB.out.trans (hba.mono HBB.out.size))
                clear hba)))
            | skip
            all_goals
             have FIN:=Lib.hid (HB32.out.trans (HBB.out.mono HB32.out.size))
             go_wp2
             go_ret
             exact ⟨rfl,FIN.out⟩
end Go.Proofs.YtnpkcneojilmkaaGreatDoor.Walk
end
