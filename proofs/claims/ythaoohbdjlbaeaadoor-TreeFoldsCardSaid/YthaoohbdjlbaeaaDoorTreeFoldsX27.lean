/- Texts of this seat, merged: what the proof reaches. -/
import Derived.Test.YthaoohbdjlbaeaaDoorTreeFoldsX26
import Derived.Test.YthaoohbdjlbaeaaDoorTreeFoldsX20
import Derived.Lib.SlBytesConst
import Derived.Test.YthaoohbdjlbaeaaDoorTreeFoldsX21
import Derived.Test.YthaoohbdjlbaeaaDoorTreeFoldsX17
import Derived.Laws.StructEq
namespace Go.Proofs.YthaoohbdjlbaeaaDoor
namespace Base
end Base
namespace Bk
end Bk
namespace Byt
end Byt
namespace Mem
end Mem
namespace Tre
end Tre
namespace Txt
end Txt
end Go.Proofs.YthaoohbdjlbaeaaDoor
section
namespace Go.Proofs.YthaoohbdjlbaeaaDoor.Tre
open Go.ChangeShapes Go.WideShapes Go.ChangeAt Go.RowKit Base Byt Txt Bk Mem Go.Lib
set_option linter.unusedVariables false
set_option maxRecDepth 100000
def fB:MemV:=⟨[98],[],48,0,0,0,0,[120]⟩
def hA:MemV:=⟨[97],[98],49,0,0,0,0,[]⟩
def nA:NodeV:=⟨[97],[],[97],48,0,0,0,0,[120]⟩
def nB:NodeV:=⟨[98],[],[97],48,0,0,0,0,[120]⟩
theorem foldBA:foldD [fB,hA]=([nA,nB],0,0):=by
 have h1:badAt [fB,hA]=none:=by decide +kernel
 have h2:laysD [fB,hA] [fB,hA].length=.ok [([98],0),([97],0)]:=rfl;have h3:sortS [([98],0),([97],0)]=[([97],0),([98],0)]:=(sortS_only (by unfold Apart;decide) (List.Perm.swap _ _ _) (by unfold RiseS;decide +kernel)).symm
 rw [foldD_ok h1 h2];unfold treeD;rw [h3];rfl
theorem foldA:foldD [hA]=([],7,0):=foldD_link (by decide +kernel) rfl
theorem goodBA:goodT [nA,nB]=true:=by decide +kernel
theorem goodZ:goodT [zeroN]=false:=by decide +kernel
def cells16 (x y:MP):Array Value:=#[.string (str x.m.path),.string (str x.m.target),.int .u8 (x.m.kind.toNat:Int),.int .i64 x.m.mode,.int .i64 x.m.uid,.int .i64 x.m.gid,.int .i64 x.m.time,.slice x.p x.m.body.length x.c,
 .string (str y.m.path),.string (str y.m.target),.int .u8 (y.m.kind.toNat:Int),.int .i64 y.m.mode,.int .i64 y.m.uid,.int .i64 y.m.gid,.int .i64 y.m.time,.slice y.p y.m.body.length y.c]
theorem mems_two {w:World} {b:Nat} {x y:MP} (hb:Blk w b 45 (cells16 x y)) (hx:BodyAt w x) (hy:BodyAt w y):MemsAt w (some ⟨b,0,none⟩) 2 [x,y]:=by
 refine ⟨rfl,fun z hz => ?_,fun _ => ⟨b,0,rfl,hb.lt,fun i hi j hj => ?_⟩⟩
 ·rcases List.mem_cons.1 hz with rfl | hz
  ·exact hx
  ·rw [List.mem_singleton.1 hz];exact hy
 ·rw [hb.cell,Nat.zero_add]
  match i,hi,j,hj with
  | 0,_,0,_ => rfl
  | 0,_,1,_ => rfl
  | 0,_,2,_ => rfl
  | 0,_,3,_ => rfl
  | 0,_,4,_ => rfl
  | 0,_,5,_ => rfl
  | 0,_,6,_ => rfl
  | 0,_,7,_ => rfl
  | 1,_,0,_ => rfl
  | 1,_,1,_ => rfl
  | 1,_,2,_ => rfl
  | 1,_,3,_ => rfl
  | 1,_,4,_ => rfl
  | 1,_,5,_ => rfl
  | 1,_,6,_ => rfl
  | 1,_,7,_ => rfl
theorem mems_one {w:World} {b:Nat} {y:MP} (hb:Blk w b 45 y.cs) (hB:BodyAt w y):MemsAt w (some ⟨b,0,none⟩) 1 [y]:=by
 refine ⟨rfl,fun x hx => by rw [List.mem_singleton] at hx;subst hx;exact hB,fun _ => ⟨b,0,rfl,hb.lt,fun i hi j hj => ?_⟩⟩
 obtain rfl:i=0:=by omega
 rw [show 0+8 * 0+j=j by omega]
 exact hb.cell j
theorem nodes_one {w:World} {b:Nat} {y:NP} (hb:Blk w b 38 y.cs) (hB:BodAt w y):NodesAt w (some ⟨b,0,none⟩) 1 [y]:=by
 refine ⟨rfl,fun x hx => by rw [List.mem_singleton] at hx;subst hx;exact hB,fun _ => ⟨b,0,rfl,hb.lt,fun i hi j hj => ?_⟩⟩
 obtain rfl:i=0:=by omega
 rw [show 0+9 * 0+j=j by omega]
 exact hb.cell j
theorem body_empty (w:World) (m:MemV) (h:m.body=[]):BodyAt w ⟨m,none,0⟩:=by
 refine ⟨?_,?_,?_⟩
 ·show BAt w none m.body.length m.body
  rw [h];exact fun h0 => absurd h0 (by decide)
 ·show m.body.length≤0
  rw [h];exact Nat.le_refl _
 ·show (0:Nat)≤_
  decide
theorem bod_empty (w:World) (m:NodeV) (h:m.body=[]):BodAt w ⟨m,none,0⟩:=by
 refine ⟨?_,?_,?_⟩
 ·show BAt w none m.body.length m.body
  rw [h];exact fun h0 => absurd h0 (by decide)
 ·show m.body.length≤0
  rw [h];exact Nat.le_refl _
 ·show (0:Nat)≤_
  decide
def TwoPost (w w':World) (q:Option Addr) (d:Nat):Prop:=
 ∃ b o g c1 c2 z1,q=some ⟨b,o,none⟩∧w.heap.size≤b∧b < w'.heap.size∧2≤d∧d≤maxLen∧BAt w' g 1 [120]∧Cells9 w' b o ⟨nA,g,c1⟩∧Cells9 w' b (o+9) ⟨nB,z1,c2⟩ ∧ ∃ zs,zs.map NP.m=[nA,nB]∧NodesAt w' q 2 zs
theorem two_post {w w':World} {e:Ending} (h:FoldPost w [fB,hA] e w'):∃ q d,e=.returned (.tuple #[.slice q 2 d,.agg #[.int .i64 0,.int .i64 0]])∧TwoPost w w' q d∧Below w.heap.size w w':=by
 unfold FoldPost at h;rw [foldBA] at h;obtain ⟨q,d,zs,rfl,hz,hn,hd,hd2,hb,hq,hy⟩:=h;refine ⟨q,d,rfl,?_,hb⟩
 match zs,hz with
 | [z0,z1],hz =>
   simp only [List.map_cons,List.map_nil,List.cons.injEq,and_true] at hz;obtain ⟨h0,h1⟩:=hz;obtain ⟨m0,p0,c0⟩:=z0;obtain ⟨m1,p1,c1⟩:=z1;simp only at h0 h1;subst h0 h1;obtain ⟨b,o,e1,hbl,hB,k0⟩:=hn.cells9 (i:=0) (by decide)
   obtain ⟨b',o',e2,_,_,k1⟩:=hn.cells9 (i:=1) (by decide)
   rw [e1] at e2;obtain ⟨rfl,rfl⟩:b=b'∧o=o':=by simpa using e2
   have k0':Cells9 w' b o ⟨nA,p0,c0⟩:=by simpa using k0
   have k1':Cells9 w' b (o+9) ⟨nB,p1,c1⟩:=by simpa using k1
   exact ⟨b,o,p0,c0,c1,p1,e1,hq _ e1,hbl,hd,hd2,hB.bat,k0',k1',_,rfl,hn⟩
theorem two_fold (W:World) (b g:Nat) (hb:Blk W b 45 (cells16 ⟨fB,some ⟨g,0,none⟩,1⟩ ⟨hA,none,0⟩)) (hg:BAt W (some ⟨g,0,none⟩) 1 [120]) (hT:Path.Tabs W) :
 Calls Tryd.prog 10 #[.slice (some ⟨b,0,none⟩) 2 2] W fun e w' => ∃ q d,e=.returned (.tuple #[.slice q 2 d,.agg #[.int .i64 0,.int .i64 0]])∧TwoPost W w' q d∧Below W.heap.size W w':=
 (tfold_any (some ⟨b,0,none⟩) 2 2 [⟨fB,some ⟨g,0,none⟩,1⟩,⟨hA,none,0⟩] W (mems_two hb ⟨hg,by show (1:Nat)≤1;decide,by show (1:Nat)≤maxLen;decide⟩ (body_empty W hA rfl)) (by decide) (fun x hx => by
  rcases List.mem_cons.1 hx with rfl | hx
  ·exact ⟨by show (1:Nat)≤_;decide,by show (0:Nat)≤_;decide⟩
  ·rw [List.mem_singleton.1 hx];exact ⟨by show (1:Nat)≤_;decide,by show (1:Nat)≤_;decide⟩) (fun x hx => by
  rcases List.mem_cons.1 hx with rfl | hx
  ·show (1:Nat)≤_;decide
  ·rw [List.mem_singleton.1 hx];show (0:Nat)≤_;decide) hT).mono fun _ _ h => two_post h
theorem one_fold (W:World) (b:Nat) (hb:Blk W b 45 (MP.cs ⟨hA,none,0⟩)) (hT:Path.Tabs W) :
 Calls Tryd.prog 10 #[.slice (some ⟨b,0,none⟩) 1 1] W fun e w' => ∃ q d,e=.returned (.tuple #[.slice q 0 d,.agg #[.int .i64 7,.int .i64 0]])∧Below W.heap.size W w':=
 (tfold_any (some ⟨b,0,none⟩) 1 1 [⟨hA,none,0⟩] W (mems_one hb (body_empty W hA rfl)) (by decide) (fun x hx => by
  rw [List.mem_singleton.1 hx];exact ⟨by show (1:Nat)≤_;decide,by show (1:Nat)≤_;decide⟩) (fun x hx => by
  rw [List.mem_singleton.1 hx];show (0:Nat)≤_;decide) hT).mono fun _ _ h => by
   unfold FoldPost at h;rw [show ([⟨hA,none,0⟩]:List MP).map MP.m=[hA] from rfl,foldA] at h
   obtain ⟨q,d,zs,rfl,_,_,_,_,hb,_,_⟩:=h;exact ⟨q,d,rfl,hb⟩
theorem two_good (W:World) (q:Option Addr) (d:Nat) (hd:2≤d) (hd2:d≤maxLen) (h:∃ zs,zs.map NP.m=[nA,nB]∧NodesAt W q 2 zs) (hT:Path.Tabs W) :
 Calls Tryd.prog 14 #[.slice q 2 d] W fun e w' => e=.returned (.bool true)∧Below W.heap.size W w':=by
 obtain ⟨zs,hz,hn⟩:=h
 have:=tgood_any q 2 d zs W hn hd hd2 (fun x hx => by
  have:x.m ∈ [nA,nB]:=by rw [← hz];exact List.mem_map_of_mem hx
  unfold FitN;rcases List.mem_cons.1 this with e | e
  ·rw [e];exact ⟨by show (1:Nat)≤_;decide,by show (0:Nat)≤_;decide⟩
  ·rw [List.mem_singleton.1 e];exact ⟨by show (1:Nat)≤_;decide,by show (0:Nat)≤_;decide⟩) hT
 rw [hz,goodBA] at this;exact this
theorem zero_good (W:World) (b:Nat) (hb:Blk W b 38 (NP.cs zeroQ)) (hT:Path.Tabs W) :
 Calls Tryd.prog 14 #[.slice (some ⟨b,0,none⟩) 1 1] W fun e w' => e=.returned (.bool false)∧Below W.heap.size W w':=by
 have:=tgood_any (some ⟨b,0,none⟩) 1 1 [zeroQ] W (nodes_one hb (bod_empty W zeroN rfl)) (by decide) (by decide) (fun x hx => by
  rw [List.mem_singleton.1 hx];exact ⟨by show (0:Nat)≤_;decide,by show (0:Nat)≤_;decide⟩) hT
 rw [show ([zeroQ]:List NP).map NP.m=[zeroN] from rfl,goodZ] at this
 exact this
set_option maxHeartbeats 4000000 in
theorem ans10_any (w:World) (hT:Path.Tabs w):Calls Tryd.prog 9 #[] w fun e w' => e=.returned (.bool true)∧Below w.heap.size w w':=by
 have kc:(convert 36 36 (.slice (some ⟨w.heap.size,0,none⟩) 1 1)).run Tryd.prog (w.alloc (.cells #[.int .u8 120] 5))=.ok (.slice (some ⟨w.heap.size,0,none⟩) 1 1) (w.alloc (.cells #[.int .u8 120] 5 (1,2))):=
  Lib.run_convert_bytes_const (P:=Tryd.prog) w 36 5 #[.int .u8 120] 1 1 Tryd.underlying36 Tryd.underlying5
 obtain ⟨W1,hW1⟩:∃ W1,(w.alloc (.cells #[.int .u8 120] 5 (1,2))).alloc (.cells #[.string ⟨#[98]⟩,.string ⟨#[]⟩,.int .u8 48,.int .i64 0,.int .i64 0,.int .i64 0,.int .i64 0,.slice (some ⟨w.heap.size,0,none⟩) 1 1,.string ⟨#[97]⟩,.string ⟨#[98]⟩,.int .u8 49,.int .i64 0,.int .i64 0,.int .i64 0,.int .i64 0,.slice none 0 0] 45)=W1:=⟨_,rfl⟩;have hB1:Below w.heap.size w W1:=by rw [← hW1];exact ((Below.refl _ w).alloc (Nat.le_refl _) _).alloc (by simp) _
 have hb1:Blk W1 (w.heap.size+1) 45 (cells16 ⟨fB,some ⟨w.heap.size,0,none⟩,1⟩ ⟨hA,none,0⟩):=by
  have:=Blk.new (w.alloc (.cells #[.int .u8 120] 5 (1,2))) 45 (cells16 ⟨fB,some ⟨w.heap.size,0,none⟩,1⟩ ⟨hA,none,0⟩);rw [World.size_alloc] at this;rw [← hW1];exact this
 have ht1:BAt W1 (some ⟨w.heap.size,0,none⟩) 1 [120]:=fun _ => ⟨w.heap.size,0,rfl,fun i hi => by
  obtain rfl:i=0:=by omega
  rw [← hW1]
  have:(w.alloc (.cells #[.int .u8 120] 5 (1,2))).cell? ⟨w.heap.size,0,none⟩=some (.int .u8 120):=by
   unfold World.cell?;rw [heap_alloc_new];rfl
  exact (((Below.refl (w.heap.size+1) (w.alloc (.cells #[.int .u8 120] 5 (1,2)))).alloc (by simp) _).cell (p:=⟨w.heap.size,0,none⟩) (by show w.heap.size < w.heap.size+1;omega)).trans this⟩
 have HA:=Lib.hid (two_fold W1 _ _ hb1 ht1 (hT.below hB1));have HW1:=Lib.hid hW1;have HB1:=Lib.hid hB1;have HT:=Lib.hid hT;clear hW1 hB1 hb1 ht1 hT
 go_enter Tryd.func9,Tryd.ntmps9
 go_wp2_with fail
 rw [HW1.out];refine HA.out.mono ?_
 rintro e w2 ⟨q,d,rfl,hP2,hb2⟩;have HB2:=Lib.hid (HB1.out.trans (hb2.mono HB1.out.size));have HP2:=Lib.hid hP2;clear hb2 hP2 HA HW1
 go_wp2_with fail
 obtain ⟨W3,hW3⟩:∃ W3,(w2.alloc (.cells #[.int .i64 0,.int .i64 0] 28)).alloc (.cells #[.string ⟨#[97]⟩,.string ⟨#[98]⟩,.int .u8 49,.int .i64 0,.int .i64 0,.int .i64 0,.int .i64 0,.slice none 0 0] 45)=W3:=⟨_,rfl⟩;have h23:Below w2.heap.size w2 W3:=by rw [← hW3];exact ((Below.refl _ _).alloc (Nat.le_refl _) _).alloc (by simp) _
 have hX3:Blk W3 w2.heap.size 28 #[.int .i64 0,.int .i64 0]:=by
  have hx:=Blk.new w2 28 #[.int .i64 0,.int .i64 0];rw [← hW3];exact hx.below ((Below.refl _ _).alloc (Nat.le_refl _) _) hx.lt
 have hb3:Blk W3 (w2.heap.size+1) 45 (MP.cs ⟨hA,none,0⟩):=by
  have:=Blk.new (w2.alloc (.cells #[.int .i64 0,.int .i64 0] 28)) 45 (MP.cs ⟨hA,none,0⟩);rw [World.size_alloc] at this;rw [← hW3];exact this
 have HB3:=Lib.hid (HB2.out.trans (h23.mono HB2.out.size));have HA3:=Lib.hid (one_fold W3 _ hb3 (HT.out.below HB3.out));have HW3:=Lib.hid hW3;have H23:=Lib.hid h23;have HX3:=Lib.hid hX3;clear hW3 h23 hX3 hb3;rw [HW3.out];refine HA3.out.mono ?_
 rintro e w4 ⟨q4,d4,rfl,hb4⟩;have H24:=Lib.hid (H23.out.trans (hb4.mono H23.out.size));have HX4:=Lib.hid (HX3.out.below hb4 HX3.out.lt);have HB4:=Lib.hid (HB3.out.trans (hb4.mono HB3.out.size));clear hb4
 go_upto_region 3 with fail
 obtain ⟨W5,hW5⟩:∃ W5,w4.alloc (.cells #[.int .i64 7,.int .i64 0] 28)=W5:=⟨_,rfl⟩;rw [hW5];have h45:Below w4.heap.size w4 W5:=by rw [← hW5];exact (Below.refl _ _).alloc (Nat.le_refl _) _
 have hX5:Blk W5 w4.heap.size 28 #[.int .i64 7,.int .i64 0]:=by rw [← hW5];exact Blk.new w4 _ _
 have h25:Below w2.heap.size w2 W5:=H24.out.trans (h45.mono H24.out.size);have f0:=(HX4.out.below h45 HX4.out.lt).cell 0;have f7:=hX5.cell 0;simp only [List.getElem?_toArray,List.getElem?_cons_zero] at f0 f7;have HB5:=Lib.hid (HB4.out.trans (h45.mono HB4.out.size));unfold TwoPost at HP2;obtain ⟨b,o,g,c1,c2,z1,rfl,hb1,hb2,hd,hd2,hbg,k0,k1,hzs⟩:=HP2.out;have j0:=k0.below hb2 h25;have j1:=k1.below hb2 h25;have s0:W5.cell? ⟨b,o+2,none⟩=some (.string ⟨#[97]⟩):=j0.2.2.1;have s1:W5.cell? ⟨b,o+9+2,none⟩=some (.string ⟨#[97]⟩):=j1.2.2.1;have sb:W5.cell? ⟨b,o+8,none⟩=some (.slice g 1 c1):=j0.2.2.2.2.2.2.2.2
 have cs:(convert 36 9 (.slice g 1 c1)).run Tryd.prog W5=.ok (.string ⟨#[120]⟩) W5:=conv_at (hbg.below h25) rfl _ _ _ Tryd.underlying36 Tryd.underlying5 Tryd.underlying9 c1
 have HG:=Lib.hid (two_good W5 (some ⟨b,o,none⟩) d hd hd2 (by
  obtain ⟨zs,hz,hn⟩:=hzs
  exact ⟨zs,hz,hn.below h25⟩) (HT.out.below HB5.out))
 clear HP2 hb1 hb2 hd hd2 hbg k0 k1 j0 j1 hzs hX5 h25 hW5 h45
 go_wp2_with fail
 refine HG.out.mono ?_
 rintro e w6 ⟨rfl,hb6⟩;obtain ⟨W7,hW7⟩:∃ W7,w6.alloc (.cells #[.string ⟨#[]⟩,.string ⟨#[]⟩,.string ⟨#[]⟩,.int .u8 0,.int .i64 0,.int .i64 0,.int .i64 0,.int .i64 0,.slice none 0 0] 38)=W7:=⟨_,rfl⟩;have h67:Below w6.heap.size w6 W7:=by rw [← hW7];exact (Below.refl _ _).alloc (Nat.le_refl _) _
 have hn7:Blk W7 w6.heap.size 38 (NP.cs zeroQ):=by rw [← hW7];exact Blk.new w6 _ _
 have HB6:=Lib.hid (HB5.out.trans (hb6.mono HB5.out.size));have HB7:=Lib.hid (HB6.out.trans (h67.mono HB6.out.size));have HZ:=Lib.hid (zero_good W7 _ hn7 (HT.out.below HB7.out));have HW7:=Lib.hid hW7;clear hb6 hW7 h67 hn7 f0 f7 s0 s1 sb cs HG HA3
 go_wp2_with fail
 rw [HW7.out];refine HZ.out.mono ?_
 rintro e w8 ⟨rfl,hb8⟩;have FIN:=Lib.hid (HB7.out.trans (hb8.mono HB7.out.size));clear hb8
 go_wp2
 go_ret
 exact ⟨rfl,FIN.out⟩
end Go.Proofs.YthaoohbdjlbaeaaDoor.Tre
end
section
namespace Go.Proofs.YthaoohbdjlbaeaaDoor.Tre
open Go.ChangeShapes Go.WideShapes Go.ChangeAt Go.RowKit Base Byt Txt Bk Mem Go.Lib
set_option linter.unusedVariables false
set_option maxRecDepth 100000
theorem eqFltT_deep (a b a' b':Int) (n:Nat) (w:World):(Op.equalIn (n+1+1) 28 (.agg #[.int .i64 a,.int .i64 b]) (.agg #[.int .i64 a',.int .i64 b'])).run Tryd.prog w=.ok (decide (a=a'∧b=b')) w:=by
 have hM:Tryd.prog.underlying 28=some (.struct (Tryd.prog.fieldsOf 28)):=by kernel_rfl
 have pM:Tryd.prog.stoodInHeld 28=false:=by kernel_rfl
 rw [run_equalIn_agg (P:=Tryd.prog) w (n+1) 28 _ _ hM pM];clear hM pM;simp only [Program.fieldsOf,Tryd.underlying28]
 go_simp
 by_cases h4:a=a'<;>by_cases h5:b=b'<;>simp [h4,h5]
theorem eqFltT_self (a b:Int) (w:World):(binOp .eql 28 (.agg #[.int .i64 a,.int .i64 b]) (.agg #[.int .i64 a,.int .i64 b])).run Tryd.prog w=.ok (.bool true) w:=by
 rw [run_eql_struct,show (10000:Nat)=9998+1+1 from rfl,eqFltT_deep,decide_eq_true ⟨rfl,rfl⟩]
 rfl
theorem foldD_fit {ms:List MemV} {B:Nat} (h:∀ m ∈ ms,m.path.length≤B∧m.target.length≤B):∀ x ∈ (foldD ms).1,x.path.length≤B∧x.target.length≤B:=by
 rcases foldD_cases ms with ⟨i,_,e⟩ | ⟨_,i,_,e⟩ | ⟨hb,S,hS,e⟩
 ·rw [e];intro x hx;cases hx
 ·rw [e];intro x hx;cases hx
 ·rw [e]
  intro x hx;have hx':x ∈ (sortS S).map (nodeD ms (sortS S)):=hx;obtain ⟨a,ha,rfl⟩:=List.mem_map.1 hx';have ha':=(sortS_perm S).mem_iff.1 ha;obtain ⟨j,hj,e1⟩:=(laysD_ok _ _ _ hS).from_ a ha';have h2:=laysD_in _ _ _ (Nat.le_refl _) hS a ha';refine ⟨?_,(h _ (getM_in h2)).2⟩;show a.1.length≤B;rw [e1];exact (h _ (getM_in hj)).1
theorem all_of_map {xs ys:List MP} (h:ys.map MP.m=xs.map MP.m) {P:MemV → Prop} (hx:∀ x ∈ xs,P x.m):∀ y ∈ ys,P y.m:=fun y hy => by
 have:y.m ∈ xs.map MP.m:=by rw [← h];exact List.mem_map_of_mem hy
 obtain ⟨x,hx',e⟩:=List.mem_map.1 this;rw [← e];exact hx x hx'
theorem fit_nodes {ms:List MemV} {zs:List NP} {B:Nat} (hz:zs.map NP.m=(foldD ms).1) (h:∀ m ∈ ms,m.path.length≤B∧m.target.length≤B):∀ z ∈ zs,z.m.path.length≤B∧z.m.target.length≤B:=fun z hz' =>
 foldD_fit h z.m (by rw [← hz];exact List.mem_map_of_mem hz')
end Go.Proofs.YthaoohbdjlbaeaaDoor.Tre
end
section
namespace Go.Proofs.YthaoohbdjlbaeaaDoor.Walk
open Go.ChangeShapes Go.WideShapes Go.ChangeAt Go.RowKit Base Byt Txt Bk Mem Tre Go.Lib
set_option linter.unusedVariables false
set_option maxRecDepth 100000
set_option maxHeartbeats 4000000 in
theorem treeFolds (a0:Option Addr) (len0 cap0:Nat) (xs0:List MP) (w:World) (ma0:MemsAt w a0 len0 xs0) (lc0:len0≤cap0) (cm0:cap0≤maxLen) (by0:cap0 * 96≤140737488351232) (rm0:∀ x ∈ xs0,WfM x.m∧RoomM x) (hT:Path.Tabs w) :
 Calls Tryd.prog 3 #[.slice a0 len0 cap0] w fun e w' => e=.returned (.bool true)∧Below w.heap.size w w':=by
 have HS:=Lib.hid (light1_any a0 len0 cap0 xs0 w ma0 fun x hx => (rm0 x hx).2)
 have HAN:Hid (∀ w1,Below w.heap.size w w1 → Calls Tryd.prog 9 #[] w1 fun e w' => e=.returned (.bool true)∧Below w1.heap.size w1 w'):=Lib.hid fun w1 h => ans10_any w1 (hT.below h)
 have HA0:=Lib.hid ma0;have HT:=Lib.hid hT;obtain ⟨s,hs⟩:∃ s,light1D (xs0.map MP.m)=s:=⟨_,rfl⟩;rw [hs] at HS;have HE:=Lib.hid hs;clear ma0 lc0 cm0 by0 rm0 hT hs
 go_enter Tryd.func3,Tryd.ntmps3
 go_wp2_with fail
 refine HS.out.mono ?_
 rintro e w1 ⟨rfl,rfl⟩;clear HS
 cases s with
 | false =>
   go_wp2_with fail
   refine (HAN.out _ (Below.refl _ _)).mono ?_
   rintro e w2 ⟨rfl,hb2⟩;have FIN:=Lib.hid hb2;clear hb2
   go_wp2
   go_ret
   exact ⟨rfl,FIN.out⟩
 | true =>
   have hfit:=light1D_facts HE.out;rw [List.length_map] at hfit;have hl0:len0≤60:=by rw [← HA0.out.1];exact hfit.1
   have HF:Hid (∀ x ∈ xs0,x.m.path.length≤2000∧x.m.target.length≤2000∧x.m.body.length≤100000):=Lib.hid fun x hx => hfit.2 x.m (List.mem_map_of_mem hx)
   have HOW:=Lib.hid (rown_any a0 len0 cap0 xs0 w HA0.out (by omega) (fun x hx => by have:=(HF.out x hx).2.2;omega))
   unfold OwnPost at HOW;clear hfit
   go_wp2_with fail
   refine HOW.out.mono ?_
   rintro e w2 ⟨q,d,ys,rfl,hys,hyn,hb2⟩;have HB2:=Lib.hid hb2;have HYF:Hid (∀ y ∈ ys,y.m.path.length≤2000∧y.m.target.length≤2000∧y.m.body.length≤100000):=Lib.hid (all_of_map (P:=fun m => m.path.length≤2000∧m.target.length≤2000∧m.body.length≤100000) hys HF.out)
   have hf:=tfold_any q len0 d ys w2 hyn (by omega) (fun y hy => by have:=HYF.out y hy;exact ⟨by omega,by omega⟩) (fun y hy => by have:=(HYF.out y hy).2.2;omega) (HT.out.below hb2)
   rw [hys] at hf;unfold FoldPost at hf;have HFO:=Lib.hid hf;have HG:Hid ((foldD (xs0.map MP.m)).2.1=0 → goodT (foldD (xs0.map MP.m)).1=true):=Lib.hid (foldD_good (by rw [List.length_map,HA0.out.1];omega))
   have HFL:Hid ((foldD (xs0.map MP.m)).1.length≤60):=Lib.hid (by have:=foldD_len (xs0.map MP.m);rw [List.length_map,HA0.out.1] at this;omega)
   have HRF:Hid (∀ w',Below w.heap.size w w' → Calls Tryd.prog 12 #[.slice a0 len0 cap0] w' (RFoldPost w' (xs0.map MP.m))):=Lib.hid fun w' h => rfold_any a0 len0 cap0 xs0 w' (HA0.out.below h) (by omega) (fun x hx => by have:=HF.out x hx;exact ⟨by omega,by omega,by omega⟩)
   have HFN:Hid (∀ zs:List NP,zs.map NP.m=(foldD (xs0.map MP.m)).1 → ∀ z ∈ zs,FitN z):=Lib.hid fun zs hz z hm => by
    have:=fit_nodes hz (B:=2000) (fun m hm => by
     obtain ⟨x,hx,rfl⟩:=List.mem_map.1 hm
     exact ⟨(HF.out x hx).1,(HF.out x hx).2.1⟩) z hm
    exact ⟨by omega,by omega⟩
   unfold RFoldPost at HRF;obtain ⟨t,ht⟩:∃ t,(foldD (xs0.map MP.m)).1=t:=⟨_,rfl⟩;obtain ⟨er,her⟩:∃ er,(foldD (xs0.map MP.m)).2.1=er:=⟨_,rfl⟩;obtain ⟨ix,hix⟩:∃ ix,((foldD (xs0.map MP.m)).2.2:Int)=ix:=⟨_,rfl⟩;rw [ht] at HFO HG HFL HRF HFN;rw [her] at HFO HG HRF;rw [hix] at HFO HRF;clear hf hys hyn hb2 ht her hix HOW
   go_wp2_with fail
   refine HFO.out.mono ?_
   rintro e w3 ⟨q3,d3,zs,rfl,hz,hnod,hd,hd2,hb3,_,_⟩;obtain ⟨W3,hW3⟩:∃ W3,w3.alloc (.cells #[.int .i64 er,.int .i64 ix] 28)=W3:=⟨_,rfl⟩;have h33:Below w3.heap.size w3 W3:=by rw [← hW3];exact (Below.refl _ _).alloc (Nat.le_refl _) _
   have HX3:Hid (Blk W3 w3.heap.size 28 #[.int .i64 er,.int .i64 ix]):=Lib.hid (by rw [← hW3];exact Blk.new w3 _ _)
   have hb23:=HB2.out.trans (hb3.mono HB2.out.size);have HB3:=Lib.hid (hb23.trans (h33.mono hb23.size));have HN3:=Lib.hid (And.intro hz (And.intro (hnod.below h33) (And.intro hd hd2)));have hr:=HRF.out W3 HB3.out;have HR:=Lib.hid hr;clear hz hnod hd hd2 hb3 h33 hb23 hr HFO
   go_upto_region 4 with fail
   clear hW3
   go_wp2_with fail
   refine HR.out.mono ?_
   rintro e w4 ⟨q4,d4,us,rfl,hu,hnou,hb4⟩;obtain ⟨W4,hW4⟩:∃ W4,w4.alloc (.cells #[.int .i64 er,.int .i64 ix] 28)=W4:=⟨_,rfl⟩;have h44:Below w4.heap.size w4 W4:=by rw [← hW4];exact (Below.refl _ _).alloc (Nat.le_refl _) _
   have HX4:Hid (Blk W4 w4.heap.size 28 #[.int .i64 er,.int .i64 ix]):=Lib.hid (by rw [← hW4];exact Blk.new w4 _ _)
   have hb34:=hb4.trans (h44.mono hb4.size);have HX34:=Lib.hid (HX3.out.below hb34 HX3.out.lt);have HB4:=Lib.hid (HB3.out.trans (hb34.mono HB3.out.size));have HN34:=Lib.hid (HN3.out.2.1.below hb34);have HN4:=Lib.hid (And.intro hu (hnou.below h44));clear hu hnou hb4 h44 hb34 HR
   go_upto_region 5 with fail
   clear hW4
   go_wp2_with fail
   refine (HAN.out _ HB4.out).mono ?_
   rintro e w5 ⟨rfl,hb5⟩;have HB5:=Lib.hid (HB4.out.trans (hb5.mono HB4.out.size));have hx3:=HX34.out.below hb5 HX34.out.lt;have hx4:=HX4.out.below hb5 HX4.out.lt;have x0:=hx3.cell 0;have x1:=hx3.cell 1;have y0:=hx4.cell 0;have y1:=hx4.cell 1;simp only [List.getElem?_toArray,List.getElem?_cons_zero,List.getElem?_cons_succ] at x0 x1 y0 y1;have HX5:=Lib.hid hx3;have EQ:=eqFltT_self er ix;have hsm:=rsameT_any q3 q4 t.length t.length d3 d4 zs us w5 (by have:=HFL.out;unfold maxLen;omega) (HN34.out.below hb5) (HN4.out.2.below hb5)
   rw [decide_eq_true (by rw [HN3.out.1,HN4.out.1])] at hsm
   have HSM:=Lib.hid hsm;have HN5:=Lib.hid (HN34.out.below hb5);clear hb5 hx3 hx4 hsm
   go_wp2_with fail
   refine HSM.out.mono ?_
   rintro e w6 ⟨rfl,hb6⟩;have HB6:=Lib.hid (HB5.out.trans (hb6.mono HB5.out.size));have x0:=(HX5.out.below hb6 HX5.out.lt).cell 0;simp only [List.getElem?_toArray,List.getElem?_cons_zero] at x0;have HGT:=Lib.hid (tgood_any q3 t.length d3 zs w6 (HN5.out.below hb6) HN3.out.2.2.1 HN3.out.2.2.2 (HFN.out zs HN3.out.1) (HT.out.below HB6.out));clear hb6 x1 y0 y1 EQ HSM
   by_cases h0:er=0
   ·have hg:=HG.out h0
    have HGG:Hid (goodT (zs.map NP.m)=true):=Lib.hid (by rw [HN3.out.1];exact hg)
    have e0:(er != (0:Int))=false:=by rw [h0];rfl
    clear hg
    go_wp2_with fail
    refine HGT.out.mono ?_
    rintro e w7 ⟨rfl,hb7⟩;rw [HGG.out];have FIN:=Lib.hid (HB6.out.trans (hb7.mono HB6.out.size));clear hb7
    go_wp2
    go_ret
    exact ⟨rfl,FIN.out⟩
   ·have e0:(er != (0:Int))=true:=by simpa using h0
    go_wp2
    go_ret
    exact ⟨rfl,HB6.out⟩
end Go.Proofs.YthaoohbdjlbaeaaDoor.Walk
end
