/- Texts of this seat, merged: what the proof reaches. -/
import Derived.Test.YthaoohbdjlbaeaaDoorTreeLastX26
import Derived.Test.YthaoohbdjlbaeaaDoorTreeLastX20
import Derived.Lib.SlBytesConst
import Derived.Test.YthaoohbdjlbaeaaDoorTreeLastX21
import Derived.Test.YthaoohbdjlbaeaaDoorTreeLastX17
import Derived.Test.YthaoohbdjlbaeaaDoorTreeLastX19
import Derived.Test.YthaoohbdjlbaeaaDoorTreeLastX6
namespace Go.Proofs.YthaoohbdjlbaeaaDoor
namespace Base
end Base
namespace Bk
end Bk
namespace Block
end Block
namespace Byt
end Byt
namespace Mem
end Mem
namespace Mp
end Mp
namespace Rec
end Rec
namespace Tre
end Tre
namespace Txt
end Txt
end Go.Proofs.YthaoohbdjlbaeaaDoor
section
namespace Go.Proofs.YthaoohbdjlbaeaaDoor.Tre
open Go.ChangeShapes Go.WideShapes Go.ChangeAt Go.RowKit Base Byt Txt Bk Mem Go.Lib
set_option linter.unusedVariables false
set_option maxRecDepth 100000
def fB:MemV:=⟨[98],[],48,0,0,0,0,[120]⟩
def hA:MemV:=⟨[97],[98],49,0,0,0,0,[]⟩
def nA:NodeV:=⟨[97],[],[97],48,0,0,0,0,[120]⟩
def nB:NodeV:=⟨[98],[],[97],48,0,0,0,0,[120]⟩
theorem foldBA:foldD [fB,hA]=([nA,nB],0,0):=by
 have h1:badAt [fB,hA]=none:=by decide +kernel
 have h2:laysD [fB,hA] [fB,hA].length=.ok [([98],0),([97],0)]:=rfl;have h3:sortS [([98],0),([97],0)]=[([97],0),([98],0)]:=(sortS_only (by unfold Apart;decide) (List.Perm.swap _ _ _) (by unfold RiseS;decide +kernel)).symm
 rw [foldD_ok h1 h2];unfold treeD;rw [h3];rfl
theorem foldA:foldD [hA]=([],7,0):=foldD_link (by decide +kernel) rfl
theorem goodBA:goodT [nA,nB]=true:=by decide +kernel
theorem goodZ:goodT [zeroN]=false:=by decide +kernel
def cells16 (x y:MP):Array Value:=#[.string (str x.m.path),.string (str x.m.target),.int .u8 (x.m.kind.toNat:Int),.int .i64 x.m.mode,.int .i64 x.m.uid,.int .i64 x.m.gid,.int .i64 x.m.time,.slice x.p x.m.body.length x.c,
 .string (str y.m.path),.string (str y.m.target),.int .u8 (y.m.kind.toNat:Int),.int .i64 y.m.mode,.int .i64 y.m.uid,.int .i64 y.m.gid,.int .i64 y.m.time,.slice y.p y.m.body.length y.c]
theorem mems_two {w:World} {b:Nat} {x y:MP} (hb:Blk w b 45 (cells16 x y)) (hx:BodyAt w x) (hy:BodyAt w y):MemsAt w (some ⟨b,0,none⟩) 2 [x,y]:=by
 refine ⟨rfl,fun z hz => ?_,fun _ => ⟨b,0,rfl,hb.lt,fun i hi j hj => ?_⟩⟩
 ·rcases List.mem_cons.1 hz with rfl | hz
  ·exact hx
  ·rw [List.mem_singleton.1 hz];exact hy
 ·rw [hb.cell,Nat.zero_add]
  match i,hi,j,hj with
  | 0,_,0,_ => rfl
  | 0,_,1,_ => rfl
  | 0,_,2,_ => rfl
  | 0,_,3,_ => rfl
  | 0,_,4,_ => rfl
  | 0,_,5,_ => rfl
  | 0,_,6,_ => rfl
  | 0,_,7,_ => rfl
  | 1,_,0,_ => rfl
  | 1,_,1,_ => rfl
  | 1,_,2,_ => rfl
  | 1,_,3,_ => rfl
  | 1,_,4,_ => rfl
  | 1,_,5,_ => rfl
  | 1,_,6,_ => rfl
  | 1,_,7,_ => rfl
theorem mems_one {w:World} {b:Nat} {y:MP} (hb:Blk w b 45 y.cs) (hB:BodyAt w y):MemsAt w (some ⟨b,0,none⟩) 1 [y]:=by
 refine ⟨rfl,fun x hx => by rw [List.mem_singleton] at hx;subst hx;exact hB,fun _ => ⟨b,0,rfl,hb.lt,fun i hi j hj => ?_⟩⟩
 obtain rfl:i=0:=by omega
 rw [show 0+8 * 0+j=j by omega]
 exact hb.cell j
theorem nodes_one {w:World} {b:Nat} {y:NP} (hb:Blk w b 38 y.cs) (hB:BodAt w y):NodesAt w (some ⟨b,0,none⟩) 1 [y]:=by
 refine ⟨rfl,fun x hx => by rw [List.mem_singleton] at hx;subst hx;exact hB,fun _ => ⟨b,0,rfl,hb.lt,fun i hi j hj => ?_⟩⟩
 obtain rfl:i=0:=by omega
 rw [show 0+9 * 0+j=j by omega]
 exact hb.cell j
theorem body_empty (w:World) (m:MemV) (h:m.body=[]):BodyAt w ⟨m,none,0⟩:=by
 refine ⟨?_,?_,?_⟩
 ·show BAt w none m.body.length m.body
  rw [h];exact fun h0 => absurd h0 (by decide)
 ·show m.body.length≤0
  rw [h];exact Nat.le_refl _
 ·show (0:Nat)≤_
  decide
theorem bod_empty (w:World) (m:NodeV) (h:m.body=[]):BodAt w ⟨m,none,0⟩:=by
 refine ⟨?_,?_,?_⟩
 ·show BAt w none m.body.length m.body
  rw [h];exact fun h0 => absurd h0 (by decide)
 ·show m.body.length≤0
  rw [h];exact Nat.le_refl _
 ·show (0:Nat)≤_
  decide
def TwoPost (w w':World) (q:Option Addr) (d:Nat):Prop:=
 ∃ b o g c1 c2 z1,q=some ⟨b,o,none⟩∧w.heap.size≤b∧b < w'.heap.size∧2≤d∧d≤maxLen∧BAt w' g 1 [120]∧Cells9 w' b o ⟨nA,g,c1⟩∧Cells9 w' b (o+9) ⟨nB,z1,c2⟩ ∧ ∃ zs,zs.map NP.m=[nA,nB]∧NodesAt w' q 2 zs
theorem two_post {w w':World} {e:Ending} (h:FoldPost w [fB,hA] e w'):∃ q d,e=.returned (.tuple #[.slice q 2 d,.agg #[.int .i64 0,.int .i64 0]])∧TwoPost w w' q d∧Below w.heap.size w w':=by
 unfold FoldPost at h;rw [foldBA] at h;obtain ⟨q,d,zs,rfl,hz,hn,hd,hd2,hb,hq,hy⟩:=h;refine ⟨q,d,rfl,?_,hb⟩
 match zs,hz with
 | [z0,z1],hz =>
   simp only [List.map_cons,List.map_nil,List.cons.injEq,and_true] at hz;obtain ⟨h0,h1⟩:=hz;obtain ⟨m0,p0,c0⟩:=z0;obtain ⟨m1,p1,c1⟩:=z1;simp only at h0 h1;subst h0 h1;obtain ⟨b,o,e1,hbl,hB,k0⟩:=hn.cells9 (i:=0) (by decide)
   obtain ⟨b',o',e2,_,_,k1⟩:=hn.cells9 (i:=1) (by decide)
   rw [e1] at e2;obtain ⟨rfl,rfl⟩:b=b'∧o=o':=by simpa using e2
   have k0':Cells9 w' b o ⟨nA,p0,c0⟩:=by simpa using k0
   have k1':Cells9 w' b (o+9) ⟨nB,p1,c1⟩:=by simpa using k1
   exact ⟨b,o,p0,c0,c1,p1,e1,hq _ e1,hbl,hd,hd2,hB.bat,k0',k1',_,rfl,hn⟩
theorem two_fold (W:World) (b g:Nat) (hb:Blk W b 45 (cells16 ⟨fB,some ⟨g,0,none⟩,1⟩ ⟨hA,none,0⟩)) (hg:BAt W (some ⟨g,0,none⟩) 1 [120]) (hT:Path.Tabs W) :
 Calls Tryd.prog 10 #[.slice (some ⟨b,0,none⟩) 2 2] W fun e w' => ∃ q d,e=.returned (.tuple #[.slice q 2 d,.agg #[.int .i64 0,.int .i64 0]])∧TwoPost W w' q d∧Below W.heap.size W w':=
 (tfold_any (some ⟨b,0,none⟩) 2 2 [⟨fB,some ⟨g,0,none⟩,1⟩,⟨hA,none,0⟩] W (mems_two hb ⟨hg,by show (1:Nat)≤1;decide,by show (1:Nat)≤maxLen;decide⟩ (body_empty W hA rfl)) (by decide) (fun x hx => by
  rcases List.mem_cons.1 hx with rfl | hx
  ·exact ⟨by show (1:Nat)≤_;decide,by show (0:Nat)≤_;decide⟩
  ·rw [List.mem_singleton.1 hx];exact ⟨by show (1:Nat)≤_;decide,by show (1:Nat)≤_;decide⟩) (fun x hx => by
  rcases List.mem_cons.1 hx with rfl | hx
  ·show (1:Nat)≤_;decide
  ·rw [List.mem_singleton.1 hx];show (0:Nat)≤_;decide) hT).mono fun _ _ h => two_post h
theorem one_fold (W:World) (b:Nat) (hb:Blk W b 45 (MP.cs ⟨hA,none,0⟩)) (hT:Path.Tabs W) :
 Calls Tryd.prog 10 #[.slice (some ⟨b,0,none⟩) 1 1] W fun e w' => ∃ q d,e=.returned (.tuple #[.slice q 0 d,.agg #[.int .i64 7,.int .i64 0]])∧Below W.heap.size W w':=
 (tfold_any (some ⟨b,0,none⟩) 1 1 [⟨hA,none,0⟩] W (mems_one hb (body_empty W hA rfl)) (by decide) (fun x hx => by
  rw [List.mem_singleton.1 hx];exact ⟨by show (1:Nat)≤_;decide,by show (1:Nat)≤_;decide⟩) (fun x hx => by
  rw [List.mem_singleton.1 hx];show (0:Nat)≤_;decide) hT).mono fun _ _ h => by
   unfold FoldPost at h;rw [show ([⟨hA,none,0⟩]:List MP).map MP.m=[hA] from rfl,foldA] at h
   obtain ⟨q,d,zs,rfl,_,_,_,_,hb,_,_⟩:=h;exact ⟨q,d,rfl,hb⟩
theorem two_good (W:World) (q:Option Addr) (d:Nat) (hd:2≤d) (hd2:d≤maxLen) (h:∃ zs,zs.map NP.m=[nA,nB]∧NodesAt W q 2 zs) (hT:Path.Tabs W) :
 Calls Tryd.prog 14 #[.slice q 2 d] W fun e w' => e=.returned (.bool true)∧Below W.heap.size W w':=by
 obtain ⟨zs,hz,hn⟩:=h
 have:=tgood_any q 2 d zs W hn hd hd2 (fun x hx => by
  have:x.m ∈ [nA,nB]:=by rw [← hz];exact List.mem_map_of_mem hx
  unfold FitN;rcases List.mem_cons.1 this with e | e
  ·rw [e];exact ⟨by show (1:Nat)≤_;decide,by show (0:Nat)≤_;decide⟩
  ·rw [List.mem_singleton.1 e];exact ⟨by show (1:Nat)≤_;decide,by show (0:Nat)≤_;decide⟩) hT
 rw [hz,goodBA] at this;exact this
theorem zero_good (W:World) (b:Nat) (hb:Blk W b 38 (NP.cs zeroQ)) (hT:Path.Tabs W) :
 Calls Tryd.prog 14 #[.slice (some ⟨b,0,none⟩) 1 1] W fun e w' => e=.returned (.bool false)∧Below W.heap.size W w':=by
 have:=tgood_any (some ⟨b,0,none⟩) 1 1 [zeroQ] W (nodes_one hb (bod_empty W zeroN rfl)) (by decide) (by decide) (fun x hx => by
  rw [List.mem_singleton.1 hx];exact ⟨by show (0:Nat)≤_;decide,by show (0:Nat)≤_;decide⟩) hT
 rw [show ([zeroQ]:List NP).map NP.m=[zeroN] from rfl,goodZ] at this
 exact this
set_option maxHeartbeats 4000000 in
theorem ans10_any (w:World) (hT:Path.Tabs w):Calls Tryd.prog 9 #[] w fun e w' => e=.returned (.bool true)∧Below w.heap.size w w':=by
 have kc:(convert 36 36 (.slice (some ⟨w.heap.size,0,none⟩) 1 1)).run Tryd.prog (w.alloc (.cells #[.int .u8 120] 5))=.ok (.slice (some ⟨w.heap.size,0,none⟩) 1 1) (w.alloc (.cells #[.int .u8 120] 5 (1,2))):=
  Lib.run_convert_bytes_const (P:=Tryd.prog) w 36 5 #[.int .u8 120] 1 1 Tryd.underlying36 Tryd.underlying5
 obtain ⟨W1,hW1⟩:∃ W1,(w.alloc (.cells #[.int .u8 120] 5 (1,2))).alloc (.cells #[.string ⟨#[98]⟩,.string ⟨#[]⟩,.int .u8 48,.int .i64 0,.int .i64 0,.int .i64 0,.int .i64 0,.slice (some ⟨w.heap.size,0,none⟩) 1 1,.string ⟨#[97]⟩,.string ⟨#[98]⟩,.int .u8 49,.int .i64 0,.int .i64 0,.int .i64 0,.int .i64 0,.slice none 0 0] 45)=W1:=⟨_,rfl⟩;have hB1:Below w.heap.size w W1:=by rw [← hW1];exact ((Below.refl _ w).alloc (Nat.le_refl _) _).alloc (by simp) _
 have hb1:Blk W1 (w.heap.size+1) 45 (cells16 ⟨fB,some ⟨w.heap.size,0,none⟩,1⟩ ⟨hA,none,0⟩):=by
  have:=Blk.new (w.alloc (.cells #[.int .u8 120] 5 (1,2))) 45 (cells16 ⟨fB,some ⟨w.heap.size,0,none⟩,1⟩ ⟨hA,none,0⟩);rw [World.size_alloc] at this;rw [← hW1];exact this
 have ht1:BAt W1 (some ⟨w.heap.size,0,none⟩) 1 [120]:=fun _ => ⟨w.heap.size,0,rfl,fun i hi => by
  obtain rfl:i=0:=by omega
  rw [← hW1]
  have:(w.alloc (.cells #[.int .u8 120] 5 (1,2))).cell? ⟨w.heap.size,0,none⟩=some (.int .u8 120):=by
   unfold World.cell?;rw [heap_alloc_new];rfl
  exact (((Below.refl (w.heap.size+1) (w.alloc (.cells #[.int .u8 120] 5 (1,2)))).alloc (by simp) _).cell (p:=⟨w.heap.size,0,none⟩) (by show w.heap.size < w.heap.size+1;omega)).trans this⟩
 have HA:=Lib.hid (two_fold W1 _ _ hb1 ht1 (hT.below hB1));have HW1:=Lib.hid hW1;have HB1:=Lib.hid hB1;have HT:=Lib.hid hT;clear hW1 hB1 hb1 ht1 hT
 go_enter Tryd.func9,Tryd.ntmps9
 go_wp2_with fail
 rw [HW1.out];refine HA.out.mono ?_
 rintro e w2 ⟨q,d,rfl,hP2,hb2⟩;have HB2:=Lib.hid (HB1.out.trans (hb2.mono HB1.out.size));have HP2:=Lib.hid hP2;clear hb2 hP2 HA HW1
 go_wp2_with fail
 obtain ⟨W3,hW3⟩:∃ W3,(w2.alloc (.cells #[.int .i64 0,.int .i64 0] 28)).alloc (.cells #[.string ⟨#[97]⟩,.string ⟨#[98]⟩,.int .u8 49,.int .i64 0,.int .i64 0,.int .i64 0,.int .i64 0,.slice none 0 0] 45)=W3:=⟨_,rfl⟩;have h23:Below w2.heap.size w2 W3:=by rw [← hW3];exact ((Below.refl _ _).alloc (Nat.le_refl _) _).alloc (by simp) _
 have hX3:Blk W3 w2.heap.size 28 #[.int .i64 0,.int .i64 0]:=by
  have hx:=Blk.new w2 28 #[.int .i64 0,.int .i64 0];rw [← hW3];exact hx.below ((Below.refl _ _).alloc (Nat.le_refl _) _) hx.lt
 have hb3:Blk W3 (w2.heap.size+1) 45 (MP.cs ⟨hA,none,0⟩):=by
  have:=Blk.new (w2.alloc (.cells #[.int .i64 0,.int .i64 0] 28)) 45 (MP.cs ⟨hA,none,0⟩);rw [World.size_alloc] at this;rw [← hW3];exact this
 have HB3:=Lib.hid (HB2.out.trans (h23.mono HB2.out.size));have HA3:=Lib.hid (one_fold W3 _ hb3 (HT.out.below HB3.out));have HW3:=Lib.hid hW3;have H23:=Lib.hid h23;have HX3:=Lib.hid hX3;clear hW3 h23 hX3 hb3;rw [HW3.out];refine HA3.out.mono ?_
 rintro e w4 ⟨q4,d4,rfl,hb4⟩;have H24:=Lib.hid (H23.out.trans (hb4.mono H23.out.size));have HX4:=Lib.hid (HX3.out.below hb4 HX3.out.lt);have HB4:=Lib.hid (HB3.out.trans (hb4.mono HB3.out.size));clear hb4
 go_upto_region 3 with fail
 obtain ⟨W5,hW5⟩:∃ W5,w4.alloc (.cells #[.int .i64 7,.int .i64 0] 28)=W5:=⟨_,rfl⟩;rw [hW5];have h45:Below w4.heap.size w4 W5:=by rw [← hW5];exact (Below.refl _ _).alloc (Nat.le_refl _) _
 have hX5:Blk W5 w4.heap.size 28 #[.int .i64 7,.int .i64 0]:=by rw [← hW5];exact Blk.new w4 _ _
 have h25:Below w2.heap.size w2 W5:=H24.out.trans (h45.mono H24.out.size);have f0:=(HX4.out.below h45 HX4.out.lt).cell 0;have f7:=hX5.cell 0;simp only [List.getElem?_toArray,List.getElem?_cons_zero] at f0 f7;have HB5:=Lib.hid (HB4.out.trans (h45.mono HB4.out.size));unfold TwoPost at HP2;obtain ⟨b,o,g,c1,c2,z1,rfl,hb1,hb2,hd,hd2,hbg,k0,k1,hzs⟩:=HP2.out;have j0:=k0.below hb2 h25;have j1:=k1.below hb2 h25;have s0:W5.cell? ⟨b,o+2,none⟩=some (.string ⟨#[97]⟩):=j0.2.2.1;have s1:W5.cell? ⟨b,o+9+2,none⟩=some (.string ⟨#[97]⟩):=j1.2.2.1;have sb:W5.cell? ⟨b,o+8,none⟩=some (.slice g 1 c1):=j0.2.2.2.2.2.2.2.2
 have cs:(convert 36 9 (.slice g 1 c1)).run Tryd.prog W5=.ok (.string ⟨#[120]⟩) W5:=conv_at (hbg.below h25) rfl _ _ _ Tryd.underlying36 Tryd.underlying5 Tryd.underlying9 c1
 have HG:=Lib.hid (two_good W5 (some ⟨b,o,none⟩) d hd hd2 (by
  obtain ⟨zs,hz,hn⟩:=hzs
  exact ⟨zs,hz,hn.below h25⟩) (HT.out.below HB5.out))
 clear HP2 hb1 hb2 hd hd2 hbg k0 k1 j0 j1 hzs hX5 h25 hW5 h45
 go_wp2_with fail
 refine HG.out.mono ?_
 rintro e w6 ⟨rfl,hb6⟩;obtain ⟨W7,hW7⟩:∃ W7,w6.alloc (.cells #[.string ⟨#[]⟩,.string ⟨#[]⟩,.string ⟨#[]⟩,.int .u8 0,.int .i64 0,.int .i64 0,.int .i64 0,.int .i64 0,.slice none 0 0] 38)=W7:=⟨_,rfl⟩;have h67:Below w6.heap.size w6 W7:=by rw [← hW7];exact (Below.refl _ _).alloc (Nat.le_refl _) _
 have hn7:Blk W7 w6.heap.size 38 (NP.cs zeroQ):=by rw [← hW7];exact Blk.new w6 _ _
 have HB6:=Lib.hid (HB5.out.trans (hb6.mono HB5.out.size));have HB7:=Lib.hid (HB6.out.trans (h67.mono HB6.out.size));have HZ:=Lib.hid (zero_good W7 _ hn7 (HT.out.below HB7.out));have HW7:=Lib.hid hW7;clear hb6 hW7 h67 hn7 f0 f7 s0 s1 sb cs HG HA3
 go_wp2_with fail
 rw [HW7.out];refine HZ.out.mono ?_
 rintro e w8 ⟨rfl,hb8⟩;have FIN:=Lib.hid (HB7.out.trans (hb8.mono HB7.out.size));clear hb8
 go_wp2
 go_ret
 exact ⟨rfl,FIN.out⟩
end Go.Proofs.YthaoohbdjlbaeaaDoor.Tre
end
section
namespace Go.Proofs.YthaoohbdjlbaeaaDoor.Walk
open Go.ChangeShapes Go.WideShapes Go.ChangeAt Go.RowKit Base Byt Txt Bk Rec Block Mem Go.Proofs.YthaoohbdjlbaeaaDoor.Mp Tre Go.Lib
set_option linter.unusedVariables false
set_option maxRecDepth 100000
attribute [local irreducible] wpQuiet
set_option maxHeartbeats 8000000 in
theorem treeLast (a0:Option Addr) (len0 cap0:Nat) (xs0:List MP) (x1:MP) (w:World) (ma0:MemsAt w a0 len0 xs0) (lc0:len0≤cap0) (cm0:cap0≤maxLen) (by0:cap0 * 96≤140737488351232) (rm0:∀ x ∈ xs0,WfM x.m∧RoomM x)
 (ba1:BodyAt w x1) (wm1:WfM x1.m) (rm1:RoomM x1) (hT:Path.Tabs w) :
 Calls Tryd.prog 6 #[.slice a0 len0 cap0,.agg x1.cs] w fun e w' => e=.returned (.bool true)∧Below w.heap.size w w':=by
 unfold MP.cs memC;obtain ⟨W1,hW1⟩:∃ W1,w.alloc (.cells #[.string (str x1.m.path),.string (str x1.m.target),.int .u8 (x1.m.kind.toNat:Int),.int .i64 x1.m.mode,.int .i64 x1.m.uid,.int .i64 x1.m.gid,.int .i64 x1.m.time,.slice x1.p x1.m.body.length x1.c] 45)=W1:=⟨_,rfl⟩;have hB1:Below w.heap.size w W1:=by rw [← hW1];exact (Below.refl _ w).alloc (Nat.le_refl _) _
 have hX1:Blk W1 w.heap.size 45 #[.string (str x1.m.path),.string (str x1.m.target),.int .u8 (x1.m.kind.toNat:Int),.int .i64 x1.m.mode,.int .i64 x1.m.uid,.int .i64 x1.m.gid,.int .i64 x1.m.time,.slice x1.p x1.m.body.length x1.c]:=by rw [← hW1];exact Blk.new w _ _
 have HB1:=Lib.hid hB1;have HX1:=Lib.hid hX1;have HBD1:=Lib.hid (ba1.below hB1);have HA0:=Lib.hid (ma0.below hB1);have HL:=Lib.hid ma0.1;have HT:=Lib.hid hT;have HAN:Hid (∀ w1,Below w.heap.size w w1 → Calls Tryd.prog 9 #[] w1 fun e w' => e=.returned (.bool true)∧Below w1.heap.size w1 w'):=Lib.hid fun w1 h => ans10_any w1 (hT.below h)
 have HS:=Lib.hid (light1_any a0 len0 cap0 xs0 W1 (ma0.below hB1) fun x hx => (rm0 x hx).2)
 obtain ⟨s,hs⟩:∃ s,light1D (xs0.map MP.m)=s:=⟨_,rfl⟩;rw [hs] at HS;have HE:=Lib.hid hs;have HRM:=Lib.hid rm1;clear ma0 lc0 cm0 by0 rm0 ba1 wm1 rm1 hT hs hB1 hX1
 go_enter Tryd.func6,Tryd.ntmps6
 go_upto_region 1 with fail
 clear hW1
 go_wp2_with fail
 refine HS.out.mono ?_
 rintro e w2 ⟨rfl,rfl⟩;clear HS
 cases s with
 | false =>
   go_wp2_with fail
   refine (HAN.out _ HB1.out).mono ?_
   rintro e w2 ⟨rfl,hb2⟩;have FIN:=Lib.hid (HB1.out.trans (hb2.mono HB1.out.size));clear hb2
   go_wp2
   go_ret
   exact ⟨rfl,FIN.out⟩
 | true =>
   have hfit:=light1D_facts HE.out;rw [List.length_map] at hfit;have hl0:len0≤60:=by rw [← HL.out];exact hfit.1
   have HF:Hid (∀ x ∈ xs0,x.m.path.length≤2000∧x.m.target.length≤2000∧x.m.body.length≤100000):=Lib.hid fun x hx => hfit.2 x.m (List.mem_map_of_mem hx)
   obtain ⟨W2,hW2⟩:∃ W2,W1.alloc (.cells #[.string (str x1.m.path),.string (str x1.m.target),.int .u8 (x1.m.kind.toNat:Int),.int .i64 x1.m.mode,.int .i64 x1.m.uid,.int .i64 x1.m.gid,.int .i64 x1.m.time,.slice x1.p x1.m.body.length x1.c] 45)=W2:=⟨_,rfl⟩;have hb12:Below W1.heap.size W1 W2:=by rw [← hW2];exact (Below.refl _ W1).alloc (Nat.le_refl _) _
   have hX2:Blk W2 W1.heap.size 45 #[.string (str x1.m.path),.string (str x1.m.target),.int .u8 (x1.m.kind.toNat:Int),.int .i64 x1.m.mode,.int .i64 x1.m.uid,.int .i64 x1.m.gid,.int .i64 x1.m.time,.slice x1.p x1.m.body.length x1.c]:=by rw [← hW2];exact Blk.new W1 _ _
   have HB2:=Lib.hid (HB1.out.trans (hb12.mono HB1.out.size));have HX12:=Lib.hid (HX1.out.below hb12 HX1.out.lt);have HBD2:=Lib.hid (HBD1.out.below hb12);have HA2:=Lib.hid (HA0.out.below hb12);have HS2:=Lib.hid (light1_any (some ⟨W1.heap.size,0,none⟩) 1 1 [x1] W2 (mems_one hX2 (HBD1.out.below hb12)) fun x hx => by rw [List.mem_singleton.1 hx];exact HRM.out)
   obtain ⟨s1,hs1⟩:∃ s,light1D [x1.m]=s:=⟨_,rfl⟩;rw [show ([x1]:List MP).map MP.m=[x1.m] from rfl,hs1] at HS2
   have HE1:=Lib.hid hs1;have c0:=HX1.out.cell 0;have c1:=HX1.out.cell 1;have c2:=HX1.out.cell 2;have c3:=HX1.out.cell 3;have c4:=HX1.out.cell 4;have c5:=HX1.out.cell 5;have c6:=HX1.out.cell 6;have c7:=HX1.out.cell 7;simp only [List.getElem?_toArray,List.getElem?_cons_zero,List.getElem?_cons_succ] at c0 c1 c2 c3 c4 c5 c6 c7;clear hfit hb12 hX2 hs1
   go_wp2_with fail
   refine HS2.out.mono ?_
   rintro e w3 ⟨rfl,rfl⟩;clear HS2 c0 c1 c2 c3 c4 c5 c6 c7 hW2
   cases s1 with
   | false =>
     go_wp2_with fail
     refine (HAN.out _ HB2.out).mono ?_
     rintro e w3 ⟨rfl,hb3⟩;have FIN:=Lib.hid (HB2.out.trans (hb3.mono HB2.out.size));clear hb3
     go_wp2
     go_ret
     exact ⟨rfl,FIN.out⟩
   | true =>
     have hfx:=(light1D_facts HE1.out).2 x1.m (List.mem_singleton.2 rfl);have HFX:=Lib.hid hfx;have HGC:=Lib.hid (rgood_any x1.m x1.p x1.c W2 (by omega) (by omega))
     unfold memC at HGC;obtain ⟨gd,hgd⟩:∃ gd,goodD x1.m=gd:=⟨_,rfl⟩;rw [hgd] at HGC;have HGD:=Lib.hid hgd;have c0:=HX12.out.cell 0;have c1:=HX12.out.cell 1;have c2:=HX12.out.cell 2;have c3:=HX12.out.cell 3;have c4:=HX12.out.cell 4;have c5:=HX12.out.cell 5;have c6:=HX12.out.cell 6;have c7:=HX12.out.cell 7;simp only [List.getElem?_toArray,List.getElem?_cons_zero,List.getElem?_cons_succ] at c0 c1 c2 c3 c4 c5 c6 c7;clear hgd hfx
     go_wp2_with fail
     refine HGC.out.mono ?_
     rintro e w3 ⟨rfl,hb3⟩;have HB3:=Lib.hid (HB2.out.trans (hb3.mono HB2.out.size));have HX3:=Lib.hid (HX12.out.below hb3 HX12.out.lt);have HBD3:=Lib.hid (HBD2.out.below hb3);have HA3:=Lib.hid (HA2.out.below hb3);clear hb3 HGC c0 c1 c2 c3 c4 c5 c6 c7
     cases gd with
     | false =>
       go_wp2_with fail
       refine (HAN.out _ HB3.out).mono ?_
       rintro e w4 ⟨rfl,hb4⟩;have FIN:=Lib.hid (HB3.out.trans (hb4.mono HB3.out.size));clear hb4
       go_wp2
       go_ret
       exact ⟨rfl,FIN.out⟩
     | true =>
       have ek:=kind_ne1 x1.m.kind 49 49 rfl;obtain ⟨kn,hkn⟩:∃ kn:Int,(x1.m.kind.toNat:Int)=kn:=⟨_,rfl⟩;have c2:=HX3.out.cell 2;simp only [List.getElem?_toArray,List.getElem?_cons_zero,List.getElem?_cons_succ] at c2;rw [hkn] at c2 ek;clear hkn
       by_cases h49:x1.m.kind=49
       ·rw [decide_eq_true h49] at ek
        clear h49
        go_wp2_with fail
        refine (HAN.out _ HB3.out).mono ?_
        rintro e w4 ⟨rfl,hb4⟩;have FIN:=Lib.hid (HB3.out.trans (hb4.mono HB3.out.size));clear hb4
        go_wp2
        go_ret
        exact ⟨rfl,FIN.out⟩
       ·rw [decide_eq_false h49] at ek
        have H49:=Lib.hid h49;have hf:=tfold_any a0 len0 cap0 xs0 w3 HA3.out (by omega) (fun y hy => by have:=HF.out y hy;exact ⟨by omega,by omega⟩) (fun y hy => by have:=(HF.out y hy).2.2;omega) (HT.out.below HB3.out)
        unfold FoldPost at hf;have HBAD:Hid ((foldD (xs0.map MP.m)).2.1≠0 → foldD (xs0.map MP.m++[x1.m])=foldD (xs0.map MP.m)):=Lib.hid (fun h => foldD_last_bad h49 HGD.out h)
        have HLAST:Hid ((foldD (xs0.map MP.m)).2.1=0 → (foldD (xs0.map MP.m++[x1.m])).2=(0,0)∧(∀ x ∈ (foldD (xs0.map MP.m)).1,x.path≠x1.m.path → ∃ y,findN (foldD (xs0.map MP.m++[x1.m])).1 x.path=some y∧y.mem=x.mem)∧(∃ y,findN (foldD (xs0.map MP.m++[x1.m])).1 x1.m.path=some y∧y.mem=x1.m) ∧
         (foldD (xs0.map MP.m)).1.length≤(foldD (xs0.map MP.m++[x1.m])).1.length∧(foldD (xs0.map MP.m++[x1.m])).1.length≤(foldD (xs0.map MP.m)).1.length+1):=Lib.hid (fun h => foldD_last h49 HGD.out h)
        have HFL:Hid ((foldD (xs0.map MP.m)).1.length≤60):=Lib.hid (by have:=foldD_len (xs0.map MP.m);rw [List.length_map,HL.out] at this;omega)
        have HFL2:Hid ((foldD (xs0.map MP.m++[x1.m])).1.length≤61):=Lib.hid (by have:=foldD_len (xs0.map MP.m++[x1.m]);rw [List.length_append,List.length_map,HL.out] at this;exact Nat.le_trans this (by show len0+1≤61;omega))
        have HCL:Hid (∀ w' p c,Below w3.heap.size w3 w' → MemsAt w' p (len0+1) (xs0++[x1]) → Calls Tryd.prog 10 #[.slice p (len0+1) c] w' (FoldPost w' (xs0.map MP.m++[x1.m]))):=Lib.hid (fun w' p c hb hm => by
         have hx:∀ y ∈ xs0++[x1],y.m.path.length≤2000∧y.m.target.length≤2000∧y.m.body.length≤100000:=fun y hy => by
          rcases List.mem_append.1 hy with hy | hy
          ·exact HF.out y hy
          ·rw [List.mem_singleton.1 hy];exact HFX.out
         have:=tfold_any p (len0+1) c (xs0++[x1]) w' hm (by omega) (fun y hy => by have:=hx y hy;exact ⟨by omega,by omega⟩) (fun y hy => by have:=(hx y hy).2.2;omega) (HT.out.below (HB3.out.trans (hb.mono HB3.out.size)))
         rw [List.map_append] at this
         exact this)
        unfold FoldPost at HCL;obtain ⟨F1,hF1⟩:∃ F1,foldD (xs0.map MP.m)=F1:=⟨_,rfl⟩;obtain ⟨F2,hF2⟩:∃ F2,foldD (xs0.map MP.m++[x1.m])=F2:=⟨_,rfl⟩;rw [hF1] at hf HBAD HLAST HFL;rw [hF2] at HBAD HLAST HFL2 HCL;clear hF1 hF2;obtain ⟨t,er,ixn⟩:=F1;obtain ⟨t2,er2,ixn2⟩:=F2;simp only at hf HBAD HLAST HFL HFL2 HCL;obtain ⟨ix,hix⟩:∃ ix:Int,(ixn:Int)=ix:=⟨_,rfl⟩;obtain ⟨ix2,hix2⟩:∃ ix:Int,(ixn2:Int)=ix:=⟨_,rfl⟩;rw [hix] at hf;rw [hix2] at HCL;have HIX:=Lib.hid (And.intro hix hix2);have HFO:=Lib.hid hf;clear hf h49 hix hix2
        go_wp2_with fail
        refine HFO.out.mono ?_
        rintro e w4 ⟨q3,d3,zs,rfl,hz,hnod,hd,hd2,hb4,_,_⟩;obtain ⟨W4,hW4⟩:∃ W4,w4.alloc (.cells #[.int .i64 er,.int .i64 ix] 28)=W4:=⟨_,rfl⟩;have h44:Below w4.heap.size w4 W4:=by rw [← hW4];exact (Below.refl _ _).alloc (Nat.le_refl _) _
        have HX4:Hid (Blk W4 w4.heap.size 28 #[.int .i64 er,.int .i64 ix]):=Lib.hid (by rw [← hW4];exact Blk.new w4 _ _)
        have hb34:=hb4.trans (h44.mono hb4.size);have H34:=Lib.hid hb34;have HB4:=Lib.hid (HB3.out.trans (hb34.mono HB3.out.size));have HX34:=Lib.hid (HX3.out.below hb34 HX3.out.lt);have HBD4:=Lib.hid (HBD3.out.below hb34);have HA4:=Lib.hid (HA3.out.below hb34);have HN4:=Lib.hid (And.intro hz (hnod.below h44));clear hz hnod hd hd2 hb4 h44 hb34 HFO c2 ek
        go_upto_region 4 with fail
        clear hW4;refine wp_region_any (by kernel_rfl) (wpAny_opsT (ops':=last4Ops) (by kernel_rfl) ?_)
        refine last4_region (w1:=W4) w.heap.size a0 len0 cap0 xs0 x1 t2 er2 ix2 (.slice a0 len0 cap0) rfl ?a1 ?a2 ?a3 HX34.out HBD4.out HA4.out (by omega) ?a4 ?_
        case a1 => exact Nat.le_refl 156
        case a2 => rfl
        case a3 => rfl
        case a4 =>
         intro w' p c hb hm;refine (HCL.out w' p c (H34.out.trans (hb.mono H34.out.size)) hm).mono ?_
         rintro e w2 ⟨q,d,us,he,h1,h2,_,_,h5,_,_⟩;exact ⟨q,d,us,he,h1,h2,h5⟩
        intro γ w5 hb5 hres hflt;obtain ⟨q5,d5,us,hvr,hu,hnou⟩:=hres;obtain ⟨ga,gb,gc,gdd,gr,fb⟩:=γ;simp only at hvr hflt;subst hvr;have HB5:=Lib.hid (HB4.out.trans (hb5.mono HB4.out.size));have HX5:=Lib.hid (HX34.out.below hb5 HX34.out.lt);have HFA:=Lib.hid (HX4.out.below hb5 HX4.out.lt);have HFB:=Lib.hid hflt;have HBD5:=Lib.hid (HBD4.out.below hb5);have HN5:=Lib.hid (HN4.out.2.below hb5);have HU5:=Lib.hid (And.intro hu hnou);have x0:=HFA.out.cell 0;have x1':=HFA.out.cell 1;have y0:=HFB.out.cell 0;have y1:=HFB.out.cell 1;simp only [List.getElem?_toArray,List.getElem?_cons_zero,List.getElem?_cons_succ] at x0 x1' y0 y1
        clear hb5 hflt hu hnou;simp only [Act.put,List.setIfInBounds_toArray,List.set_cons_zero,List.set_cons_succ]
        by_cases he:er=0
        ·obtain ⟨hl1,hl2,hl3,hl4,hl5⟩:=HLAST.out he
         have e2:0=er2:=(congrArg Prod.fst hl1).symm;have HL2:=Lib.hid hl2;have HL3:=Lib.hid hl3;subst he;subst e2;have hfl:t.length≤60:=HFL.out;clear hl1 hl2 hl3 HBAD HLAST HCL
         go_wp2_with fail
         clear x0 x1' y0 y1
         go_loopw [9,10,11] (fun i _ _ wr => ∃ (k:Nat),k≤t.length∧i=.int .i64 (k:Int)∧Hid (Below w5.heap.size w5 wr)) (fun i _ _ _ => t.length - (RowKit.intOf i).toNat)
         case atStart => exact ⟨0,Nat.zero_le _,rfl,Lib.hid (Below.refl _ _)⟩
         case round =>
          obtain ⟨k,hk,rfl,hB⟩:=hrel;have HBW:=Lib.hid (HB5.out.trans (hB.out.mono HB5.out.size));have HX5':=Lib.hid (HX5.out.below hB.out HX5.out.lt)
          by_cases hlt:k < t.length
          ·have hltz:(k:Int) < (t.length:Int):=by omega
           obtain ⟨b1,o1,rfl,hb1,hB1,hc1⟩:=(HN5.out.below hB.out).cells9 hlt
           have hzt:(zs.getD k zeroQ).m ∈ t:=by
            rw [← HN4.out.1];exact List.mem_map_of_mem (getN_mem zs k (by rw [HN5.out.1];exact hlt))
           obtain ⟨z,hz⟩:∃ z,zs.getD k zeroQ=z:=⟨_,rfl⟩;rw [hz] at hB1 hc1 hzt;have hr:=rfind_any q5 t2.length d5 us z.m.path wr (HU5.out.2.below hB.out) (by have:=HFL2.out;unfold maxLen;omega)
           unfold RFindPost at hr;rw [HU5.out.1] at hr;obtain ⟨fo,hfo⟩:∃ fo,findN t2 z.m.path=fo:=⟨_,rfl⟩;rw [hfo] at hr;have HFI:=Lib.hid hr;have HZ:=Lib.hid (And.intro hzt (And.intro hfo (And.intro hB1 (And.intro hc1 hb1))));obtain ⟨c0,c1,c2,c3,c4,c5,c6,c7,c8⟩:=hc1;clear hz hzt hr hfo hB1 hb1
           go_wp2_with fail
           refine HFI.out.mono ?_
           rintro e w6 ⟨y,rfl,hy,hyi,hb6⟩;have hyb:=(of_bod (HU5.out.2.below hB.out) hyi).below hb6;obtain ⟨ym,yp,yc⟩:=y;simp only at hy;unfold NP.cs nodC;obtain ⟨ob,hob⟩:∃ ob,fo.isSome=ob:=⟨_,rfl⟩;rw [hob];have HY:=Lib.hid (And.intro hy hob);clear hy hob
           go_upto_region 11 with fail
           obtain ⟨W7,hW7⟩:∃ W7,w6.alloc (.cells (nodC ym yp yc) 38)=W7:=⟨_,rfl⟩;have h67:Below w6.heap.size w6 W7:=by rw [← hW7];exact (Below.refl _ _).alloc (Nat.le_refl _) _
           have hX7:Blk W7 w6.heap.size 38 (NP.cs ⟨ym,yp,yc⟩):=by rw [← hW7];exact Blk.new w6 _ _
           have hbr7:Below wr.heap.size wr W7:=hb6.trans (h67.mono hb6.size);have HBR7:=Lib.hid (hB.out.trans (hbr7.mono hB.out.size));have sX:Since9 W7 w6.heap.size 0 ⟨ym,yp,yc⟩:=since9 (cells9_of hX7) hX7.lt;have sZ:Since9 W7 b1 (o1+k * 9) z:=since9 (HZ.out.2.2.2.1.below HZ.out.2.2.2.2 hbr7) (Nat.lt_of_lt_of_le HZ.out.2.2.2.2 hbr7.size);have sM:∀ p:Since W7,p.w'.cell? ⟨w.heap.size,0,none⟩=some (.string (str x1.m.path)):=since_cell ((HX5'.out.below hbr7 HX5'.out.lt).cell 0);have HEQ:Hid (∀ p:Since W7,Calls Tryd.prog 20 #[.agg (NP.cs ⟨ym,yp,yc⟩),.agg z.cs] p.w' fun e w' => e=.returned (.bool (eqN ym z.m))∧Below p.w'.heap.size p.w' w'):=Lib.hid (fun p => requalN_any ⟨ym,yp,yc⟩ z p.w' ((hyb.below h67).below p.bel) ((HZ.out.2.2.1.below hbr7).below p.bel))
           unfold nodC at hW7;rw [hW7];unfold Since9 Cells9 at sX sZ;unfold NP.cs nodC at HEQ;simp only [Nat.zero_add] at sX;have e1:=neqS z.m.path x1.m.path;clear hW7 h67 hX7 hbr7 hyb hyi hb6 HFI c0 c1 c2 c3 c4 c5 c6 c7 c8
           by_cases hep:z.m.path=x1.m.path
           ·rw [decide_eq_true hep] at e1
            clear hep;refine wp_region_since (by kernel_rfl) (by kernel_rfl) ?_
            repeat (quiet_step (first | (go_at_call 20;exact Calls.since_of (HEQ.out _))))
            refine wpQuiet_nil ?_
            intro wq hw';have hwq:=since_bel hw';clear hw';have HBN:=Lib.hid (HBR7.out.trans (hwq.mono HBR7.out.size));clear hwq sX sZ sM e1 HEQ
            go_wp2
            go_roundw
            case rel => exact ⟨k+1,by omega,by go_num,HBN⟩
            case measure => simp [RowKit.intOf];omega
           ·rw [decide_eq_false hep] at e1
            obtain ⟨y',hy1,hy2⟩:=HL2.out z.m HZ.out.1 hep;have hfs:fo=some y':=by rw [← HZ.out.2.1];exact hy1
            have hobt:true=ob:=by rw [← HY.out.2,hfs];rfl
            subst hobt
            have hq:eqN ym z.m=true:=by
             unfold eqN;refine decide_eq_true ?_
             rw [HY.out.1,hfs];exact hy2
            rw [hq] at HEQ;clear hep hy1 hy2 hfs hq;refine wp_region_since (by kernel_rfl) (by kernel_rfl) ?_
            repeat (quiet_step (first | (go_at_call 20;exact Calls.since_of (HEQ.out _))))
            refine wpQuiet_nil ?_
            intro wq hw';have hwq:=since_bel hw';clear hw';have HBN:=Lib.hid (HBR7.out.trans (hwq.mono HBR7.out.size));clear hwq sX sZ sM e1 HEQ
            go_wp2
            go_roundw
            case rel => exact ⟨k+1,by omega,by go_num,HBN⟩
            case measure => simp [RowKit.intOf];omega
          ·have hks:¬ ((k:Int) < (t.length:Int)):=by omega
           have hr:=rfind_any q5 t2.length d5 us x1.m.path wr (HU5.out.2.below hB.out) (by have:=HFL2.out;unfold maxLen;omega)
           unfold RFindPost at hr;obtain ⟨y',hy1,hy2⟩:=HL3.out;rw [HU5.out.1,hy1] at hr;simp only [Option.isSome_some] at hr;have HFI:=Lib.hid hr;have HY2:=Lib.hid hy2;have c0:=HX5'.out.cell 0;simp only [List.getElem?_toArray,List.getElem?_cons_zero] at c0;clear hr hy1 hy2
           go_wp2_with fail
           refine HFI.out.mono ?_
           rintro e w6 ⟨y,rfl,hy,hyi,hb6⟩;have hyb:=(of_bod (HU5.out.2.below hB.out) hyi).below hb6;obtain ⟨ym,yp,yc⟩:=y;simp only at hy;obtain ⟨l,hl⟩:∃ l,ym=nodeM x1.m.path x1.m l:=⟨ym.leader,node_eq (by rw [hy];exact HY2.out) rfl⟩
           subst hl;have hcs:NP.cs ⟨nodeM x1.m.path x1.m l,yp,yc⟩=#[.string (str x1.m.path),.string (str x1.m.target),.string (str l),.int .u8 (x1.m.kind.toNat:Int),.int .i64 x1.m.mode,.int .i64 x1.m.uid,.int .i64 x1.m.gid,.int .i64 x1.m.time,.slice yp x1.m.body.length yc]:=rfl;rw [hcs];clear hcs
           go_upto_region 14 with fail
           obtain ⟨W7,hW7⟩:∃ W7,w6.alloc (.cells #[.string (str x1.m.path),.string (str x1.m.target),.string (str l),.int .u8 (x1.m.kind.toNat:Int),.int .i64 x1.m.mode,.int .i64 x1.m.uid,.int .i64 x1.m.gid,.int .i64 x1.m.time,.slice yp x1.m.body.length yc] 38)=W7:=⟨_,rfl⟩;have h67:Below w6.heap.size w6 W7:=by rw [← hW7];exact (Below.refl _ _).alloc (Nat.le_refl _) _
           have HX7:Hid (Blk W7 w6.heap.size 38 #[.string (str x1.m.path),.string (str x1.m.target),.string (str l),.int .u8 (x1.m.kind.toNat:Int),.int .i64 x1.m.mode,.int .i64 x1.m.uid,.int .i64 x1.m.gid,.int .i64 x1.m.time,.slice yp x1.m.body.length yc]):=Lib.hid (by rw [← hW7];exact Blk.new w6 _ _)
           have hbr7:Below wr.heap.size wr W7:=hb6.trans (h67.mono hb6.size);have HB7:=Lib.hid (HBW.out.trans (hbr7.mono HBW.out.size));have H57:=Lib.hid (hB.out.trans (hbr7.mono hB.out.size));have HYB:=Lib.hid (hyb.below h67);rw [hW7];clear hW7 h67 hbr7 hyb hyi hb6 hy HFI c0
           go_wp2_with fail
           refine (HAN.out _ HB7.out).mono ?_
           rintro e w8 ⟨rfl,hb8⟩;have FIN:=Lib.hid (HB7.out.trans (hb8.mono HB7.out.size));have h58:=H57.out.trans (hb8.mono H57.out.size);have hn8:=HX7.out.below hb8 HX7.out.lt;have hm8:=HX5.out.below h58 HX5.out.lt;have y0:=(HFB.out.below h58 HFB.out.lt).cell 0;have n0:=hn8.cell 0;have n1:=hn8.cell 1;have n2:=hn8.cell 2;have n3:=hn8.cell 3;have n4:=hn8.cell 4;have n5:=hn8.cell 5;have n6:=hn8.cell 6;have n7:=hn8.cell 7;have n8:=hn8.cell 8;have m0:=hm8.cell 0;have m1:=hm8.cell 1;have m2:=hm8.cell 2;have m3:=hm8.cell 3;have m4:=hm8.cell 4;have m5:=hm8.cell 5
           have m6:=hm8.cell 6;have m7:=hm8.cell 7;simp only [List.getElem?_toArray,List.getElem?_cons_zero,List.getElem?_cons_succ] at y0 n0 n1 n2 n3 n4 n5 n6 n7 n8 m0 m1 m2 m3 m4 m5 m6 m7;have EM:=fun w => eqMeta x1.m.mode x1.m.uid x1.m.gid x1.m.time x1.m.mode x1.m.uid x1.m.gid x1.m.time w
           have hyb8:BAt w8 yp x1.m.body.length x1.m.body:=HYB.out.bat.below hb8;have CY:=conv_at (P:=Tryd.prog) hyb8 rfl 36 5 9 Tryd.underlying36 Tryd.underlying5 Tryd.underlying9 yc;have CM:=conv_at (P:=Tryd.prog) (HBD5.out.bat.below h58) rfl 36 5 9 Tryd.underlying36 Tryd.underlying5 Tryd.underlying9 x1.c;simp only [and_self,decide_true] at EM;have hg1:(t.length:Int)≤(t2.length:Int):=by omega
           have hg2:(t2.length:Int)≤(t.length:Int)+1:=by omega
           clear hn8 hm8 hb8 h58 hyb8
           go_wp2
           go_ret
           exact ⟨rfl,FIN.out⟩
        ·have hbb:=HBAD.out he
         have e2:er=er2:=(congrArg (fun z => z.2.1) hbb).symm
         have e3:ix=ix2:=by
          have h:=congrArg (fun z => z.2.2) hbb
          simp only at h;rw [← HIX.out.2,← HIX.out.1,h]
         have e0:(er != (0:Int))=true:=by simpa using he
         subst e2;subst e3;clear hbb HBAD HLAST HCL
         go_wp2_with fail
         refine (HAN.out _ HB5.out).mono ?_
         rintro e w6 ⟨rfl,hb6⟩;have hfa:=HFA.out.below hb6 HFA.out.lt;have hfb:=HFB.out.below hb6 HFB.out.lt;have x0:=hfa.cell 0;have x1':=hfa.cell 1;have y0:=hfb.cell 0;have y1:=hfb.cell 1;simp only [List.getElem?_toArray,List.getElem?_cons_zero,List.getElem?_cons_succ] at x0 x1' y0 y1;have EQ:=eqFltT_self er ix;have FIN:=Lib.hid (HB5.out.trans (hb6.mono HB5.out.size));clear hb6 hfa hfb
         go_wp2
         go_ret
         exact ⟨rfl,FIN.out⟩
end Go.Proofs.YthaoohbdjlbaeaaDoor.Walk
end
