/- Texts of this seat, merged: what the proof reaches. -/
import Derived.Test.YthaoohbdjlbaeaaDoorTreeFindsX27
import Derived.Test.YthaoohbdjlbaeaaDoorTreeFindsX20
import Derived.Lib.SlBytesConst
import Derived.Test.YthaoohbdjlbaeaaDoorTreeFindsX21
import Derived.Test.YthaoohbdjlbaeaaDoorTreeFindsX17
import Derived.Test.YthaoohbdjlbaeaaDoorTreeFindsX23
import Derived.Test.YthaoohbdjlbaeaaDoorTreeFindsX19
import Derived.Deep.RegionHeldLaw
namespace Go.Proofs.YthaoohbdjlbaeaaDoor
namespace Base
end Base
namespace Bk
end Bk
namespace Byt
end Byt
namespace Mem
end Mem
namespace Tre
end Tre
namespace Txt
end Txt
end Go.Proofs.YthaoohbdjlbaeaaDoor
section
namespace Go.Proofs.YthaoohbdjlbaeaaDoor.Tre
open Go.ChangeShapes Go.WideShapes Go.ChangeAt Go.RowKit Base Byt Txt Bk Mem Go.Lib
set_option linter.unusedVariables false
set_option maxRecDepth 100000
def fB:MemV:=⟨[98],[],48,0,0,0,0,[120]⟩
def hA:MemV:=⟨[97],[98],49,0,0,0,0,[]⟩
def nA:NodeV:=⟨[97],[],[97],48,0,0,0,0,[120]⟩
def nB:NodeV:=⟨[98],[],[97],48,0,0,0,0,[120]⟩
theorem foldBA:foldD [fB,hA]=([nA,nB],0,0):=by
 have h1:badAt [fB,hA]=none:=by decide +kernel
 have h2:laysD [fB,hA] [fB,hA].length=.ok [([98],0),([97],0)]:=rfl;have h3:sortS [([98],0),([97],0)]=[([97],0),([98],0)]:=(sortS_only (by unfold Apart;decide) (List.Perm.swap _ _ _) (by unfold RiseS;decide +kernel)).symm
 rw [foldD_ok h1 h2];unfold treeD;rw [h3];rfl
theorem foldA:foldD [hA]=([],7,0):=foldD_link (by decide +kernel) rfl
theorem goodBA:goodT [nA,nB]=true:=by decide +kernel
theorem goodZ:goodT [zeroN]=false:=by decide +kernel
def cells16 (x y:MP):Array Value:=#[.string (str x.m.path),.string (str x.m.target),.int .u8 (x.m.kind.toNat:Int),.int .i64 x.m.mode,.int .i64 x.m.uid,.int .i64 x.m.gid,.int .i64 x.m.time,.slice x.p x.m.body.length x.c,
 .string (str y.m.path),.string (str y.m.target),.int .u8 (y.m.kind.toNat:Int),.int .i64 y.m.mode,.int .i64 y.m.uid,.int .i64 y.m.gid,.int .i64 y.m.time,.slice y.p y.m.body.length y.c]
theorem mems_two {w:World} {b:Nat} {x y:MP} (hb:Blk w b 45 (cells16 x y)) (hx:BodyAt w x) (hy:BodyAt w y):MemsAt w (some ⟨b,0,none⟩) 2 [x,y]:=by
 refine ⟨rfl,fun z hz => ?_,fun _ => ⟨b,0,rfl,hb.lt,fun i hi j hj => ?_⟩⟩
 ·rcases List.mem_cons.1 hz with rfl | hz
  ·exact hx
  ·rw [List.mem_singleton.1 hz];exact hy
 ·rw [hb.cell,Nat.zero_add]
  match i,hi,j,hj with
  | 0,_,0,_ => rfl
  | 0,_,1,_ => rfl
  | 0,_,2,_ => rfl
  | 0,_,3,_ => rfl
  | 0,_,4,_ => rfl
  | 0,_,5,_ => rfl
  | 0,_,6,_ => rfl
  | 0,_,7,_ => rfl
  | 1,_,0,_ => rfl
  | 1,_,1,_ => rfl
  | 1,_,2,_ => rfl
  | 1,_,3,_ => rfl
  | 1,_,4,_ => rfl
  | 1,_,5,_ => rfl
  | 1,_,6,_ => rfl
  | 1,_,7,_ => rfl
theorem mems_one {w:World} {b:Nat} {y:MP} (hb:Blk w b 45 y.cs) (hB:BodyAt w y):MemsAt w (some ⟨b,0,none⟩) 1 [y]:=by
 refine ⟨rfl,fun x hx => by rw [List.mem_singleton] at hx;subst hx;exact hB,fun _ => ⟨b,0,rfl,hb.lt,fun i hi j hj => ?_⟩⟩
 obtain rfl:i=0:=by omega
 rw [show 0+8 * 0+j=j by omega]
 exact hb.cell j
theorem nodes_one {w:World} {b:Nat} {y:NP} (hb:Blk w b 38 y.cs) (hB:BodAt w y):NodesAt w (some ⟨b,0,none⟩) 1 [y]:=by
 refine ⟨rfl,fun x hx => by rw [List.mem_singleton] at hx;subst hx;exact hB,fun _ => ⟨b,0,rfl,hb.lt,fun i hi j hj => ?_⟩⟩
 obtain rfl:i=0:=by omega
 rw [show 0+9 * 0+j=j by omega]
 exact hb.cell j
theorem body_empty (w:World) (m:MemV) (h:m.body=[]):BodyAt w ⟨m,none,0⟩:=by
 refine ⟨?_,?_,?_⟩
 ·show BAt w none m.body.length m.body
  rw [h];exact fun h0 => absurd h0 (by decide)
 ·show m.body.length≤0
  rw [h];exact Nat.le_refl _
 ·show (0:Nat)≤_
  decide
theorem bod_empty (w:World) (m:NodeV) (h:m.body=[]):BodAt w ⟨m,none,0⟩:=by
 refine ⟨?_,?_,?_⟩
 ·show BAt w none m.body.length m.body
  rw [h];exact fun h0 => absurd h0 (by decide)
 ·show m.body.length≤0
  rw [h];exact Nat.le_refl _
 ·show (0:Nat)≤_
  decide
def TwoPost (w w':World) (q:Option Addr) (d:Nat):Prop:=
 ∃ b o g c1 c2 z1,q=some ⟨b,o,none⟩∧w.heap.size≤b∧b < w'.heap.size∧2≤d∧d≤maxLen∧BAt w' g 1 [120]∧Cells9 w' b o ⟨nA,g,c1⟩∧Cells9 w' b (o+9) ⟨nB,z1,c2⟩ ∧ ∃ zs,zs.map NP.m=[nA,nB]∧NodesAt w' q 2 zs
theorem two_post {w w':World} {e:Ending} (h:FoldPost w [fB,hA] e w'):∃ q d,e=.returned (.tuple #[.slice q 2 d,.agg #[.int .i64 0,.int .i64 0]])∧TwoPost w w' q d∧Below w.heap.size w w':=by
 unfold FoldPost at h;rw [foldBA] at h;obtain ⟨q,d,zs,rfl,hz,hn,hd,hd2,hb,hq,hy⟩:=h;refine ⟨q,d,rfl,?_,hb⟩
 match zs,hz with
 | [z0,z1],hz =>
   simp only [List.map_cons,List.map_nil,List.cons.injEq,and_true] at hz;obtain ⟨h0,h1⟩:=hz;obtain ⟨m0,p0,c0⟩:=z0;obtain ⟨m1,p1,c1⟩:=z1;simp only at h0 h1;subst h0 h1;obtain ⟨b,o,e1,hbl,hB,k0⟩:=hn.cells9 (i:=0) (by decide)
   obtain ⟨b',o',e2,_,_,k1⟩:=hn.cells9 (i:=1) (by decide)
   rw [e1] at e2;obtain ⟨rfl,rfl⟩:b=b'∧o=o':=by simpa using e2
   have k0':Cells9 w' b o ⟨nA,p0,c0⟩:=by simpa using k0
   have k1':Cells9 w' b (o+9) ⟨nB,p1,c1⟩:=by simpa using k1
   exact ⟨b,o,p0,c0,c1,p1,e1,hq _ e1,hbl,hd,hd2,hB.bat,k0',k1',_,rfl,hn⟩
theorem two_fold (W:World) (b g:Nat) (hb:Blk W b 45 (cells16 ⟨fB,some ⟨g,0,none⟩,1⟩ ⟨hA,none,0⟩)) (hg:BAt W (some ⟨g,0,none⟩) 1 [120]) (hT:Path.Tabs W) :
 Calls Tryd.prog 10 #[.slice (some ⟨b,0,none⟩) 2 2] W fun e w' => ∃ q d,e=.returned (.tuple #[.slice q 2 d,.agg #[.int .i64 0,.int .i64 0]])∧TwoPost W w' q d∧Below W.heap.size W w':=
 (tfold_any (some ⟨b,0,none⟩) 2 2 [⟨fB,some ⟨g,0,none⟩,1⟩,⟨hA,none,0⟩] W (mems_two hb ⟨hg,by show (1:Nat)≤1;decide,by show (1:Nat)≤maxLen;decide⟩ (body_empty W hA rfl)) (by decide) (fun x hx => by
  rcases List.mem_cons.1 hx with rfl | hx
  ·exact ⟨by show (1:Nat)≤_;decide,by show (0:Nat)≤_;decide⟩
  ·rw [List.mem_singleton.1 hx];exact ⟨by show (1:Nat)≤_;decide,by show (1:Nat)≤_;decide⟩) (fun x hx => by
  rcases List.mem_cons.1 hx with rfl | hx
  ·show (1:Nat)≤_;decide
  ·rw [List.mem_singleton.1 hx];show (0:Nat)≤_;decide) hT).mono fun _ _ h => two_post h
theorem one_fold (W:World) (b:Nat) (hb:Blk W b 45 (MP.cs ⟨hA,none,0⟩)) (hT:Path.Tabs W) :
 Calls Tryd.prog 10 #[.slice (some ⟨b,0,none⟩) 1 1] W fun e w' => ∃ q d,e=.returned (.tuple #[.slice q 0 d,.agg #[.int .i64 7,.int .i64 0]])∧Below W.heap.size W w':=
 (tfold_any (some ⟨b,0,none⟩) 1 1 [⟨hA,none,0⟩] W (mems_one hb (body_empty W hA rfl)) (by decide) (fun x hx => by
  rw [List.mem_singleton.1 hx];exact ⟨by show (1:Nat)≤_;decide,by show (1:Nat)≤_;decide⟩) (fun x hx => by
  rw [List.mem_singleton.1 hx];show (0:Nat)≤_;decide) hT).mono fun _ _ h => by
   unfold FoldPost at h;rw [show ([⟨hA,none,0⟩]:List MP).map MP.m=[hA] from rfl,foldA] at h
   obtain ⟨q,d,zs,rfl,_,_,_,_,hb,_,_⟩:=h;exact ⟨q,d,rfl,hb⟩
theorem two_good (W:World) (q:Option Addr) (d:Nat) (hd:2≤d) (hd2:d≤maxLen) (h:∃ zs,zs.map NP.m=[nA,nB]∧NodesAt W q 2 zs) (hT:Path.Tabs W) :
 Calls Tryd.prog 14 #[.slice q 2 d] W fun e w' => e=.returned (.bool true)∧Below W.heap.size W w':=by
 obtain ⟨zs,hz,hn⟩:=h
 have:=tgood_any q 2 d zs W hn hd hd2 (fun x hx => by
  have:x.m ∈ [nA,nB]:=by rw [← hz];exact List.mem_map_of_mem hx
  unfold FitN;rcases List.mem_cons.1 this with e | e
  ·rw [e];exact ⟨by show (1:Nat)≤_;decide,by show (0:Nat)≤_;decide⟩
  ·rw [List.mem_singleton.1 e];exact ⟨by show (1:Nat)≤_;decide,by show (0:Nat)≤_;decide⟩) hT
 rw [hz,goodBA] at this;exact this
theorem zero_good (W:World) (b:Nat) (hb:Blk W b 38 (NP.cs zeroQ)) (hT:Path.Tabs W) :
 Calls Tryd.prog 14 #[.slice (some ⟨b,0,none⟩) 1 1] W fun e w' => e=.returned (.bool false)∧Below W.heap.size W w':=by
 have:=tgood_any (some ⟨b,0,none⟩) 1 1 [zeroQ] W (nodes_one hb (bod_empty W zeroN rfl)) (by decide) (by decide) (fun x hx => by
  rw [List.mem_singleton.1 hx];exact ⟨by show (0:Nat)≤_;decide,by show (0:Nat)≤_;decide⟩) hT
 rw [show ([zeroQ]:List NP).map NP.m=[zeroN] from rfl,goodZ] at this
 exact this
set_option maxHeartbeats 4000000 in
theorem ans10_any (w:World) (hT:Path.Tabs w):Calls Tryd.prog 9 #[] w fun e w' => e=.returned (.bool true)∧Below w.heap.size w w':=by
 have kc:(convert 36 36 (.slice (some ⟨w.heap.size,0,none⟩) 1 1)).run Tryd.prog (w.alloc (.cells #[.int .u8 120] 5))=.ok (.slice (some ⟨w.heap.size,0,none⟩) 1 1) (w.alloc (.cells #[.int .u8 120] 5 (1,2))):=
  Lib.run_convert_bytes_const (P:=Tryd.prog) w 36 5 #[.int .u8 120] 1 1 Tryd.underlying36 Tryd.underlying5
 obtain ⟨W1,hW1⟩:∃ W1,(w.alloc (.cells #[.int .u8 120] 5 (1,2))).alloc (.cells #[.string ⟨#[98]⟩,.string ⟨#[]⟩,.int .u8 48,.int .i64 0,.int .i64 0,.int .i64 0,.int .i64 0,.slice (some ⟨w.heap.size,0,none⟩) 1 1,.string ⟨#[97]⟩,.string ⟨#[98]⟩,.int .u8 49,.int .i64 0,.int .i64 0,.int .i64 0,.int .i64 0,.slice none 0 0] 45)=W1:=⟨_,rfl⟩;have hB1:Below w.heap.size w W1:=by rw [← hW1];exact ((Below.refl _ w).alloc (Nat.le_refl _) _).alloc (by simp) _
 have hb1:Blk W1 (w.heap.size+1) 45 (cells16 ⟨fB,some ⟨w.heap.size,0,none⟩,1⟩ ⟨hA,none,0⟩):=by
  have:=Blk.new (w.alloc (.cells #[.int .u8 120] 5 (1,2))) 45 (cells16 ⟨fB,some ⟨w.heap.size,0,none⟩,1⟩ ⟨hA,none,0⟩);rw [World.size_alloc] at this;rw [← hW1];exact this
 have ht1:BAt W1 (some ⟨w.heap.size,0,none⟩) 1 [120]:=fun _ => ⟨w.heap.size,0,rfl,fun i hi => by
  obtain rfl:i=0:=by omega
  rw [← hW1]
  have:(w.alloc (.cells #[.int .u8 120] 5 (1,2))).cell? ⟨w.heap.size,0,none⟩=some (.int .u8 120):=by
   unfold World.cell?;rw [heap_alloc_new];rfl
  exact (((Below.refl (w.heap.size+1) (w.alloc (.cells #[.int .u8 120] 5 (1,2)))).alloc (by simp) _).cell (p:=⟨w.heap.size,0,none⟩) (by show w.heap.size < w.heap.size+1;omega)).trans this⟩
 have HA:=Lib.hid (two_fold W1 _ _ hb1 ht1 (hT.below hB1));have HW1:=Lib.hid hW1;have HB1:=Lib.hid hB1;have HT:=Lib.hid hT;clear hW1 hB1 hb1 ht1 hT
 go_enter Tryd.func9,Tryd.ntmps9
 go_wp2_with fail
 rw [HW1.out];refine HA.out.mono ?_
 rintro e w2 ⟨q,d,rfl,hP2,hb2⟩;have HB2:=Lib.hid (HB1.out.trans (hb2.mono HB1.out.size));have HP2:=Lib.hid hP2;clear hb2 hP2 HA HW1
 go_wp2_with fail
 obtain ⟨W3,hW3⟩:∃ W3,(w2.alloc (.cells #[.int .i64 0,.int .i64 0] 28)).alloc (.cells #[.string ⟨#[97]⟩,.string ⟨#[98]⟩,.int .u8 49,.int .i64 0,.int .i64 0,.int .i64 0,.int .i64 0,.slice none 0 0] 45)=W3:=⟨_,rfl⟩;have h23:Below w2.heap.size w2 W3:=by rw [← hW3];exact ((Below.refl _ _).alloc (Nat.le_refl _) _).alloc (by simp) _
 have hX3:Blk W3 w2.heap.size 28 #[.int .i64 0,.int .i64 0]:=by
  have hx:=Blk.new w2 28 #[.int .i64 0,.int .i64 0];rw [← hW3];exact hx.below ((Below.refl _ _).alloc (Nat.le_refl _) _) hx.lt
 have hb3:Blk W3 (w2.heap.size+1) 45 (MP.cs ⟨hA,none,0⟩):=by
  have:=Blk.new (w2.alloc (.cells #[.int .i64 0,.int .i64 0] 28)) 45 (MP.cs ⟨hA,none,0⟩);rw [World.size_alloc] at this;rw [← hW3];exact this
 have HB3:=Lib.hid (HB2.out.trans (h23.mono HB2.out.size));have HA3:=Lib.hid (one_fold W3 _ hb3 (HT.out.below HB3.out));have HW3:=Lib.hid hW3;have H23:=Lib.hid h23;have HX3:=Lib.hid hX3;clear hW3 h23 hX3 hb3;rw [HW3.out];refine HA3.out.mono ?_
 rintro e w4 ⟨q4,d4,rfl,hb4⟩;have H24:=Lib.hid (H23.out.trans (hb4.mono H23.out.size));have HX4:=Lib.hid (HX3.out.below hb4 HX3.out.lt);have HB4:=Lib.hid (HB3.out.trans (hb4.mono HB3.out.size));clear hb4
 go_upto_region 3 with fail
 obtain ⟨W5,hW5⟩:∃ W5,w4.alloc (.cells #[.int .i64 7,.int .i64 0] 28)=W5:=⟨_,rfl⟩;rw [hW5];have h45:Below w4.heap.size w4 W5:=by rw [← hW5];exact (Below.refl _ _).alloc (Nat.le_refl _) _
 have hX5:Blk W5 w4.heap.size 28 #[.int .i64 7,.int .i64 0]:=by rw [← hW5];exact Blk.new w4 _ _
 have h25:Below w2.heap.size w2 W5:=H24.out.trans (h45.mono H24.out.size);have f0:=(HX4.out.below h45 HX4.out.lt).cell 0;have f7:=hX5.cell 0;simp only [List.getElem?_toArray,List.getElem?_cons_zero] at f0 f7;have HB5:=Lib.hid (HB4.out.trans (h45.mono HB4.out.size));unfold TwoPost at HP2;obtain ⟨b,o,g,c1,c2,z1,rfl,hb1,hb2,hd,hd2,hbg,k0,k1,hzs⟩:=HP2.out;have j0:=k0.below hb2 h25;have j1:=k1.below hb2 h25;have s0:W5.cell? ⟨b,o+2,none⟩=some (.string ⟨#[97]⟩):=j0.2.2.1;have s1:W5.cell? ⟨b,o+9+2,none⟩=some (.string ⟨#[97]⟩):=j1.2.2.1;have sb:W5.cell? ⟨b,o+8,none⟩=some (.slice g 1 c1):=j0.2.2.2.2.2.2.2.2
 have cs:(convert 36 9 (.slice g 1 c1)).run Tryd.prog W5=.ok (.string ⟨#[120]⟩) W5:=conv_at (hbg.below h25) rfl _ _ _ Tryd.underlying36 Tryd.underlying5 Tryd.underlying9 c1
 have HG:=Lib.hid (two_good W5 (some ⟨b,o,none⟩) d hd hd2 (by
  obtain ⟨zs,hz,hn⟩:=hzs
  exact ⟨zs,hz,hn.below h25⟩) (HT.out.below HB5.out))
 clear HP2 hb1 hb2 hd hd2 hbg k0 k1 j0 j1 hzs hX5 h25 hW5 h45
 go_wp2_with fail
 refine HG.out.mono ?_
 rintro e w6 ⟨rfl,hb6⟩;obtain ⟨W7,hW7⟩:∃ W7,w6.alloc (.cells #[.string ⟨#[]⟩,.string ⟨#[]⟩,.string ⟨#[]⟩,.int .u8 0,.int .i64 0,.int .i64 0,.int .i64 0,.int .i64 0,.slice none 0 0] 38)=W7:=⟨_,rfl⟩;have h67:Below w6.heap.size w6 W7:=by rw [← hW7];exact (Below.refl _ _).alloc (Nat.le_refl _) _
 have hn7:Blk W7 w6.heap.size 38 (NP.cs zeroQ):=by rw [← hW7];exact Blk.new w6 _ _
 have HB6:=Lib.hid (HB5.out.trans (hb6.mono HB5.out.size));have HB7:=Lib.hid (HB6.out.trans (h67.mono HB6.out.size));have HZ:=Lib.hid (zero_good W7 _ hn7 (HT.out.below HB7.out));have HW7:=Lib.hid hW7;clear hb6 hW7 h67 hn7 f0 f7 s0 s1 sb cs HG HA3
 go_wp2_with fail
 rw [HW7.out];refine HZ.out.mono ?_
 rintro e w8 ⟨rfl,hb8⟩;have FIN:=Lib.hid (HB7.out.trans (hb8.mono HB7.out.size));clear hb8
 go_wp2
 go_ret
 exact ⟨rfl,FIN.out⟩
end Go.Proofs.YthaoohbdjlbaeaaDoor.Tre
end
section
namespace Go.Proofs.YthaoohbdjlbaeaaDoor.Walk
open Go.ChangeShapes Go.WideShapes Go.ChangeAt Go.RowKit Base Byt Txt Bk Mem Tre Go.Lib
set_option linter.unusedVariables false
set_option maxRecDepth 100000
theorem blk9c {w':World} {b:Nat} {m:NodeV} {p:Option Addr} {c:Nat} (h:Blk w' b 38 (nodC m p c)):(w'.cell? ⟨b,0,none⟩=some (.string (str m.path))∧w'.cell? ⟨b,1,none⟩=some (.string (str m.target))∧w'.cell? ⟨b,2,none⟩=some (.string (str m.leader))∧w'.cell? ⟨b,3,none⟩=some (.int .u8 (m.kind.toNat:Int))∧w'.cell? ⟨b,4,none⟩=some (.int .i64 m.mode)∧w'.cell? ⟨b,5,none⟩=some (.int .i64 m.uid)∧w'.cell? ⟨b,6,none⟩=some (.int .i64 m.gid)∧w'.cell? ⟨b,7,none⟩=some (.int .i64 m.time)∧w'.cell? ⟨b,8,none⟩=some (.slice p m.body.length c)):=
 ⟨h.cell 0,h.cell 1,h.cell 2,h.cell 3,h.cell 4,h.cell 5,h.cell 6,h.cell 7,h.cell 8⟩
theorem eqN_self (m:NodeV):eqN m m=true:=by unfold eqN;exact decide_eq_true rfl
set_option maxHeartbeats 4000000 in
theorem treeFinds (a0:Option Addr) (len0 cap0:Nat) (xs0:List NP) (a1:Option Addr) (len1 cap1:Nat) (xs1:List NP) (a2:ByteArray) (w:World) (ma0:NodesAt w a0 len0 xs0) (lc0:len0≤cap0) (cm0:cap0≤maxLen) (by0:cap0 * 112≤140737488351232) (rm0:∀ x ∈ xs0,WfN x.m∧RoomN x)
 (ma1:NodesAt w a1 len1 xs1) (lc1:len1≤cap1) (cm1:cap1≤maxLen) (by1:cap1 * 112≤140737488351232) (rm1:∀ x ∈ xs1,WfN x.m∧RoomN x) (b2:a2.size≤140737488351232) (hT:Path.Tabs w) :
 Calls Tryd.prog 5 #[.slice a0 len0 cap0,.slice a1 len1 cap1,.string a2] w fun e w' => e=.returned (.bool true)∧Below w.heap.size w w':=by
 obtain ⟨b,rfl⟩:∃ b,a2=str b:=⟨a2.data.toList,by simp [str]⟩
 have HS:=Lib.hid (slight_any a0 len0 cap0 xs0 w ma0 fun x hx => (rm0 x hx).2)
 have HS1:Hid (∀ w1,Below w.heap.size w w1 → Calls Tryd.prog 15 #[.slice a1 len1 cap1] w1 fun e w' => e=.returned (.bool (slightD (xs1.map NP.m)))∧Below w1.heap.size w1 w'):=Lib.hid fun w1 h => slight_any a1 len1 cap1 xs1 w1 (ma1.below h) fun x hx => (rm1 x hx).2
 have HAN:Hid (∀ w1,Below w.heap.size w w1 → Calls Tryd.prog 9 #[] w1 fun e w' => e=.returned (.bool true)∧Below w1.heap.size w1 w'):=Lib.hid fun w1 h => ans10_any w1 (hT.below h)
 have HA0:=Lib.hid ma0;have HA1:=Lib.hid ma1;have HLC:=Lib.hid (And.intro lc0 cm0);have HLC1:=Lib.hid (And.intro lc1 cm1);have HT:=Lib.hid hT
 have HBO:Hid (∀ x ∈ xs0,x.m.body.length≤140737488351232):=Lib.hid fun x hx => by
  have h1:=(rm0 x hx).2.2.2.2;have h2:=(ma0.2.1 x hx).le;omega
 obtain ⟨s0,hs0⟩:∃ s,slightD (xs0.map NP.m)=s:=⟨_,rfl⟩;obtain ⟨s1,hs1⟩:∃ s,slightD (xs1.map NP.m)=s:=⟨_,rfl⟩;rw [hs0] at HS;rw [hs1] at HS1;have HE:=Lib.hid hs0;have HE1:=Lib.hid hs1;clear ma0 lc0 cm0 by0 rm0 ma1 lc1 cm1 by1 rm1 hT hs0 hs1
 go_enter Tryd.func5,Tryd.ntmps5
 go_wp2_with fail
 refine HS.out.mono ?_
 rintro e w1 ⟨rfl,hb1⟩;have HB1:=Lib.hid hb1;clear hb1 HS
 cases s0 with
 | false =>
   go_wp2_with fail
   refine (HAN.out _ HB1.out).mono ?_
   rintro e w2 ⟨rfl,hb2⟩;have FIN:=Lib.hid (HB1.out.trans (hb2.mono HB1.out.size));clear hb2
   go_wp2
   go_ret
   exact ⟨rfl,FIN.out⟩
 | true =>
   have hfit:=slightD_facts HE.out;rw [List.length_map] at hfit
   have HF:Hid (∀ x ∈ xs0,FitN x):=Lib.hid fun x hx => by
    have:=hfit.2 x.m (List.mem_map_of_mem hx);exact ⟨by omega,by omega⟩
   have HF2:Hid (∀ x ∈ xs0,RoomT x):=Lib.hid fun x hx => by
    have:=hfit.2 x.m (List.mem_map_of_mem hx);exact ⟨by omega,by omega⟩
   have hl0:len0≤60:=by rw [← HA0.out.1];exact hfit.1
   clear hfit
   go_wp2_with fail
   refine (HS1.out _ HB1.out).mono ?_
   rintro e w2 ⟨rfl,hb2⟩;have HB2:=Lib.hid (HB1.out.trans (hb2.mono HB1.out.size));clear hb2 HS1
   cases s1 with
   | false =>
     go_wp2_with fail
     refine (HAN.out _ HB2.out).mono ?_
     rintro e w3 ⟨rfl,hb3⟩;have FIN:=Lib.hid (HB2.out.trans (hb3.mono HB2.out.size));clear hb3
     go_wp2
     go_ret
     exact ⟨rfl,FIN.out⟩
   | true =>
     have HG:=Lib.hid (rgoodT_any a0 len0 cap0 xs0 w2 (HA0.out.below HB2.out) HLC.out.1 HLC.out.2 HF2.out);obtain ⟨gg,hgg⟩:∃ gg,goodT (xs0.map NP.m)=gg:=⟨_,rfl⟩;rw [hgg] at HG;have HGG:=Lib.hid hgg;clear hgg
     go_wp2_with fail
     refine HG.out.mono ?_
     rintro e w3 ⟨rfl,hb3⟩;have HB3:=Lib.hid (HB2.out.trans (hb3.mono HB2.out.size));clear hb3 HG
     cases gg with
     | false =>
       go_wp2_with fail
       refine (HAN.out _ HB3.out).mono ?_
       rintro e w4 ⟨rfl,hb4⟩;have FIN:=Lib.hid (HB3.out.trans (hb4.mono HB3.out.size));clear hb4
       go_wp2
       go_ret
       exact ⟨rfl,FIN.out⟩
     | true =>
       have hf:=tfind_any a0 len0 cap0 xs0 b w3 (HA0.out.below HB3.out) HLC.out.1 HLC.out.2 (by omega) HF.out HBO.out (HT.out.below HB3.out)
       unfold FindPost at hf;simp only [HGG.out,Bool.true_and,if_true] at hf;obtain ⟨fo,hfo⟩:∃ fo,findN (xs0.map NP.m) b=fo:=⟨_,rfl⟩;rw [hfo] at hf;have HFO:=Lib.hid hfo;have HFI:=Lib.hid hf;clear hf hfo
       go_wp2_with fail
       refine HFI.out.mono ?_
       rintro e w4 ⟨y,rfl,hy,hyb,_,hb4⟩;obtain ⟨ym,yp,yc⟩:=y;simp only at hy;subst hy;unfold NP.cs nodC;obtain ⟨R,hR⟩:∃ R,resN fo=R:=⟨_,rfl⟩;rw [hR] at hyb ⊢
       go_upto_region 4 with fail
       obtain ⟨W5,hW5⟩:∃ W5,w4.alloc (.cells (nodC R yp yc) 38)=W5:=⟨_,rfl⟩;have h45:Below w4.heap.size w4 W5:=by rw [← hW5];exact (Below.refl _ _).alloc (Nat.le_refl _) _
       have HX5:Hid (Blk W5 w4.heap.size 38 (nodC R yp yc)):=Lib.hid (by rw [← hW5];exact Blk.new w4 _ _)
       have HB4:=Lib.hid (HB3.out.trans (hb4.mono HB3.out.size));have HB5:=Lib.hid (HB4.out.trans (h45.mono HB4.out.size));have HY5:=Lib.hid (hyb.below h45);have hr:=rfind_any a0 len0 cap0 xs0 b W5 (HA0.out.below HB5.out) (Nat.le_trans HLC.out.1 HLC.out.2);unfold RFindPost at hr;rw [HFO.out,hR] at hr;have HR:=Lib.hid hr;unfold nodC at hW5;clear hr h45 hyb hb4 HFI;rw [hW5];clear hW5
       go_wp2_with fail
       refine HR.out.mono ?_
       rintro e w6 ⟨z,rfl,hz,hzi,hb6⟩;obtain ⟨zm,zp,zc⟩:=z;simp only at hz;subst hz;have hzb:=of_bod (HA0.out.below HB5.out) hzi;unfold NP.cs nodC
       go_upto_region 5 with fail
       obtain ⟨W7,hW7⟩:∃ W7,w6.alloc (.cells (nodC zm zp zc) 38)=W7:=⟨_,rfl⟩;have h67:Below w6.heap.size w6 W7:=by rw [← hW7];exact (Below.refl _ _).alloc (Nat.le_refl _) _
       have HX7:Hid (Blk W7 w6.heap.size 38 (nodC zm zp zc)):=Lib.hid (by rw [← hW7];exact Blk.new w6 _ _)
       have h57:Below W5.heap.size W5 W7:=hb6.trans (h67.mono hb6.size);have HX57:Hid (Blk W7 w4.heap.size 38 (nodC zm yp yc)):=Lib.hid (HX5.out.below h57 HX5.out.lt);have HB7:=Lib.hid (HB5.out.trans (h57.mono HB5.out.size));have hq:=tequal_any ⟨zm,yp,yc⟩ ⟨zm,zp,zc⟩ W7 (HY5.out.below h57) (hzb.below h57);unfold NP.cs nodC at hq;rw [eqN_self] at hq;have HQ:=Lib.hid hq;unfold nodC at hW7;rw [hW7];clear hW7 hq h57 h67 hzb hzi hb6 HX5 HR;obtain ⟨c0,c1,c2,c3,c4,c5,c6,c7,c8⟩:=blk9c HX57.out;obtain ⟨d0,d1,d2,d3,d4,d5,d6,d7,d8⟩:=blk9c HX7.out
       go_wp2_with fail
       refine HQ.out.mono ?_
       rintro e w8 ⟨rfl,hb8⟩;have HB8:=Lib.hid (HB7.out.trans (hb8.mono HB7.out.size));have e2:=(blk9c (HX57.out.below hb8 HX57.out.lt)).2.2.1;have f2:=(blk9c (HX7.out.below hb8 HX7.out.lt)).2.2.1;clear c0 c1 c2 c3 c4 c5 c6 c7 c8 d0 d1 d2 d3 d4 d5 d6 d7 d8 hb8 HQ HX57 HX7
       go_upto_region 8 with fail
       go_loopw [11] (fun i wr => ∃ (k:Nat),k≤len0∧i=.int .i64 (k:Int)∧Hid (Below w.heap.size w wr)) (fun i _ => len0 - (RowKit.intOf i).toNat)
       case atStart => exact ⟨0,Nat.zero_le _,rfl,HB8⟩
       case round =>
        obtain ⟨k,hk,rfl,hB⟩:=hrel
        by_cases hlt:k < len0
        ·have hltz:(k:Int) < (len0:Int):=by omega
         by_cases hlt1:k < len1
         ·have hltz1:(k:Int) < (len1:Int):=by omega
          obtain ⟨b1,o1,rfl,hb1,hB1,hc1⟩:=(HA0.out.below hB.out).cells9 hlt;obtain ⟨b2,o2,rfl,hb2,hB2,hc2⟩:=(HA1.out.below hB.out).cells9 hlt1;obtain ⟨u,hu⟩:∃ u,xs0.getD k zeroQ=u:=⟨_,rfl⟩;obtain ⟨v,hv⟩:∃ v,xs1.getD k zeroQ=v:=⟨_,rfl⟩;rw [hu] at hB1 hc1;rw [hv] at hB2 hc2;have HA:=Lib.hid hB1;have HB:=Lib.hid hB2;have HCC:Hid (∀ w',Below wr.heap.size wr w' → Cells9 w' b1 (o1+k * 9) u∧Cells9 w' b2 (o2+k * 9) v):=Lib.hid (fun w' h => ⟨hc1.below hb1 h,hc2.below hb2 h⟩)
          have HBB:Hid (Below wr.heap.size wr wr.drew):=Lib.hid (below_drewN (Below.refl wr.heap.size wr) 1);unfold Cells9 at HCC;obtain ⟨eq,heq⟩:∃ eq,eqN u.m v.m=eq:=⟨_,rfl⟩;have HEQ:=Lib.hid heq;clear hB1 hB2 hc1 hc2 hu hv hb1 hb2 heq e2 f2
          go_wp2_with fail
          go_region_held3 (fun w' => (w'.cell? ⟨b1,o1+k * 9,none⟩=some (.string (str u.m.path))∧w'.cell? ⟨b1,o1+k * 9+1,none⟩=some (.string (str u.m.target))∧w'.cell? ⟨b1,o1+k * 9+2,none⟩=some (.string (str u.m.leader))∧w'.cell? ⟨b1,o1+k * 9+3,none⟩=some (.int .u8 (u.m.kind.toNat:Int))∧w'.cell? ⟨b1,o1+k * 9+4,none⟩=some (.int .i64 u.m.mode)∧w'.cell? ⟨b1,o1+k * 9+5,none⟩=some (.int .i64 u.m.uid)∧w'.cell? ⟨b1,o1+k * 9+6,none⟩=some (.int .i64 u.m.gid)∧w'.cell? ⟨b1,o1+k * 9+7,none⟩=some (.int .i64 u.m.time)∧w'.cell? ⟨b1,o1+k * 9+8,none⟩=some (.slice u.p u.m.body.length u.c))∧(w'.cell? ⟨b2,o2+k * 9,none⟩=some (.string (str v.m.path))∧w'.cell? ⟨b2,o2+k * 9+1,none⟩=some (.string (str v.m.target))∧w'.cell? ⟨b2,o2+k * 9+2,none⟩=some (.string (str v.m.leader))∧w'.cell? ⟨b2,o2+k * 9+3,none⟩=some (.int .u8 (v.m.kind.toNat:Int))∧w'.cell? ⟨b2,o2+k * 9+4,none⟩=some (.int .i64 v.m.mode)∧w'.cell? ⟨b2,o2+k * 9+5,none⟩=some (.int .i64 v.m.uid)∧w'.cell? ⟨b2,o2+k * 9+6,none⟩=some (.int .i64 v.m.gid)∧w'.cell? ⟨b2,o2+k * 9+7,none⟩=some (.int .i64 v.m.time)∧w'.cell? ⟨b2,o2+k * 9+8,none⟩=some (.slice v.p v.m.body.length v.c))) (exact HCC.out _ HBB.out) (first
           | (go_at_call 20
              refine (requalN_any u v _ (HA.out.below HBB.out) (HB.out.below HBB.out)).mono ?_
              rintro e wa ⟨rfl,hba⟩;have HBB:=Lib.hid (HBB.out.trans (hba.mono HBB.out.size))
              clear hba)
           | (go_at_call 19
              refine (tequal_any u v _ (HA.out.below HBB.out) (HB.out.below HBB.out)).mono ?_
              rintro e wa ⟨rfl,hba⟩;have HBB:=Lib.hid (HBB.out.trans (hba.mono HBB.out.size))
              clear hba))
          all_goals
           have HBD:=Lib.hid (hB.out.trans (HBB.out.mono hB.out.size));have hbe:∀ z:Bool,(z != z)=false:=fun z => by cases z<;>rfl
           have hbf:=hbe (eqN u.m v.m)
           cases heqv:eqN u.m v.m
           all_goals
            go_wp2
            go_roundw
            case rel => exact ⟨k+1,by omega,by go_num,HBD⟩
            case measure => simp [RowKit.intOf];omega
         ·have hltz1:¬ (k:Int) < (len1:Int):=by omega
          go_wp2_with fail
          refine (HAN.out _ hB.out).mono ?_
          rintro e w9 ⟨rfl,hb9⟩;have HB9:=Lib.hid (hB.out.trans (hb9.mono hB.out.size));have hm0:len0≤maxLen:=Nat.le_trans HLC.out.1 HLC.out.2;have HS9:=Lib.hid (tsame_any a0 a1 len0 len1 cap0 cap1 xs0 xs1 w9 hm0 (HA0.out.below HB9.out) (HA1.out.below HB9.out));have HR9:Hid (∀ w',Below w.heap.size w w' → Calls Tryd.prog 13 #[.slice a0 len0 cap0,.slice a1 len1 cap1] w' fun e w2 => e=.returned (.bool (decide (xs0.map NP.m=xs1.map NP.m)))∧Below w'.heap.size w' w2):=Lib.hid fun w' h => rsameT_any a0 a1 len0 len1 cap0 cap1 xs0 xs1 w' hm0 (HA0.out.below h) (HA1.out.below h)
          obtain ⟨D,hD⟩:∃ D,decide (xs0.map NP.m=xs1.map NP.m)=D:=⟨_,rfl⟩;rw [hD] at HS9 HR9;clear hD hb9 e2 f2
          go_wp2_with fail
          refine HS9.out.mono ?_
          rintro e w10 ⟨rfl,hb10⟩;have HB10:=Lib.hid (HB9.out.trans (hb10.mono HB9.out.size));clear hb10 HS9
          go_wp2_with fail
          refine (HR9.out _ HB10.out).mono ?_
          rintro e w11 ⟨rfl,hb11⟩;have HB11:=Lib.hid (HB10.out.trans (hb11.mono HB10.out.size));have how:=rownT_any a0 len0 cap0 xs0 w11 (HA0.out.below HB11.out) (by omega) HBO.out
          unfold OwnTPost at how;have HOW:=Lib.hid how;clear hb11 HR9 how
          cases D
          all_goals
           go_wp2_with fail
           refine HOW.out.mono ?_
           rintro e w12 ⟨q,d,ys,rfl,hys,hyn,hb12⟩;have HB12:=Lib.hid (HB11.out.trans (hb12.mono HB11.out.size));have hs:=tsame_any a0 q len0 len0 cap0 d xs0 ys w12 hm0 (HA0.out.below HB12.out) hyn;rw [decide_eq_true hys.symm] at hs;have HSO:=Lib.hid hs;clear hys hyn hb12 hs
           go_wp2_with fail
           refine HSO.out.mono ?_
           rintro e w13 ⟨rfl,hb13⟩;have FIN:=Lib.hid (HB12.out.trans (hb13.mono HB12.out.size));clear hb13
           go_wp2
           go_ret
           exact ⟨rfl,FIN.out⟩
        ·have hltz:¬ (k:Int) < (len0:Int):=by omega
         go_wp2_with fail
         refine (HAN.out _ hB.out).mono ?_
         rintro e w9 ⟨rfl,hb9⟩;have HB9:=Lib.hid (hB.out.trans (hb9.mono hB.out.size));have hm0:len0≤maxLen:=Nat.le_trans HLC.out.1 HLC.out.2;have HS9:=Lib.hid (tsame_any a0 a1 len0 len1 cap0 cap1 xs0 xs1 w9 hm0 (HA0.out.below HB9.out) (HA1.out.below HB9.out));have HR9:Hid (∀ w',Below w.heap.size w w' → Calls Tryd.prog 13 #[.slice a0 len0 cap0,.slice a1 len1 cap1] w' fun e w2 => e=.returned (.bool (decide (xs0.map NP.m=xs1.map NP.m)))∧Below w'.heap.size w' w2):=Lib.hid fun w' h => rsameT_any a0 a1 len0 len1 cap0 cap1 xs0 xs1 w' hm0 (HA0.out.below h) (HA1.out.below h)
         obtain ⟨D,hD⟩:∃ D,decide (xs0.map NP.m=xs1.map NP.m)=D:=⟨_,rfl⟩;rw [hD] at HS9 HR9;clear hD hb9 e2 f2
         go_wp2_with fail
         refine HS9.out.mono ?_
         rintro e w10 ⟨rfl,hb10⟩;have HB10:=Lib.hid (HB9.out.trans (hb10.mono HB9.out.size));clear hb10 HS9
         go_wp2_with fail
         refine (HR9.out _ HB10.out).mono ?_
         rintro e w11 ⟨rfl,hb11⟩;have HB11:=Lib.hid (HB10.out.trans (hb11.mono HB10.out.size));have how:=rownT_any a0 len0 cap0 xs0 w11 (HA0.out.below HB11.out) (by omega) HBO.out
         unfold OwnTPost at how;have HOW:=Lib.hid how;clear hb11 HR9 how
         cases D
         all_goals
          go_wp2_with fail
          refine HOW.out.mono ?_
          rintro e w12 ⟨q,d,ys,rfl,hys,hyn,hb12⟩;have HB12:=Lib.hid (HB11.out.trans (hb12.mono HB11.out.size));have hs:=tsame_any a0 q len0 len0 cap0 d xs0 ys w12 hm0 (HA0.out.below HB12.out) hyn;rw [decide_eq_true hys.symm] at hs;have HSO:=Lib.hid hs;clear hys hyn hb12 hs
          go_wp2_with fail
          refine HSO.out.mono ?_
          rintro e w13 ⟨rfl,hb13⟩;have FIN:=Lib.hid (HB12.out.trans (hb13.mono HB12.out.size));clear hb13
          go_wp2
          go_ret
          exact ⟨rfl,FIN.out⟩
end Go.Proofs.YthaoohbdjlbaeaaDoor.Walk
end
