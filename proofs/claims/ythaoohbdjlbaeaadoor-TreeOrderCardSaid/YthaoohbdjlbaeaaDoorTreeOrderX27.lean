/- Texts of this seat, merged: what the proof reaches. -/
import Derived.Test.YthaoohbdjlbaeaaDoorTreeOrderX26
import Derived.Test.YthaoohbdjlbaeaaDoorTreeOrderX20
import Derived.Lib.SlBytesConst
import Derived.Test.YthaoohbdjlbaeaaDoorTreeOrderX21
import Derived.Test.YthaoohbdjlbaeaaDoorTreeOrderX17
import Derived.Test.YthaoohbdjlbaeaaDoorTreeOrderX16
import Derived.Test.YthaoohbdjlbaeaaDoorTreeOrderX19
import Derived.BigQuiet
namespace Go.Proofs.YthaoohbdjlbaeaaDoor
namespace Base
end Base
namespace Bk
end Bk
namespace Block
end Block
namespace Byt
end Byt
namespace Mem
end Mem
namespace Rec
end Rec
namespace Tre
end Tre
namespace Txt
end Txt
end Go.Proofs.YthaoohbdjlbaeaaDoor
section
namespace Go.Proofs.YthaoohbdjlbaeaaDoor.Tre
open Go.ChangeShapes Go.WideShapes Go.ChangeAt Go.RowKit Base Byt Txt Bk Mem Go.Lib
set_option linter.unusedVariables false
set_option maxRecDepth 100000
def fB:MemV:=⟨[98],[],48,0,0,0,0,[120]⟩
def hA:MemV:=⟨[97],[98],49,0,0,0,0,[]⟩
def nA:NodeV:=⟨[97],[],[97],48,0,0,0,0,[120]⟩
def nB:NodeV:=⟨[98],[],[97],48,0,0,0,0,[120]⟩
theorem foldBA:foldD [fB,hA]=([nA,nB],0,0):=by
 have h1:badAt [fB,hA]=none:=by decide +kernel
 have h2:laysD [fB,hA] [fB,hA].length=.ok [([98],0),([97],0)]:=rfl;have h3:sortS [([98],0),([97],0)]=[([97],0),([98],0)]:=(sortS_only (by unfold Apart;decide) (List.Perm.swap _ _ _) (by unfold RiseS;decide +kernel)).symm
 rw [foldD_ok h1 h2];unfold treeD;rw [h3];rfl
theorem foldA:foldD [hA]=([],7,0):=foldD_link (by decide +kernel) rfl
theorem goodBA:goodT [nA,nB]=true:=by decide +kernel
theorem goodZ:goodT [zeroN]=false:=by decide +kernel
def cells16 (x y:MP):Array Value:=#[.string (str x.m.path),.string (str x.m.target),.int .u8 (x.m.kind.toNat:Int),.int .i64 x.m.mode,.int .i64 x.m.uid,.int .i64 x.m.gid,.int .i64 x.m.time,.slice x.p x.m.body.length x.c,
 .string (str y.m.path),.string (str y.m.target),.int .u8 (y.m.kind.toNat:Int),.int .i64 y.m.mode,.int .i64 y.m.uid,.int .i64 y.m.gid,.int .i64 y.m.time,.slice y.p y.m.body.length y.c]
theorem mems_two {w:World} {b:Nat} {x y:MP} (hb:Blk w b 45 (cells16 x y)) (hx:BodyAt w x) (hy:BodyAt w y):MemsAt w (some ⟨b,0,none⟩) 2 [x,y]:=by
 refine ⟨rfl,fun z hz => ?_,fun _ => ⟨b,0,rfl,hb.lt,fun i hi j hj => ?_⟩⟩
 ·rcases List.mem_cons.1 hz with rfl | hz
  ·exact hx
  ·rw [List.mem_singleton.1 hz];exact hy
 ·rw [hb.cell,Nat.zero_add]
  match i,hi,j,hj with
  | 0,_,0,_ => rfl
  | 0,_,1,_ => rfl
  | 0,_,2,_ => rfl
  | 0,_,3,_ => rfl
  | 0,_,4,_ => rfl
  | 0,_,5,_ => rfl
  | 0,_,6,_ => rfl
  | 0,_,7,_ => rfl
  | 1,_,0,_ => rfl
  | 1,_,1,_ => rfl
  | 1,_,2,_ => rfl
  | 1,_,3,_ => rfl
  | 1,_,4,_ => rfl
  | 1,_,5,_ => rfl
  | 1,_,6,_ => rfl
  | 1,_,7,_ => rfl
theorem mems_one {w:World} {b:Nat} {y:MP} (hb:Blk w b 45 y.cs) (hB:BodyAt w y):MemsAt w (some ⟨b,0,none⟩) 1 [y]:=by
 refine ⟨rfl,fun x hx => by rw [List.mem_singleton] at hx;subst hx;exact hB,fun _ => ⟨b,0,rfl,hb.lt,fun i hi j hj => ?_⟩⟩
 obtain rfl:i=0:=by omega
 rw [show 0+8 * 0+j=j by omega]
 exact hb.cell j
theorem nodes_one {w:World} {b:Nat} {y:NP} (hb:Blk w b 38 y.cs) (hB:BodAt w y):NodesAt w (some ⟨b,0,none⟩) 1 [y]:=by
 refine ⟨rfl,fun x hx => by rw [List.mem_singleton] at hx;subst hx;exact hB,fun _ => ⟨b,0,rfl,hb.lt,fun i hi j hj => ?_⟩⟩
 obtain rfl:i=0:=by omega
 rw [show 0+9 * 0+j=j by omega]
 exact hb.cell j
theorem body_empty (w:World) (m:MemV) (h:m.body=[]):BodyAt w ⟨m,none,0⟩:=by
 refine ⟨?_,?_,?_⟩
 ·show BAt w none m.body.length m.body
  rw [h];exact fun h0 => absurd h0 (by decide)
 ·show m.body.length≤0
  rw [h];exact Nat.le_refl _
 ·show (0:Nat)≤_
  decide
theorem bod_empty (w:World) (m:NodeV) (h:m.body=[]):BodAt w ⟨m,none,0⟩:=by
 refine ⟨?_,?_,?_⟩
 ·show BAt w none m.body.length m.body
  rw [h];exact fun h0 => absurd h0 (by decide)
 ·show m.body.length≤0
  rw [h];exact Nat.le_refl _
 ·show (0:Nat)≤_
  decide
def TwoPost (w w':World) (q:Option Addr) (d:Nat):Prop:=
 ∃ b o g c1 c2 z1,q=some ⟨b,o,none⟩∧w.heap.size≤b∧b < w'.heap.size∧2≤d∧d≤maxLen∧BAt w' g 1 [120]∧Cells9 w' b o ⟨nA,g,c1⟩∧Cells9 w' b (o+9) ⟨nB,z1,c2⟩ ∧ ∃ zs,zs.map NP.m=[nA,nB]∧NodesAt w' q 2 zs
theorem two_post {w w':World} {e:Ending} (h:FoldPost w [fB,hA] e w'):∃ q d,e=.returned (.tuple #[.slice q 2 d,.agg #[.int .i64 0,.int .i64 0]])∧TwoPost w w' q d∧Below w.heap.size w w':=by
 unfold FoldPost at h;rw [foldBA] at h;obtain ⟨q,d,zs,rfl,hz,hn,hd,hd2,hb,hq,hy⟩:=h;refine ⟨q,d,rfl,?_,hb⟩
 match zs,hz with
 | [z0,z1],hz =>
   simp only [List.map_cons,List.map_nil,List.cons.injEq,and_true] at hz;obtain ⟨h0,h1⟩:=hz;obtain ⟨m0,p0,c0⟩:=z0;obtain ⟨m1,p1,c1⟩:=z1;simp only at h0 h1;subst h0 h1;obtain ⟨b,o,e1,hbl,hB,k0⟩:=hn.cells9 (i:=0) (by decide)
   obtain ⟨b',o',e2,_,_,k1⟩:=hn.cells9 (i:=1) (by decide)
   rw [e1] at e2;obtain ⟨rfl,rfl⟩:b=b'∧o=o':=by simpa using e2
   have k0':Cells9 w' b o ⟨nA,p0,c0⟩:=by simpa using k0
   have k1':Cells9 w' b (o+9) ⟨nB,p1,c1⟩:=by simpa using k1
   exact ⟨b,o,p0,c0,c1,p1,e1,hq _ e1,hbl,hd,hd2,hB.bat,k0',k1',_,rfl,hn⟩
theorem two_fold (W:World) (b g:Nat) (hb:Blk W b 45 (cells16 ⟨fB,some ⟨g,0,none⟩,1⟩ ⟨hA,none,0⟩)) (hg:BAt W (some ⟨g,0,none⟩) 1 [120]) (hT:Path.Tabs W) :
 Calls Tryd.prog 10 #[.slice (some ⟨b,0,none⟩) 2 2] W fun e w' => ∃ q d,e=.returned (.tuple #[.slice q 2 d,.agg #[.int .i64 0,.int .i64 0]])∧TwoPost W w' q d∧Below W.heap.size W w':=
 (tfold_any (some ⟨b,0,none⟩) 2 2 [⟨fB,some ⟨g,0,none⟩,1⟩,⟨hA,none,0⟩] W (mems_two hb ⟨hg,by show (1:Nat)≤1;decide,by show (1:Nat)≤maxLen;decide⟩ (body_empty W hA rfl)) (by decide) (fun x hx => by
  rcases List.mem_cons.1 hx with rfl | hx
  ·exact ⟨by show (1:Nat)≤_;decide,by show (0:Nat)≤_;decide⟩
  ·rw [List.mem_singleton.1 hx];exact ⟨by show (1:Nat)≤_;decide,by show (1:Nat)≤_;decide⟩) (fun x hx => by
  rcases List.mem_cons.1 hx with rfl | hx
  ·show (1:Nat)≤_;decide
  ·rw [List.mem_singleton.1 hx];show (0:Nat)≤_;decide) hT).mono fun _ _ h => two_post h
theorem one_fold (W:World) (b:Nat) (hb:Blk W b 45 (MP.cs ⟨hA,none,0⟩)) (hT:Path.Tabs W) :
 Calls Tryd.prog 10 #[.slice (some ⟨b,0,none⟩) 1 1] W fun e w' => ∃ q d,e=.returned (.tuple #[.slice q 0 d,.agg #[.int .i64 7,.int .i64 0]])∧Below W.heap.size W w':=
 (tfold_any (some ⟨b,0,none⟩) 1 1 [⟨hA,none,0⟩] W (mems_one hb (body_empty W hA rfl)) (by decide) (fun x hx => by
  rw [List.mem_singleton.1 hx];exact ⟨by show (1:Nat)≤_;decide,by show (1:Nat)≤_;decide⟩) (fun x hx => by
  rw [List.mem_singleton.1 hx];show (0:Nat)≤_;decide) hT).mono fun _ _ h => by
   unfold FoldPost at h;rw [show ([⟨hA,none,0⟩]:List MP).map MP.m=[hA] from rfl,foldA] at h
   obtain ⟨q,d,zs,rfl,_,_,_,_,hb,_,_⟩:=h;exact ⟨q,d,rfl,hb⟩
theorem two_good (W:World) (q:Option Addr) (d:Nat) (hd:2≤d) (hd2:d≤maxLen) (h:∃ zs,zs.map NP.m=[nA,nB]∧NodesAt W q 2 zs) (hT:Path.Tabs W) :
 Calls Tryd.prog 14 #[.slice q 2 d] W fun e w' => e=.returned (.bool true)∧Below W.heap.size W w':=by
 obtain ⟨zs,hz,hn⟩:=h
 have:=tgood_any q 2 d zs W hn hd hd2 (fun x hx => by
  have:x.m ∈ [nA,nB]:=by rw [← hz];exact List.mem_map_of_mem hx
  unfold FitN;rcases List.mem_cons.1 this with e | e
  ·rw [e];exact ⟨by show (1:Nat)≤_;decide,by show (0:Nat)≤_;decide⟩
  ·rw [List.mem_singleton.1 e];exact ⟨by show (1:Nat)≤_;decide,by show (0:Nat)≤_;decide⟩) hT
 rw [hz,goodBA] at this;exact this
theorem zero_good (W:World) (b:Nat) (hb:Blk W b 38 (NP.cs zeroQ)) (hT:Path.Tabs W) :
 Calls Tryd.prog 14 #[.slice (some ⟨b,0,none⟩) 1 1] W fun e w' => e=.returned (.bool false)∧Below W.heap.size W w':=by
 have:=tgood_any (some ⟨b,0,none⟩) 1 1 [zeroQ] W (nodes_one hb (bod_empty W zeroN rfl)) (by decide) (by decide) (fun x hx => by
  rw [List.mem_singleton.1 hx];exact ⟨by show (0:Nat)≤_;decide,by show (0:Nat)≤_;decide⟩) hT
 rw [show ([zeroQ]:List NP).map NP.m=[zeroN] from rfl,goodZ] at this
 exact this
set_option maxHeartbeats 4000000 in
theorem ans10_any (w:World) (hT:Path.Tabs w):Calls Tryd.prog 9 #[] w fun e w' => e=.returned (.bool true)∧Below w.heap.size w w':=by
 have kc:(convert 36 36 (.slice (some ⟨w.heap.size,0,none⟩) 1 1)).run Tryd.prog (w.alloc (.cells #[.int .u8 120] 5))=.ok (.slice (some ⟨w.heap.size,0,none⟩) 1 1) (w.alloc (.cells #[.int .u8 120] 5 (1,2))):=
  Lib.run_convert_bytes_const (P:=Tryd.prog) w 36 5 #[.int .u8 120] 1 1 Tryd.underlying36 Tryd.underlying5
 obtain ⟨W1,hW1⟩:∃ W1,(w.alloc (.cells #[.int .u8 120] 5 (1,2))).alloc (.cells #[.string ⟨#[98]⟩,.string ⟨#[]⟩,.int .u8 48,.int .i64 0,.int .i64 0,.int .i64 0,.int .i64 0,.slice (some ⟨w.heap.size,0,none⟩) 1 1,.string ⟨#[97]⟩,.string ⟨#[98]⟩,.int .u8 49,.int .i64 0,.int .i64 0,.int .i64 0,.int .i64 0,.slice none 0 0] 45)=W1:=⟨_,rfl⟩;have hB1:Below w.heap.size w W1:=by rw [← hW1];exact ((Below.refl _ w).alloc (Nat.le_refl _) _).alloc (by simp) _
 have hb1:Blk W1 (w.heap.size+1) 45 (cells16 ⟨fB,some ⟨w.heap.size,0,none⟩,1⟩ ⟨hA,none,0⟩):=by
  have:=Blk.new (w.alloc (.cells #[.int .u8 120] 5 (1,2))) 45 (cells16 ⟨fB,some ⟨w.heap.size,0,none⟩,1⟩ ⟨hA,none,0⟩);rw [World.size_alloc] at this;rw [← hW1];exact this
 have ht1:BAt W1 (some ⟨w.heap.size,0,none⟩) 1 [120]:=fun _ => ⟨w.heap.size,0,rfl,fun i hi => by
  obtain rfl:i=0:=by omega
  rw [← hW1]
  have:(w.alloc (.cells #[.int .u8 120] 5 (1,2))).cell? ⟨w.heap.size,0,none⟩=some (.int .u8 120):=by
   unfold World.cell?;rw [heap_alloc_new];rfl
  exact (((Below.refl (w.heap.size+1) (w.alloc (.cells #[.int .u8 120] 5 (1,2)))).alloc (by simp) _).cell (p:=⟨w.heap.size,0,none⟩) (by show w.heap.size < w.heap.size+1;omega)).trans this⟩
 have HA:=Lib.hid (two_fold W1 _ _ hb1 ht1 (hT.below hB1));have HW1:=Lib.hid hW1;have HB1:=Lib.hid hB1;have HT:=Lib.hid hT;clear hW1 hB1 hb1 ht1 hT
 go_enter Tryd.func9,Tryd.ntmps9
 go_wp2_with fail
 rw [HW1.out];refine HA.out.mono ?_
 rintro e w2 ⟨q,d,rfl,hP2,hb2⟩;have HB2:=Lib.hid (HB1.out.trans (hb2.mono HB1.out.size));have HP2:=Lib.hid hP2;clear hb2 hP2 HA HW1
 go_wp2_with fail
 obtain ⟨W3,hW3⟩:∃ W3,(w2.alloc (.cells #[.int .i64 0,.int .i64 0] 28)).alloc (.cells #[.string ⟨#[97]⟩,.string ⟨#[98]⟩,.int .u8 49,.int .i64 0,.int .i64 0,.int .i64 0,.int .i64 0,.slice none 0 0] 45)=W3:=⟨_,rfl⟩;have h23:Below w2.heap.size w2 W3:=by rw [← hW3];exact ((Below.refl _ _).alloc (Nat.le_refl _) _).alloc (by simp) _
 have hX3:Blk W3 w2.heap.size 28 #[.int .i64 0,.int .i64 0]:=by
  have hx:=Blk.new w2 28 #[.int .i64 0,.int .i64 0];rw [← hW3];exact hx.below ((Below.refl _ _).alloc (Nat.le_refl _) _) hx.lt
 have hb3:Blk W3 (w2.heap.size+1) 45 (MP.cs ⟨hA,none,0⟩):=by
  have:=Blk.new (w2.alloc (.cells #[.int .i64 0,.int .i64 0] 28)) 45 (MP.cs ⟨hA,none,0⟩);rw [World.size_alloc] at this;rw [← hW3];exact this
 have HB3:=Lib.hid (HB2.out.trans (h23.mono HB2.out.size));have HA3:=Lib.hid (one_fold W3 _ hb3 (HT.out.below HB3.out));have HW3:=Lib.hid hW3;have H23:=Lib.hid h23;have HX3:=Lib.hid hX3;clear hW3 h23 hX3 hb3;rw [HW3.out];refine HA3.out.mono ?_
 rintro e w4 ⟨q4,d4,rfl,hb4⟩;have H24:=Lib.hid (H23.out.trans (hb4.mono H23.out.size));have HX4:=Lib.hid (HX3.out.below hb4 HX3.out.lt);have HB4:=Lib.hid (HB3.out.trans (hb4.mono HB3.out.size));clear hb4
 go_upto_region 3 with fail
 obtain ⟨W5,hW5⟩:∃ W5,w4.alloc (.cells #[.int .i64 7,.int .i64 0] 28)=W5:=⟨_,rfl⟩;rw [hW5];have h45:Below w4.heap.size w4 W5:=by rw [← hW5];exact (Below.refl _ _).alloc (Nat.le_refl _) _
 have hX5:Blk W5 w4.heap.size 28 #[.int .i64 7,.int .i64 0]:=by rw [← hW5];exact Blk.new w4 _ _
 have h25:Below w2.heap.size w2 W5:=H24.out.trans (h45.mono H24.out.size);have f0:=(HX4.out.below h45 HX4.out.lt).cell 0;have f7:=hX5.cell 0;simp only [List.getElem?_toArray,List.getElem?_cons_zero] at f0 f7;have HB5:=Lib.hid (HB4.out.trans (h45.mono HB4.out.size));unfold TwoPost at HP2;obtain ⟨b,o,g,c1,c2,z1,rfl,hb1,hb2,hd,hd2,hbg,k0,k1,hzs⟩:=HP2.out;have j0:=k0.below hb2 h25;have j1:=k1.below hb2 h25;have s0:W5.cell? ⟨b,o+2,none⟩=some (.string ⟨#[97]⟩):=j0.2.2.1;have s1:W5.cell? ⟨b,o+9+2,none⟩=some (.string ⟨#[97]⟩):=j1.2.2.1;have sb:W5.cell? ⟨b,o+8,none⟩=some (.slice g 1 c1):=j0.2.2.2.2.2.2.2.2
 have cs:(convert 36 9 (.slice g 1 c1)).run Tryd.prog W5=.ok (.string ⟨#[120]⟩) W5:=conv_at (hbg.below h25) rfl _ _ _ Tryd.underlying36 Tryd.underlying5 Tryd.underlying9 c1
 have HG:=Lib.hid (two_good W5 (some ⟨b,o,none⟩) d hd hd2 (by
  obtain ⟨zs,hz,hn⟩:=hzs
  exact ⟨zs,hz,hn.below h25⟩) (HT.out.below HB5.out))
 clear HP2 hb1 hb2 hd hd2 hbg k0 k1 j0 j1 hzs hX5 h25 hW5 h45
 go_wp2_with fail
 refine HG.out.mono ?_
 rintro e w6 ⟨rfl,hb6⟩;obtain ⟨W7,hW7⟩:∃ W7,w6.alloc (.cells #[.string ⟨#[]⟩,.string ⟨#[]⟩,.string ⟨#[]⟩,.int .u8 0,.int .i64 0,.int .i64 0,.int .i64 0,.int .i64 0,.slice none 0 0] 38)=W7:=⟨_,rfl⟩;have h67:Below w6.heap.size w6 W7:=by rw [← hW7];exact (Below.refl _ _).alloc (Nat.le_refl _) _
 have hn7:Blk W7 w6.heap.size 38 (NP.cs zeroQ):=by rw [← hW7];exact Blk.new w6 _ _
 have HB6:=Lib.hid (HB5.out.trans (hb6.mono HB5.out.size));have HB7:=Lib.hid (HB6.out.trans (h67.mono HB6.out.size));have HZ:=Lib.hid (zero_good W7 _ hn7 (HT.out.below HB7.out));have HW7:=Lib.hid hW7;clear hb6 hW7 h67 hn7 f0 f7 s0 s1 sb cs HG HA3
 go_wp2_with fail
 rw [HW7.out];refine HZ.out.mono ?_
 rintro e w8 ⟨rfl,hb8⟩;have FIN:=Lib.hid (HB7.out.trans (hb8.mono HB7.out.size));clear hb8
 go_wp2
 go_ret
 exact ⟨rfl,FIN.out⟩
end Go.Proofs.YthaoohbdjlbaeaaDoor.Tre
end
section
namespace Go.Proofs.YthaoohbdjlbaeaaDoor.Walk
open Go.ChangeShapes Go.WideShapes Go.ChangeAt Go.RowKit Base Byt Txt Bk Rec Block Mem Tre Go.Lib
set_option linter.unusedVariables false
set_option maxRecDepth 100000
structure ShI (w wr:World) (xs:List MP) (q:Option Addr) (n:Nat) (zs:List MP):Prop where
 bel:Below w.heap.size w wr
 row:0 < n → ∃ g,q=some ⟨g,0,none⟩∧w.heap.size≤g∧Rm wr g zs
 perm:zs.Perm xs
 len:xs.length=n
section
variable {w wr w':World} {xs zs:List MP} {q:Option Addr} {n:Nat}
theorem ShI.zlen (h:ShI w wr xs q n zs):zs.length=n:=by rw [h.perm.length_eq,h.len]
theorem ShI.drewN (h:ShI w wr xs q n zs) (m:Nat):ShI w (wr.drewN m) xs q n zs where
 bel:=below_drewN h.bel m
 row:=fun h0 => by
  obtain ⟨g,h1,h2,h3⟩:=h.row h0;exact ⟨g,h1,h2,rm_drewN h3 m⟩
 perm:=h.perm
 len:=h.len
theorem ShI.drew (h:ShI w wr xs q n zs):ShI w wr.drew xs q n zs:=h.drewN 1
theorem ShI.swap (h:ShI w wr xs q n zs) {g i k:Nat} (hq:q=some ⟨g,0,none⟩) (hw:w.heap.size≤g) (hr:Rm wr g zs) (hi:i < n) (hk:k < n) :
 ShI w (put8 (put8 wr g (i * 8) (zs.getD k zeroP)) g (k * 8) (zs.getD i zeroP)) xs q n ((zs.set i (zs.getD k zeroP)).set k (zs.getD i zeroP)) where
 bel:=h.bel.trans (((put8_kept (S:=oneB g) rfl _).trans (put8_kept (S:=oneB g) rfl _)).below h.bel.size (fun b hb => by rw [show b=g from hb];exact hw))
 row:=fun _ => ⟨g,hq,hw,by
  have h1:=hr.set (k:=i) (by rw [h.zlen];exact hi) (zs.getD k zeroP)
  exact h1.set (k:=k) (by rw [List.length_set,h.zlen];exact hk) (zs.getD i zeroP)⟩
 perm:=by
  refine List.Perm.trans ?_ h.perm;rw [getP_eq (show i < zs.length by rw [h.zlen];exact hi),getP_eq (show k < zs.length by rw [h.zlen];exact hk)]
  exact List.set_set_perm _ _
 len:=h.len
theorem ShI.mems {p:Option Addr} (h:ShI w wr xs q n zs) (hx:MemsAt w p n xs):MemsAt wr q n zs:=by
 have hb:∀ y ∈ zs,BodyAt wr y:=fun y hy => (hx.2.1 y (h.perm.mem_iff.1 hy)).below h.bel
 rcases Nat.eq_zero_or_pos n with h0 | h0
 ·have hz:zs=[]:=List.eq_nil_of_length_eq_zero (by rw [h.zlen,h0])
  rw [h0,hz];exact mems_nil _ _
 ·obtain ⟨g,hq,_,hr⟩:=h.row h0
  have:=hr.mems hb;rw [h.zlen] at this;rw [hq];exact this
end
set_option maxHeartbeats 8000000 in
theorem treeOrder (a0:Option Addr) (len0 cap0:Nat) (xs0:List MP) (a1:Option Addr) (len1 cap1:Nat) (z1:List Int) (w:World) (ma0:MemsAt w a0 len0 xs0) (lc0:len0≤cap0) (cm0:cap0≤maxLen) (by0:cap0 * 96≤140737488351232) (rm0:∀ x ∈ xs0,WfM x.m∧RoomM x)
 (w1:IsRow .u8 w a1 len1 cap1 z1) (b1:cap1 * 1≤140737488351232) (hT:Path.Tabs w) :
 Calls Tryd.prog 7 #[.slice a0 len0 cap0,.slice a1 len1 cap1] w fun e w' => e=.returned (.bool true)∧Below w.heap.size w w':=by
 obtain ⟨hbt,hbl,hb3,hb4⟩:=bat_of_row w1;obtain ⟨ts,hts⟩:∃ ts,bytesOf (z1.take len1)=ts:=⟨_,rfl⟩;rw [hts] at hbt;have HBT:=Lib.hid hbt;clear hbt hbl hts w1;have HS:=Lib.hid (light1_any a0 len0 cap0 xs0 w ma0 fun x hx => (rm0 x hx).2)
 have HAN:Hid (∀ w1,Below w.heap.size w w1 → Calls Tryd.prog 9 #[] w1 fun e w' => e=.returned (.bool true)∧Below w1.heap.size w1 w'):=Lib.hid fun w1 h => ans10_any w1 (hT.below h)
 have HA0:=Lib.hid ma0;have HT:=Lib.hid hT;have HL:=Lib.hid ma0.1;have h1b:len1≤140737488351232:=by omega
 obtain ⟨s,hs⟩:∃ s,light1D (xs0.map MP.m)=s:=⟨_,rfl⟩;rw [hs] at HS;have HE:=Lib.hid hs;clear ma0 lc0 cm0 by0 rm0 hT hs hb3 hb4 b1
 go_enter Tryd.func7,Tryd.ntmps7
 go_wp2_with fail
 refine HS.out.mono ?_
 rintro e w1 ⟨rfl,rfl⟩;clear HS
 cases s with
 | false =>
   go_wp2_with fail
   refine (HAN.out _ (Below.refl _ _)).mono ?_
   rintro e w2 ⟨rfl,hb2⟩;have FIN:=Lib.hid hb2;clear hb2
   go_wp2
   go_ret
   exact ⟨rfl,FIN.out⟩
 | true =>
   have hfit:=light1D_facts HE.out;rw [List.length_map] at hfit;have hl0:len0≤60:=by rw [← HL.out];exact hfit.1
   have HF:Hid (∀ x ∈ xs0,x.m.path.length≤2000∧x.m.target.length≤2000∧x.m.body.length≤100000):=Lib.hid fun x hx => hfit.2 x.m (List.mem_map_of_mem hx)
   clear hfit
   go_wp2_with fail
   go_loopw [5,6] (fun i _ wr => ∃ (k:Nat),k≤len0∧i=.int .i64 (k:Int)∧Hid (∀ a b,a < b → b < k → (xs0.getD a zeroP).m.path≠(xs0.getD b zeroP).m.path)∧Hid (∀ j,j < k → goodD (xs0.getD j zeroP).m=true∧(xs0.getD j zeroP).m.kind≠49)∧Hid (Below w.heap.size w wr)) (fun i _ _ => len0 - (RowKit.intOf i).toNat)
   case atStart => exact ⟨0,Nat.zero_le _,rfl,Lib.hid (fun a b _ h => absurd h (by omega)),Lib.hid (fun j h => absurd h (by omega)),Lib.hid (Below.refl _ _)⟩
   case round =>
    obtain ⟨k,hk,rfl,hD,hG,hB⟩:=hrel
    by_cases hlt:k < len0
    ·have hltz:(k:Int) < (len0:Int):=by omega
     go_wp2_with fail
     go_loopw [6] (fun j wr => ∃ (a:Nat),a≤k∧j=.int .i64 (a:Int)∧Hid (∀ i,i < a → (xs0.getD i zeroP).m.path≠(xs0.getD k zeroP).m.path)∧Hid (Below w.heap.size w wr)) (fun j _ => k - (RowKit.intOf j).toNat)
     case atStart => exact ⟨0,Nat.zero_le _,rfl,Lib.hid (fun i h => absurd h (by omega)),hB⟩
     case round =>
      clear hB;obtain ⟨a,ha,rfl,hN,hB⟩:=hrel;obtain ⟨v,hv⟩:∃ v,xs0.getD k zeroP=v:=⟨_,rfl⟩;have hvm:=getP_mem xs0 k (by rw [HL.out];exact hlt)
      obtain ⟨b2,o2,rfl,hb2,hB2,hc2⟩:=(HA0.out.below hB.out).cells8 hlt;rw [hv] at hvm hc2;have HV:=Lib.hid (And.intro hv hvm);obtain ⟨d0,d1,d2,d3,d4,d5,d6,d7⟩:=hc2
      by_cases hak:a < k
      ·obtain ⟨u,hu⟩:∃ u,xs0.getD a zeroP=u:=⟨_,rfl⟩
       obtain ⟨b3,o3,he3,hb3,hB3,hc3⟩:=(HA0.out.below hB.out).cells8 (show a < len0 by omega)
       cases he3
       rw [hu] at hc3;have HU:=Lib.hid hu;obtain ⟨c0,c1,c2,c3,c4,c5,c6,c7⟩:=hc3;have e1:=neqS u.m.path v.m.path;have hakz:(a:Int) < (k:Int):=by omega
       have halz:(a:Int) < (len0:Int):=by omega
       clear hv hvm hu hb2 hB2 hb3 hB3
       by_cases hep:u.m.path=v.m.path
       ·rw [decide_eq_true hep] at e1
        clear hep
        go_upto_region 9 with fail
        go_quiet (fail)
        go_wp2_with fail
        refine (HAN.out _ (below_drewN hB.out _)).mono ?_
        rintro e w2 ⟨rfl,hb2⟩;have FIN:=Lib.hid ((below_drewN hB.out _).trans (hb2.mono hB.out.size));clear hb2
        go_wp2
        go_ret
        exact ⟨rfl,FIN.out⟩
       ·rw [decide_eq_false hep] at e1
        have HN2:Hid (∀ i,i < a+1 → (xs0.getD i zeroP).m.path≠(xs0.getD k zeroP).m.path):=Lib.hid (fun i hi => by
         by_cases h1:i=a
         ·rw [h1,HU.out,HV.out.1];exact hep
         ·exact hN.out i (by omega))
        clear hep
        go_upto_region 9 with fail
        go_quiet (fail)
        go_wp2
        go_roundw
        case rel => exact ⟨a+1,by omega,by go_num,HN2,Lib.hid (below_drewN hB.out _)⟩
        case measure => simp [RowKit.intOf];omega
      ·have hakz:¬ ((a:Int) < (k:Int)):=by omega
       have hfv:=HF.out v HV.out.2;have ek:=kind_ne1 v.m.kind 49 49 rfl;have HGC:=Lib.hid (rgood_any v.m v.p v.c wr (by omega) (by omega))
       unfold memC at HGC;obtain ⟨kn,hkn⟩:∃ kn:Int,(v.m.kind.toNat:Int)=kn:=⟨_,rfl⟩;rw [hkn] at d2 ek HGC;clear hv hvm hb2 hB2 hfv hkn
       by_cases h49:v.m.kind=49
       ·rw [decide_eq_true h49] at ek
        clear h49 HGC
        go_wp2_with fail
        refine (HAN.out _ hB.out).mono ?_
        rintro e w2 ⟨rfl,hb2⟩;have FIN:=Lib.hid (hB.out.trans (hb2.mono hB.out.size));clear hb2
        go_wp2
        go_ret
        exact ⟨rfl,FIN.out⟩
       ·rw [decide_eq_false h49] at ek
        have H49:=Lib.hid h49;obtain ⟨gd,hgd⟩:∃ gd,goodD v.m=gd:=⟨_,rfl⟩;rw [hgd] at HGC;have HGD:=Lib.hid hgd;clear h49 hgd
        go_wp2_with fail
        refine HGC.out.mono ?_
        rintro e w2 ⟨rfl,hb2⟩;have HB2:=Lib.hid (hB.out.trans (hb2.mono hB.out.size));clear hb2 HGC d0 d1 d2 d3 d4 d5 d6 d7
        cases gd with
        | false =>
          go_wp2_with fail
          refine (HAN.out _ HB2.out).mono ?_
          rintro e w3 ⟨rfl,hb3⟩;have FIN:=Lib.hid (HB2.out.trans (hb3.mono HB2.out.size));clear hb3
          go_wp2
          go_ret
          exact ⟨rfl,FIN.out⟩
        | true =>
          have HD2:Hid (∀ a b,a < b → b < k+1 → (xs0.getD a zeroP).m.path≠(xs0.getD b zeroP).m.path):=Lib.hid (fun i b hi hb => by
           by_cases h1:b=k
           ·rw [h1];exact hN.out i (by omega)
           ·exact hD.out i b hi (by omega))
          have HG2:Hid (∀ j,j < k+1 → goodD (xs0.getD j zeroP).m=true∧(xs0.getD j zeroP).m.kind≠49):=Lib.hid (fun j hj => by
           by_cases h1:j=k
           ·rw [h1,HV.out.1];exact ⟨HGD.out,H49.out⟩
           ·exact hG.out j (by omega))
          go_wp2
          go_roundw
          case rel => exact ⟨k+1,by omega,by go_num,HD2,HG2,HB2⟩
          case measure => simp [RowKit.intOf];omega
    ·have hks:¬ ((k:Int) < (len0:Int)):=by omega
     have hmem:∀ m ∈ xs0.map MP.m,∃ j,j < k∧m=(xs0.getD j zeroP).m:=fun m hm => by
      obtain ⟨x,hx,rfl⟩:=List.mem_map.1 hm;obtain ⟨j,hj,e⟩:=List.mem_iff_getElem.1 hx;exact ⟨j,by have:=HL.out;omega,by rw [getP_eq hj,e]⟩
     have HGA:Hid (∀ m ∈ xs0.map MP.m,goodD m=true):=Lib.hid (fun m hm => by
      obtain ⟨j,hj,rfl⟩:=hmem m hm
      exact (hG.out j hj).1)
     have HKA:Hid (∀ m ∈ xs0.map MP.m,m.kind≠49):=Lib.hid (fun m hm => by
      obtain ⟨j,hj,rfl⟩:=hmem m hm
      exact (hG.out j hj).2)
     have HDA:Hid (((xs0.map MP.m).map (·.path)).Nodup):=Lib.hid (by
      unfold List.Nodup;rw [List.pairwise_iff_getElem];intro i j hi hj hij;rw [List.length_map,List.length_map] at hi hj;have:=hD.out i j hij (by have:=HL.out;omega)
      rw [getP_eq hi,getP_eq hj] at this;rw [List.getElem_map,List.getElem_map,List.getElem_map,List.getElem_map]
      exact this)
     have HWR:=hB;obtain ⟨wo,rfl⟩:∃ x,x=wr:=⟨_,rfl⟩;have HM0:=Lib.hid (HA0.out.below HWR.out);clear hmem hD hG hB hlt hk
     go_wp2_with (at_builtin;refine append_memsT rfl _ _ rfl wo.heap.size _ 0 [] rfl rfl (World.ownsRow_made wo #[] 0 (Nat.le_refl _) (by decide) rfl) a0 len0 cap0 xs0 rfl (HM0.out.below ((Below.refl _ _).alloc (Nat.le_refl _) _)) (by omega) (by simp) ?_)
     intro v1 w1 hown hgrow;have hk1:Kept noneB wo w1:=(((Kept.refl noneB wo).alloc _)).grown hgrow (by intro k hk;simp [Value.ownBlock] at hk;omega)
     have hb1:Below wo.heap.size wo w1:=hk1.below (Nat.le_refl _) (fun _ h => h.elim)
     obtain ⟨q,c1,rfl,hc1,hc2,hcl⟩:=mems_own hown (fun y hy => (HM0.out.2.1 y hy).below hb1)
     have hl:=HL.out
     have HO:Hid (ShI wo w1 xs0 q len0 xs0):=Lib.hid
      { bel:=hb1
        row:=fun h0 => by
         obtain ⟨g,c2,he,hB,_,_,hrc⟩:=rm_own hown (by rw [hl];exact h0)
         cases he
         exact ⟨g,rfl,hB,hrc⟩
        perm:=List.Perm.refl _
        len:=hl }
     rw [hl] at hc1 ⊢;have HC:=Lib.hid (And.intro hc1 hc2);clear hown hgrow hk1 hb1 hl hc1 hc2 hcl hks
     go_wp2_with fail
     go_loopw [8,9] (fun i _ wr => ∃ (a:Nat) (zs:List MP),a≤len0∧i=.int .i64 (a:Int)∧Hid (ShI wo wr xs0 q len0 zs)) (fun i _ _ => len0 - (RowKit.intOf i).toNat)
     case atStart => exact ⟨0,xs0,Nat.zero_le _,rfl,HO⟩
     case round =>
      clear HO;obtain ⟨a,zs,ha,rfl,hO⟩:=hrel
      by_cases hal:a < len0∧a < len1
      ·obtain ⟨hal,hal1⟩:=hal
       have halz:(a:Int) < (len0:Int):=by omega
       have halz1:(a:Int) < (len1:Int):=by omega
       have hby:=HWR.out.trans (hO.out.bel.mono HWR.out.size);obtain ⟨bt,ot,rfl,hct⟩:=(HBT.out.below hby) (by omega)
       have hc:=hct a hal1;obtain ⟨g,hq,hwg,hrm⟩:=hO.out.row (by omega)
       subst hq;obtain ⟨T,hTv⟩:∃ T:Nat,(ts.getD a 0).toNat=T:=⟨_,rfl⟩;have hT256:T < 256:=by rw [← hTv];exact (ts.getD a 0).toNat_lt
       rw [hTv] at hc;have q1:IntKind.i64.wrap (T:Int)=(T:Int):=by rw [IntKind.wrap_i64];omega
       have q2:IntKind.i64.wrap ((len0:Int) - (a:Int))=(len0:Int) - (a:Int):=by rw [IntKind.wrap_i64];omega
       have q3:¬ ((len0:Int) - (a:Int)=0):=by omega
       obtain ⟨K,q4,hK,haK⟩:∃ K:Nat,IntKind.i64.wrap ((a:Int)+(T:Int) % ((len0:Int) - (a:Int)))=(K:Int)∧K < len0∧a≤K:=by
        have h1:=Int.emod_nonneg (T:Int) q3;have h2:=Int.emod_lt_of_pos (T:Int) (show (0:Int) < (len0:Int) - (a:Int) by omega)
        refine ⟨a+((T:Int) % ((len0:Int) - (a:Int))).toNat,?_,by omega,by omega⟩
        rw [IntKind.wrap_i64]
        all_goals omega
       by_cases hKa:a=K
       ·subst hKa
        have hzl:=hO.out.zlen;have hcu:=hrm.cells8 (show a < zs.length by omega)
        have HSW:Hid (ShI wo (put8 (put8 wr g (a * 8) (zs.getD a zeroP)) g (a * 8) (zs.getD a zeroP)) xs0 (some ⟨g,0,none⟩) len0 ((zs.set a (zs.getD a zeroP)).set a (zs.getD a zeroP))):=Lib.hid (hO.out.swap rfl hwg hrm hal hK);obtain ⟨cur,hbk,_,_⟩:=hrm;obtain ⟨u,hu⟩:∃ u,zs.getD a zeroP=u:=⟨_,rfl⟩;rw [hu] at hcu HSW;obtain ⟨c0,c1',c2,c3,c4,c5,c6,c7⟩:=hcu;have fa0:=hbk.frozen (a * 8);have fa1:=hbk.frozen (a * 8+1);have fa2:=hbk.frozen (a * 8+2);have fa3:=hbk.frozen (a * 8+3);have fa4:=hbk.frozen (a * 8+4);have fa5:=hbk.frozen (a * 8+5);have fa6:=hbk.frozen (a * 8+6)
        have fa7:=hbk.frozen (a * 8+7);clear hct hby hTv hu hzl hbk
        go_upto_region 18 with fail
        clear q1 q2 q3 q4 hc
        go_region
        go_wp2
        go_roundw
        case rel => exact ⟨a+1,_,by omega,by go_num,Lib.hid HSW.out.drew⟩
        case measure => simp [RowKit.intOf];omega
       ·have haK2:a < K:=by omega
        have hkz:(K:Int) < (len0:Int):=by omega
        have hzl:=hO.out.zlen;have hcu:=hrm.cells8 (show a < zs.length by omega)
        have hcv:=hrm.cells8 (show K < zs.length by omega)
        have HSW:Hid (ShI wo (put8 (put8 wr g (a * 8) (zs.getD K zeroP)) g (K * 8) (zs.getD a zeroP)) xs0 (some ⟨g,0,none⟩) len0 ((zs.set a (zs.getD K zeroP)).set K (zs.getD a zeroP))):=Lib.hid (hO.out.swap rfl hwg hrm hal hK);obtain ⟨cur,hbk,_,_⟩:=hrm;obtain ⟨u,hu⟩:∃ u,zs.getD a zeroP=u:=⟨_,rfl⟩;obtain ⟨v,hv⟩:∃ v,zs.getD K zeroP=v:=⟨_,rfl⟩;rw [hu] at hcu HSW;rw [hv] at hcv HSW;obtain ⟨c0,c1',c2,c3,c4,c5,c6,c7⟩:=hcu;obtain ⟨d0,d1,d2,d3,d4,d5,d6,d7⟩:=hcv;have fa0:=hbk.frozen (a * 8);have fb0:=hbk.frozen (K * 8);have fa1:=hbk.frozen (a * 8+1)
        have fb1:=hbk.frozen (K * 8+1);have fa2:=hbk.frozen (a * 8+2);have fb2:=hbk.frozen (K * 8+2);have fa3:=hbk.frozen (a * 8+3);have fb3:=hbk.frozen (K * 8+3);have fa4:=hbk.frozen (a * 8+4);have fb4:=hbk.frozen (K * 8+4);have fa5:=hbk.frozen (a * 8+5);have fb5:=hbk.frozen (K * 8+5);have fa6:=hbk.frozen (a * 8+6);have fb6:=hbk.frozen (K * 8+6);have fa7:=hbk.frozen (a * 8+7);have fb7:=hbk.frozen (K * 8+7);clear hct hby hTv hu hv hzl hbk
        go_upto_region 18 with fail
        clear q1 q2 q3 q4 hc
        go_region
        go_wp2
        go_roundw
        case rel => exact ⟨a+1,_,by omega,by go_num,Lib.hid HSW.out.drew⟩
        case measure => simp [RowKit.intOf];omega
      ·have HMZ:=Lib.hid (hO.out.mems HM0.out)
       have HPZ:Hid ((zs.map MP.m).Perm (xs0.map MP.m)):=Lib.hid (hO.out.perm.map _);have HYF:Hid (∀ y ∈ zs,y.m.path.length≤2000∧y.m.target.length≤2000∧y.m.body.length≤100000):=Lib.hid (fun y hy => HF.out y (hO.out.perm.mem_iff.1 hy))
       obtain ⟨t,ht1,ht2,ht3⟩:=fold_perm HGA.out HKA.out HDA.out HPZ.out;rw [List.length_map,HL.out] at ht3;have HBW:=Lib.hid (HWR.out.trans (hO.out.bel.mono HWR.out.size));have hf:=tfold_any a0 len0 cap0 xs0 wr (HA0.out.below HBW.out) (by omega) (fun y hy => by have:=HF.out y hy;exact ⟨by omega,by omega⟩) (fun y hy => by have:=(HF.out y hy).2.2;omega) (HT.out.below HBW.out)
       unfold FoldPost at hf;rw [ht1] at hf;simp only [ht3] at hf;have HFO:=Lib.hid hf
       have HF2:Hid (∀ w',Below wr.heap.size wr w' → Calls Tryd.prog 10 #[.slice q len0 c1] w' fun e w2 => ∃ q d us,e=.returned (.tuple #[.slice q len0 d,.agg #[.int .i64 0,.int .i64 0]])∧us.map NP.m=t∧NodesAt w2 q len0 us∧Below w'.heap.size w' w2):=Lib.hid (fun w' hb => by
        have hf:=tfold_any q len0 c1 zs w' (HMZ.out.below hb) (by omega) (fun y hy => by have:=HYF.out y hy;exact ⟨by omega,by omega⟩) (fun y hy => by have:=(HYF.out y hy).2.2;omega) (HT.out.below (HBW.out.trans (hb.mono HBW.out.size)))
        refine hf.mono ?_
        rintro e w2 ⟨q,d,us,he,h1,h2,_,_,h5,_,_⟩;rw [ht2] at he h1 h2;simp only [ht3] at he h2
        exact ⟨q,d,us,he,h1,h2,h5⟩)
       clear hf ht1 ht2 ht3;have hcond:¬ ((a:Int) < (len0:Int)) ∨ ((a:Int) < (len0:Int))∧¬ ((a:Int) < (len1:Int)):=by omega
       rcases hcond with hcn | ⟨hcn,hcn1⟩
       all_goals
        go_wp2_with fail
        refine HFO.out.mono ?_
        rintro e w3 ⟨q3,d3,us,rfl,hz,hnod,hd,hd2,hb3,_,_⟩
        go_upto_region 20 with fail
        obtain ⟨W3,hW3⟩:∃ W3,w3.alloc (.cells #[.int .i64 0,.int .i64 0] 28)=W3:=⟨_,rfl⟩;rw [hW3];have h33:Below w3.heap.size w3 W3:=by rw [← hW3];exact (Below.refl _ _).alloc (Nat.le_refl _) _
        have HX3:Hid (Blk W3 w3.heap.size 28 #[.int .i64 0,.int .i64 0]):=Lib.hid (by rw [← hW3];exact Blk.new w3 _ _)
        have H3:=Lib.hid (hb3.trans (h33.mono hb3.size));have HN3:=Lib.hid (And.intro hz (hnod.below h33));have HG3:=Lib.hid (HF2.out W3 H3.out);clear hz hnod hd hd2 hb3 h33 HFO;clear hW3
        go_wp2_with fail
        refine HG3.out.mono ?_
        rintro e w4 ⟨q4,d4,vs,rfl,hu,hnou,hb4⟩
        go_upto_region 21 with fail
        obtain ⟨W4,hW4⟩:∃ W4,w4.alloc (.cells #[.int .i64 0,.int .i64 0] 28)=W4:=⟨_,rfl⟩;rw [hW4];have h44:Below w4.heap.size w4 W4:=by rw [← hW4];exact (Below.refl _ _).alloc (Nat.le_refl _) _
        have HX4:Hid (Blk W4 w4.heap.size 28 #[.int .i64 0,.int .i64 0]):=Lib.hid (by rw [← hW4];exact Blk.new w4 _ _)
        have hb34:=hb4.trans (h44.mono hb4.size);have HX34:=Lib.hid (HX3.out.below hb34 HX3.out.lt);have HB4:=Lib.hid (HBW.out.trans ((H3.out.trans (hb34.mono H3.out.size)).mono HBW.out.size));have HN34:=Lib.hid (HN3.out.2.below hb34);have HN4:=Lib.hid (And.intro hu (hnou.below h44));clear hu hnou hb4 h44 hb34 HG3;clear hW4
        go_wp2_with fail
        refine (HAN.out _ HB4.out).mono ?_
        rintro e w5 ⟨rfl,hb5⟩;have HB5:=Lib.hid (HB4.out.trans (hb5.mono HB4.out.size));have x0:=(HX34.out.below hb5 HX34.out.lt).cell 0;have y0:=(HX4.out.below hb5 HX4.out.lt).cell 0;simp only [List.getElem?_toArray,List.getElem?_cons_zero] at x0 y0;have hsm:=rsameT_any q3 q4 len0 len0 d3 d4 us vs w5 (by unfold maxLen;omega) (HN34.out.below hb5) (HN4.out.2.below hb5)
        rw [decide_eq_true (by rw [HN3.out.1,HN4.out.1])] at hsm
        have HSM:=Lib.hid hsm;clear hb5 hsm
        go_wp2_with fail
        refine HSM.out.mono ?_
        rintro e w6 ⟨rfl,hb6⟩;have HB6:=Lib.hid (HB5.out.trans (hb6.mono HB5.out.size));clear hb6 x0 y0 HSM
        go_wp2
        go_ret
        exact ⟨rfl,HB6.out⟩
end Go.Proofs.YthaoohbdjlbaeaaDoor.Walk
end
