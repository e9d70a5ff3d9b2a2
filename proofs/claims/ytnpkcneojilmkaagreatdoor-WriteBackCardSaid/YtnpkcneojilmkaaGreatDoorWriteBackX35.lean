/- Texts of this seat, merged: what the proof reaches. -/
import Derived.Test.YtnpkcneojilmkaaGreatDoorWriteBackX34
import Derived.Test.YtnpkcneojilmkaaGreatDoorWriteBackX32
import Derived.Deep.RegionHeld3
import Derived.Deep.RegionHeldLaw
import Derived.Test.YtnpkcneojilmkaaGreatDoorWriteBackX33
section
namespace Go.Proofs.YtnpkcneojilmkaaGreatDoor.Mem
open Go.ChangeShapes Go.WideShapes Go.ChangeAt Go.RowKit Base Byt Txt Bk Hp Head Num Path Block Rec Go.Lib
set_option linter.unusedVariables false
set_option maxRecDepth 100000
def Cells8 (w:World) (b o:Nat) (y:MP):Prop:=
 w.cell? ⟨b,o,none⟩=some (.string (str y.m.path))∧w.cell? ⟨b,o+1,none⟩=some (.string (str y.m.target))∧w.cell? ⟨b,o+2,none⟩=some (.int .u8 (y.m.kind.toNat:Int))∧w.cell? ⟨b,o+3,none⟩=some (.int .i64 y.m.mode) ∧
 w.cell? ⟨b,o+4,none⟩=some (.int .i64 y.m.uid)∧w.cell? ⟨b,o+5,none⟩=some (.int .i64 y.m.gid)∧w.cell? ⟨b,o+6,none⟩=some (.int .i64 y.m.time)∧w.cell? ⟨b,o+7,none⟩=some (.slice y.p y.m.body.length y.c)
theorem Cells8.below {w w':World} {b o:Nat} {y:MP} (h:Cells8 w b o y) (hb:b < w.heap.size) (hw:Below w.heap.size w w'):Cells8 w' b o y:=by
 unfold Cells8 at h ⊢;simp only [hw.cell (p:=⟨b,_,none⟩) hb];exact h
theorem MemsAt.cells8 {w:World} {p:Option Addr} {n:Nat} {xs:List MP} (h:MemsAt w p n xs) {i:Nat} (hi:i < n):∃ b o,p=some ⟨b,o,none⟩∧b < w.heap.size∧BodyAt w (xs.getD i zeroP)∧Cells8 w b (o+i * 8) (xs.getD i zeroP):=by
 obtain ⟨b,o,hp,hb,hB,c0,c1,c2,c3,c4,c5,c6,c7⟩:=h.cells hi;rw [Nat.mul_comm] at c0 c1 c2 c3 c4 c5 c6 c7;exact ⟨b,o,hp,hb,hB,c0,c1,c2,c3,c4,c5,c6,c7⟩
set_option maxHeartbeats 4000000 in
theorem rsameAll_any (p q:Option Addr) (n m c d:Nat) (xs ys:List MP) (w:World) (hn:n≤maxLen) (h1:MemsAt w p n xs) (h2:MemsAt w q m ys) :
 Calls Tryz.prog 22 #[.slice p n c,.slice q m d] w fun e w' => e=.returned (.bool (decide (xs.map MP.m=ys.map MP.m)))∧Below w.heap.size w w':=by
 unfold maxLen at hn;have H1:=Lib.hid h1;have H2:=Lib.hid h2;have HL1:=Lib.hid h1.1;have HL2:=Lib.hid h2.1;clear h1 h2
 go_enter Tryz.func22,Tryz.ntmps22
 by_cases hnm:n=m
 ·subst hnm
  have hb:(((n:Int)) != (n:Int))=false:=by simp
  go_wp2_with fail
  go_loopw [5] (fun i wr => ∃ (k:Nat),k≤n∧i=.int .i64 (k:Int)∧Hid (∀ j,j < k → (xs.getD j zeroP).m=(ys.getD j zeroP).m)∧Hid (Below w.heap.size w wr)) (fun i _ => n - (RowKit.intOf i).toNat)
  case atStart => exact ⟨0,Nat.zero_le _,rfl,Lib.hid (fun j hj => absurd hj (by omega)),Lib.hid (Below.refl _ _)⟩
  case round =>
   obtain ⟨k,hk,rfl,hd,hB⟩:=hrel
   by_cases hlt:k < n
   ·obtain ⟨b1,o1,rfl,hb1,hB1,hc1⟩:=(H1.out.below hB.out).cells8 hlt
    obtain ⟨b2,o2,rfl,hb2,hB2,hc2⟩:=(H2.out.below hB.out).cells8 hlt;obtain ⟨u,hu⟩:∃ u,xs.getD k zeroP=u:=⟨_,rfl⟩;obtain ⟨v,hv⟩:∃ v,ys.getD k zeroP=v:=⟨_,rfl⟩;rw [hu] at hB1 hc1;rw [hv] at hB2 hc2;have HU:=Lib.hid hu;have HV:=Lib.hid hv;have HA:=Lib.hid hB1;have HB:=Lib.hid hB2;have HCC:Hid (∀ w',Below wr.heap.size wr w' → Cells8 w' b1 (o1+k * 8) u∧Cells8 w' b2 (o2+k * 8) v):=Lib.hid (fun w' h => ⟨hc1.below hb1 h,hc2.below hb2 h⟩)
    have HBB:Hid (Below wr.heap.size wr wr.drew):=Lib.hid (below_drewN (Below.refl wr.heap.size wr) 1);unfold Cells8 at HCC;clear hB1 hB2 hc1 hc2 hu hv hb1 hb2;have hltz:(k:Int) < (n:Int):=by omega
    go_wp2_with fail
    go_region_held3 (fun w' => (w'.cell? ⟨b1,o1+k * 8,none⟩=some (.string (str u.m.path))∧w'.cell? ⟨b1,o1+k * 8+1,none⟩=some (.string (str u.m.target))∧w'.cell? ⟨b1,o1+k * 8+2,none⟩=some (.int .u8 (u.m.kind.toNat:Int))∧w'.cell? ⟨b1,o1+k * 8+3,none⟩=some (.int .i64 u.m.mode)∧w'.cell? ⟨b1,o1+k * 8+4,none⟩=some (.int .i64 u.m.uid)∧w'.cell? ⟨b1,o1+k * 8+5,none⟩=some (.int .i64 u.m.gid)∧w'.cell? ⟨b1,o1+k * 8+6,none⟩=some (.int .i64 u.m.time)∧w'.cell? ⟨b1,o1+k * 8+7,none⟩=some (.slice u.p u.m.body.length u.c))∧(w'.cell? ⟨b2,o2+k * 8,none⟩=some (.string (str v.m.path))∧w'.cell? ⟨b2,o2+k * 8+1,none⟩=some (.string (str v.m.target))∧w'.cell? ⟨b2,o2+k * 8+2,none⟩=some (.int .u8 (v.m.kind.toNat:Int))∧w'.cell? ⟨b2,o2+k * 8+3,none⟩=some (.int .i64 v.m.mode)∧w'.cell? ⟨b2,o2+k * 8+4,none⟩=some (.int .i64 v.m.uid)∧w'.cell? ⟨b2,o2+k * 8+5,none⟩=some (.int .i64 v.m.gid)∧w'.cell? ⟨b2,o2+k * 8+6,none⟩=some (.int .i64 v.m.time)∧w'.cell? ⟨b2,o2+k * 8+7,none⟩=some (.slice v.p v.m.body.length v.c))) (exact HCC.out _ HBB.out) (first
     | (go_at_call 16
        refine (rsame_any u.m v.m u.p v.p u.c v.c _ (HA.out.below HBB.out).bat (HB.out.below HBB.out).bat).mono ?_
        rintro e wa ⟨rfl,hba⟩;have HBB:=Lib.hid (HBB.out.trans (hba.mono HBB.out.size))
        clear hba))
    all_goals
     by_cases huv:u.m=v.m
     ·have huv2:decide (u.m=v.m)=true:=decide_eq_true huv
      have HD:Hid (∀ j,j < k+1 → (xs.getD j zeroP).m=(ys.getD j zeroP).m):=Lib.hid (fun j hj => by
       rcases Nat.lt_succ_iff_lt_or_eq.1 hj with h | rfl
       ·exact hd.out j h
       ·rw [HU.out,HV.out,huv])
      clear huv;have HBD:=Lib.hid (hB.out.trans (HBB.out.mono hB.out.size));rw [huv2]
      go_wp2
      go_roundw
      case rel => exact ⟨k+1,by omega,by go_num,HD,HBD⟩
      case measure => simp [RowKit.intOf];omega
     ·have huv2:decide (u.m=v.m)=false:=decide_eq_false huv
      have HNE:Hid (decide (xs.map MP.m=ys.map MP.m)=false):=Lib.hid (decide_eq_false (mems_differ xs ys k (by rw [HL1.out];exact hlt) (by rw [HL2.out];exact hlt) (by rw [HU.out,HV.out];exact huv)))
      clear huv;have HBD:=Lib.hid (hB.out.trans (HBB.out.mono hB.out.size));rw [huv2]
      go_wp2
      go_ret
      exact ⟨by rw [HNE.out];rfl,HBD.out⟩
   ·have hks:¬ ((k:Int) < (n:Int)):=by omega
    have HE:Hid (decide (xs.map MP.m=ys.map MP.m)=true):=Lib.hid (decide_eq_true (mems_same xs ys (by rw [HL1.out,HL2.out]) (fun j hj => hd.out j (by rw [HL1.out] at hj;omega))))
    go_wp2
    go_ret
    exact ⟨by rw [HE.out];rfl,hB.out⟩
 ·have hb:(((n:Int)) != (m:Int))=true:=by simp;omega
  have HNE:Hid (decide (xs.map MP.m=ys.map MP.m)=false):=Lib.hid (decide_eq_false (fun e => hnm (by have:=congrArg List.length e;rw [List.length_map,List.length_map,HL1.out,HL2.out] at this;exact this)))
  go_wp2
  go_ret
  exact ⟨by rw [HNE.out];rfl,Below.refl _ _⟩
end Go.Proofs.YtnpkcneojilmkaaGreatDoor.Mem
end
section
namespace Go.Proofs.YtnpkcneojilmkaaGreatDoor.Mem
open Go.ChangeShapes Go.WideShapes Go.ChangeAt Go.RowKit Base Byt Txt Bk Hp Head Num Path Block Rec Go.Lib
set_option linter.unusedVariables false
set_option maxRecDepth 100000
structure OwnI (w wr:World) (xs:List MP) (k:Nat) (o:Value) (ys:List MP):Prop where
 bel:Below w.heap.size w wr
 row:wr.ownsRow w.heap.size 26 8 o ys.length (flatM ys)
 len:ys.length=k
 same:ys.map MP.m=(xs.take k).map MP.m
 bodies:∀ y ∈ ys,BodyAt wr y
 off:∀ y ∈ ys,0 < y.m.body.length → ∀ z,y.p=some z → o.ownBlock≠some z.block
section
variable {w wr w':World} {xs ys:List MP} {k:Nat} {o:Value}
theorem OwnI.below (h:OwnI w wr xs k o ys) (hb:Below wr.heap.size wr w'):OwnI w w' xs k o ys where
 bel:=h.bel.trans (hb.mono h.bel.size)
 row:=row_below h.row hb
 len:=h.len
 same:=h.same
 bodies:=fun y hy => (h.bodies y hy).below hb
 off:=h.off
theorem OwnI.add (h:OwnI w wr xs k o ys) (hk:k < xs.length) {y:MP} (hy:y.m=(xs.getD k zeroP).m) (hb:BodyAt wr y) (ho:0 < y.m.body.length → ∀ z,y.p=some z → o.ownBlock≠some z.block)
 {o':Value} (hrow:w'.ownsRow w.heap.size 26 8 o' (ys++[y]).length (flatM (ys++[y]))) (hg:wr.grownBy w' o.ownBlock) (hn:NewOr wr o o'):OwnI w w' xs (k+1) o' (ys++[y]):=by
 have hK:Kept (fun b => o.ownBlock=some b) wr w':=(Kept.refl _ wr).grown hg (fun k hk => .inr hk)
 have lt:∀ {b:Nat},o'.ownBlock=some b → b < wr.heap.size → o.ownBlock=some b:=fun hb hlt => by
  rcases hn _ hb with h | h
  ·exact h
  ·omega
 have all:∀ x ∈ ys++[y],BodyAt wr x∧(0 < x.m.body.length → ∀ z,x.p=some z → o.ownBlock≠some z.block):=fun x hx => by
  rcases List.mem_append.1 hx with hx | hx
  ·exact ⟨h.bodies x hx,h.off x hx⟩
  ·rw [List.mem_singleton.1 hx]
   exact ⟨hb,ho⟩
 exact
 { bel:=h.bel.trans (hK.below h.bel.size (fun k hk => (World.ownsRow.lt h.row _ hk).1))
   row:=hrow
   len:=by rw [List.length_append,h.len];rfl
   same:=by rw [List.map_append,h.same,takeP_succ xs k hk,← hy];rfl
   bodies:=fun x hx => (all x hx).1.kept hK (fun h0 z hz => (all x hx).2 h0 z hz)
   off:=fun x hx h0 z hz e => (all x hx).2 h0 z hz (lt e (bat_lt (all x hx).1.bat h0 hz)) }
end
def OwnPost (w:World) (n:Nat) (xs:List MP) (e:Ending) (w':World):Prop:=∃ q d ys,e=.returned (.slice q n d)∧ys.map MP.m=xs.map MP.m∧MemsAt w' q n ys∧Below w.heap.size w w'
set_option maxHeartbeats 4000000 in
theorem rown_any (p:Option Addr) (n c:Nat) (xs:List MP) (w:World) (h:MemsAt w p n xs) (hn:n≤1000) (hR:∀ x ∈ xs,x.m.body.length≤140737488351232) :
 Calls Tryz.prog 21 #[.slice p n c] w (OwnPost w n xs):=by
 obtain ⟨i0,hi,hz0,hz1,hz2⟩:=info_parts infoU8;have HI:=Lib.hid hi;have HZ0:=Lib.hid hz0;have HZ1:=Lib.hid hz1;have HZ2:=Lib.hid hz2;have HM:=Lib.hid h;have HL:=Lib.hid h.1;have HR:=Lib.hid hR;clear hi hz0 hz1 hz2 h hR
 go_enter Tryz.func21,Tryz.ntmps21
 go_wp2_with fail
 go_loopw [3,4] (fun o i wr => ∃ (k:Nat) (ys:List MP) (vo:Value),k≤n∧vo=o∧i=.int .i64 (k:Int)∧Hid (OwnI w wr xs k vo ys)) (fun _ i _ => n - (RowKit.intOf i).toNat)
 case atStart => exact ⟨0,[],_,Nat.zero_le _,rfl,rfl,Lib.hid ⟨Below.refl _ _,World.ownsRow_nil _ _ _ _,rfl,rfl,fun x hx => (by cases hx),fun x hx => (by cases hx)⟩⟩
 case round =>
  obtain ⟨k,ys,o,hk,rfl,rfl,hO⟩:=hrel
  by_cases hlt:k < n
  ·have hkl:k < xs.length:=by rw [HL.out];exact hlt
   obtain ⟨b,o',rfl,hb,hB,hc⟩:=(HM.out.below hO.out.bel).cells8 hlt;obtain ⟨v,hv⟩:∃ v,xs.getD k zeroP=v:=⟨_,rfl⟩;rw [hv] at hB hc;have HV:=Lib.hid hv;have HB:=Lib.hid hB;have HKL:=Lib.hid hkl;obtain ⟨c0,c1,c2,c3,c4,c5,c6,c7⟩:=hc;have hltz:(k:Int) < (n:Int):=by omega
   clear hv hB hkl
   go_upto_region 6 with fail
   obtain ⟨w1,hw⟩:∃ w1,wr.alloc (.cells #[.string (str v.m.path),.string (str v.m.target),.int .u8 (v.m.kind.toNat:Int),.int .i64 v.m.mode,.int .i64 v.m.uid,.int .i64 v.m.gid,.int .i64 v.m.time,.slice v.p v.m.body.length v.c] 26)=w1:=⟨_,rfl⟩;have hX:Blk w1 wr.heap.size 26 #[.string (str v.m.path),.string (str v.m.target),.int .u8 (v.m.kind.toNat:Int),.int .i64 v.m.mode,.int .i64 v.m.uid,.int .i64 v.m.gid,.int .i64 v.m.time,.slice v.p v.m.body.length v.c]:=by rw [← hw];exact Blk.new wr _ _
   have hS:Below wr.heap.size wr w1:=by rw [← hw];exact (Below.refl _ _).alloc (Nat.le_refl _) _
   have x7:=(hX.alloc (.cells #[] 5)).cell 7;simp only [List.getElem?_toArray,List.getElem?_cons_zero,List.getElem?_cons_succ] at x7;have HX:=Lib.hid hX;have H1:=Lib.hid hS;have HB1:=Lib.hid (HB.out.below hS);rw [hw];clear hw hX hS c0 c1 c2 c3 c4 c5 c6 c7 hb
   go_wp2_with (at_builtin;refine append_bytes rfl _ _ 24 rfl w1.heap.size 5 i0 Tryz.underlying24 HI.out HZ0.out HZ1.out HZ2.out _ 0 [] rfl (World.ownsRow_made w1 #[] 0 (Nat.le_refl _) (by decide) rfl) v.p v.m.body.length v.c v.m.body rfl (HB1.out.bat.alloc _) rfl ?d2 ?d3 ?_)
   case d2 => have:=HR.out _ (getP_mem xs k HKL.out);rw [HV.out] at this;omega
   case d3 => simp
   intro v2 w2 hown hgrow;have ho2:OwnB w2 w1.heap.size v2 v.m.body.length v.m.body:=by simpa [OwnB] using hown
   have hk2:Kept noneB w1 w2:=(((Kept.refl noneB w1).alloc _)).grown hgrow (by intro k hk;simp [Value.ownBlock] at hk;omega)
   have h12:Below w1.heap.size w1 w2:=hk2.below (Nat.le_refl _) (fun _ h => h.elim)
   obtain ⟨p2,c2,rfl,hle2,hmx2,hb2,_,hat2⟩:=ho2.slice;have hX2:=HX.out.below h12 HX.out.lt;have y7:=hX2.cell 7;have f7:=hX2.frozen 7;simp only [List.getElem?_toArray,List.getElem?_cons_zero,List.getElem?_cons_succ] at y7;have H2:=Lib.hid (H1.out.trans (h12.mono H1.out.size));have HB2:=Lib.hid hb2;have HAT:=Lib.hid hat2;have HX2:=Lib.hid hX2;clear hown hgrow ho2 hk2 h12 hb2 hat2 hX2 x7
   go_upto_region 7 with fail
   obtain ⟨w3,hw⟩:∃ w3,w2.setCell ⟨wr.heap.size,7,none⟩ (.slice p2 v.m.body.length c2)=w3:=⟨_,rfl⟩;have hX:Blk w3 wr.heap.size 26 #[.string (str v.m.path),.string (str v.m.target),.int .u8 (v.m.kind.toNat:Int),.int .i64 v.m.mode,.int .i64 v.m.uid,.int .i64 v.m.gid,.int .i64 v.m.time,.slice p2 v.m.body.length c2]:=by rw [← hw];exact HX2.out.set 7 _ (by decide:7 < 8)
   have hk3:Kept (oneB wr.heap.size) w2 w3:=by rw [← hw];exact (Kept.refl (oneB wr.heap.size) w2).setCell (a:=⟨wr.heap.size,7,none⟩) (.inr rfl) _
   have hb3:BAt w3 p2 v.m.body.length v.m.body:=HB2.out.kept hk3 (fun _ y hy e => by
    have h1:=(HAT.out y hy).1;have h2:y.block=wr.heap.size:=e;have h3:=HX.out.lt
    omega)
   have H3:Hid (Below wr.heap.size wr w3):=Lib.hid (by rw [← hw];exact H2.out.setCell (p:=⟨wr.heap.size,7,none⟩) (Nat.le_refl _) _)
   have z0:=hX.cell 0;have z1:=hX.cell 1;have z2:=hX.cell 2;have z3:=hX.cell 3;have z4:=hX.cell 4;have z5:=hX.cell 5;have z6:=hX.cell 6;have z7:=hX.cell 7;simp only [List.getElem?_toArray,List.getElem?_cons_zero,List.getElem?_cons_succ] at z0 z1 z2 z3 z4 z5 z6 z7;rw [hw];have HO3:=Lib.hid (hO.out.below H3.out);have HBY:Hid (BodyAt w3 ⟨v.m,p2,c2⟩):=Lib.hid ⟨hb3,hle2,hmx2⟩
   have HOFF:Hid (0 < v.m.body.length → ∀ z,p2=some z → o.ownBlock≠some z.block):=Lib.hid (fun _ z hz e => by
    have h1:=(HAT.out z hz).1;have h2:=(World.ownsRow.lt hO.out.row _ e).2;have h3:=H1.out.size
    omega)
   clear hw hX hk3 hb3 y7 f7
   go_wp2_with (at_builtin;refine append_member rfl _ _ rfl w.heap.size o ys rfl (row_below HO3.out.row ((Below.refl _ _).alloc (Nat.le_refl _) _)) w3.heap.size 1 ⟨v.m,p2,c2⟩ rfl (Blk.new w3 _ _) ?e1 ?e2 ?_)
   case e1 => have:=HO3.out.len;omega
   case e2 => have:=HO3.out.bel.size;omega
   intro v4 w4 hrow hg hnw;have h34:Below w3.heap.size w3 (w3.alloc (.cells #[.string (str v.m.path),.string (str v.m.target),.int .u8 (v.m.kind.toNat:Int),.int .i64 v.m.mode,.int .i64 v.m.uid,.int .i64 v.m.gid,.int .i64 v.m.time,.slice p2 v.m.body.length c2] 26)):=(Below.refl _ _).alloc (Nat.le_refl _) _;rw [show ys.length+1=(ys++[(⟨v.m,p2,c2⟩:MP)]).length by simp] at hrow
   have HO4:Hid (OwnI w w4 xs (k+1) v4 (ys++[⟨v.m,p2,c2⟩])):=Lib.hid ((HO3.out.below h34).add (y:=⟨v.m,p2,c2⟩) HKL.out (by rw [HV.out]) (HBY.out.below h34) HOFF.out hrow hg hnw)
   clear hrow hg hnw h34 z0 z1 z2 z3 z4 z5 z6 z7
   go_wp2
   go_roundw
   case rel => exact ⟨k+1,_,_,by omega,rfl,by go_num,HO4⟩
   case measure => simp [RowKit.intOf];omega
  ·obtain rfl:k=n:=by omega
   have hks:¬ ((k:Int) < (k:Int)):=by omega
   have hlen:=hO.out.len;obtain ⟨q,d,rfl,_,_,hm⟩:=mems_own hO.out.row hO.out.bodies;rw [hlen] at hm ⊢;have HMM:=Lib.hid hm;clear hm hlen
   go_wp2
   go_ret
   refine ⟨q,d,ys,rfl,?_,HMM.out,hO.out.bel⟩;rw [hO.out.same,List.take_of_length_le (by rw [HL.out];exact Nat.le_refl _)]
end Go.Proofs.YtnpkcneojilmkaaGreatDoor.Mem
end
section
namespace Go.Proofs.YtnpkcneojilmkaaGreatDoor.Wr
open Go.ChangeShapes Go.WideShapes Go.ChangeAt Go.RowKit Base Byt Txt Mem Go.Lib
theorem read_back {ms:List MemV} (h:∀ m ∈ ms,GoodM m) (hl:ms.length≤4096):membersD (archD ms)=(ms,0,0):=by
 have:=read_arch h hl 0
 rwa [List.replicate_zero,List.append_nil] at this
end Go.Proofs.YtnpkcneojilmkaaGreatDoor.Wr
namespace Go.Proofs.YtnpkcneojilmkaaGreatDoor.Walk
open Go.ChangeShapes Go.WideShapes Go.ChangeAt Go.RowKit Base Byt Txt Bk Rec Mem Wr Block Go.Lib
set_option linter.unusedVariables false
set_option maxRecDepth 100000
end Go.Proofs.YtnpkcneojilmkaaGreatDoor.Walk
end
section
namespace Go.Proofs.YtnpkcneojilmkaaGreatDoor.Wr
open Go.ChangeShapes Go.WideShapes Go.ChangeAt Go.RowKit Base Byt Txt Mem Go.Lib
theorem allG_take {xs:List MP} {k:Nat} (hk:k < xs.length):allG (xs.take (k+1))=(allG (xs.take k) && goodD (xs.getD k zeroP).m):=by
 rw [takeMP_succ xs k hk];simp [allG]
theorem allG_map (xs:List MP):allG xs=(xs.map MP.m).all goodD:=by
 simp only [allG,List.all_map];rfl
end Go.Proofs.YtnpkcneojilmkaaGreatDoor.Wr
namespace Go.Proofs.YtnpkcneojilmkaaGreatDoor.Walk
open Go.ChangeShapes Go.WideShapes Go.ChangeAt Go.RowKit Base Byt Txt Bk Rec Mem Wr Block Go.Lib
set_option linter.unusedVariables false
set_option maxRecDepth 100000
set_option maxHeartbeats 4000000 in
theorem writeBack (a0:Option Addr) (len0 cap0:Nat) (xs0:List MP) (a1:Option Addr) (len1 cap1:Nat) (z1:List Int) (w:World)
 (ma0:MemsAt w a0 len0 xs0) (lc0:len0≤cap0) (cm0:cap0≤maxLen) (by0:cap0 * 96≤140737488351232) (rm0:∀ x ∈ xs0,WfM x.m∧RoomM x)
 (w1:IsRow .i64 w a1 len1 cap1 z1) (b1:cap1 * 8≤140737488351232) (hT:Need w) :
 Calls Tryz.prog 4 #[.slice a0 len0 cap0,.slice a1 len1 cap1] w fun e w' => e=.returned (.bool true)∧Below w.heap.size w w':=by
 obtain ⟨hi1,hi2,hi3,hi4⟩:=iat_of_row w1;obtain ⟨zs,hzs⟩:∃ zs,z1.take len1=zs:=⟨_,rfl⟩;rw [hzs] at hi1 hi2;obtain ⟨n,rfl⟩:∃ n,n=len0:=⟨_,rfl⟩;obtain ⟨m,rfl⟩:∃ m,m=len1:=⟨_,rfl⟩;have hmb:m * 8≤140737488351232:=by omega
 have hL0:=light_any a0 n cap0 xs0 w ma0 (fun x hx => (rm0 x hx).2)
 have HAN:Hid (∀ w1,Below w.heap.size w w1 → Calls Tryz.prog 18 #[] w1 fun e w' => e=.returned (.bool true)∧Below w1.heap.size w1 w'):=Lib.hid (fun w1 h => ans09_any w1 (hT.below h))
 obtain ⟨l0,hl0⟩:∃ l,lightD (xs0.map MP.m)=l:=⟨_,rfl⟩;rw [hl0] at hL0;have HL0:=Lib.hid hL0;have HE0:=Lib.hid hl0;have HM0:=Lib.hid ma0;have HLX:=Lib.hid ma0.1;have HN:=Lib.hid hT;have HBR:Hid (Below w.heap.size w w):=Lib.hid (Below.refl _ _);have HZI:=Lib.hid (And.intro hi1 (And.intro hi2 hmb));clear hL0 hl0 ma0 lc0 cm0 by0 rm0 w1 b1 hT hi1 hi2 hi3 hi4 hzs hmb
 cases l0 with
 | false =>
   go_enter Tryz.func4,Tryz.ntmps4
   go_wp2_with fail
   refine HL0.out.mono ?_
   rintro e w1 ⟨rfl,rfl⟩
   go_wp2_with fail
   refine (HAN.out _ HBR.out).mono ?_
   rintro e w2 ⟨rfl,hb2⟩;have FIN:=Lib.hid hb2;clear hb2
   go_wp2
   go_ret
   exact ⟨rfl,FIN.out⟩
 | true =>
   obtain ⟨hn60,hf0⟩:=light_fit HE0.out;rw [HLX.out] at hn60;have HF0:=Lib.hid hf0;clear hf0
   go_enter Tryz.func4,Tryz.ntmps4
   go_wp2_with fail
   refine HL0.out.mono ?_
   rintro e w1 ⟨rfl,rfl⟩
   go_wp2_with fail
   go_loopw [5,6] (fun s i wr => ∃ (j:Nat),j≤n∧i=.int .i64 (j:Int)∧(∃ B:Bool,s=.bool B∧Hid (allG (xs0.take j)=B))∧Hid (Below w.heap.size w wr)) (fun _ i _ => n - (RowKit.intOf i).toNat)
   case atStart => exact ⟨0,Nat.zero_le _,rfl,⟨true,rfl,Lib.hid rfl⟩,Lib.hid (Below.refl _ _)⟩
   case round =>
    obtain ⟨j,hj,rfl,⟨B,rfl,hBB⟩,hB⟩:=hrel
    by_cases hlt:j < n
    ·have hlx:j < xs0.length:=by rw [HLX.out];exact hlt
     have HT:=Lib.hid (allG_take hlx);have hltz:(j:Int) < (n:Int):=by omega
     cases B with
     | false =>
       have HNB:Hid (allG (xs0.take (j+1))=false):=Lib.hid (by rw [HT.out,hBB.out];rfl)
       clear hlx
       go_wp2
       go_roundw
       case rel => exact ⟨j+1,by omega,by go_num,⟨false,rfl,HNB⟩,hB⟩
       case measure => simp [RowKit.intOf];omega
     | true =>
       have hfit:=HF0.out _ (getP_mem xs0 j hlx);obtain ⟨b,o,rfl,hb,hBd,c0,c1,c2,c3,c4,c5,c6,c7⟩:=(HM0.out.below hB.out).cells hlt;obtain ⟨y,hy⟩:∃ y,xs0.getD j zeroP=y:=⟨_,rfl⟩;rw [hy] at hfit hBd c0 c1 c2 c3 c4 c5 c6 c7 HT;rw [Nat.mul_comm] at c0 c1 c2 c3 c4 c5 c6 c7;have hG:=rgood_any y.m y.p y.c wr (by omega) (by omega)
       obtain ⟨g,hg⟩:∃ g,goodD y.m=g:=⟨_,rfl⟩;rw [hg] at hG;unfold memC at hG;have HG:=Lib.hid hG;have HNB:Hid (allG (xs0.take (j+1))=g):=Lib.hid (by rw [HT.out,hBB.out,hg];rfl)
       clear hlx hb hy hG hg hfit hBd
       go_wp2_with fail
       refine HG.out.mono ?_
       rintro e w2 ⟨rfl,hb2⟩;have HB2:=Lib.hid (hB.out.trans (hb2.mono hB.out.size));clear hb2 c0 c1 c2 c3 c4 c5 c6 c7
       go_wp2
       go_roundw
       case rel => exact ⟨j+1,by omega,by go_num,⟨g,rfl,HNB⟩,HB2⟩
       case measure => simp [RowKit.intOf];omega
    ·have hks:¬ ((j:Int) < (n:Int)):=by omega
     have e:xs0.take j=xs0:=List.take_of_length_le (by rw [HLX.out];omega)
     rw [e] at hBB;clear e
     go_wp2_with fail
     refine (rown_any a0 n cap0 xs0 _ (HM0.out.below hB.out) (by omega) ?hR).mono ?_
     case hR =>
      intro x hx;have:=(lightD_facts HE0.out).2 _ (List.mem_map_of_mem hx);omega
     rintro e w2 ⟨p2,c2,ys,rfl,hym,hm2,hb2⟩;have HB2:=Lib.hid (hB.out.trans (hb2.mono hB.out.size));have HYM:=Lib.hid hym;have HM2:=Lib.hid hm2;have hyl:ys.length=n:=hm2.1;have hag:allG ys=B:=by rw [allG_map,hym,← allG_map];exact hBB.out
     have HAG:=Lib.hid hag;clear hym hm2 hb2 hyl hag
     cases B with
     | false =>
       have HA:=Lib.hid (warch_bad p2 n c2 ys w2 HM2.out (by omega) (fun y hy => by
        have h:y.m ∈ xs0.map MP.m:=by rw [← HYM.out];exact List.mem_map_of_mem hy
        obtain ⟨x,hx,he⟩:=List.mem_map.1 h;rw [← he]
        exact HF0.out x hx) HAG.out (HN.out.below HB2.out))
       go_wp2_with fail
       refine HA.out.mono ?_
       rintro e w3 ⟨rfl,hb3⟩;have HB3:=Lib.hid (HB2.out.trans (hb3.mono HB2.out.size));clear hb3
       go_wp2_with fail
       refine (HAN.out _ HB3.out).mono ?_
       rintro e w4 ⟨rfl,hb4⟩;have FIN:=Lib.hid (HB3.out.trans (hb4.mono HB3.out.size));clear hb4
       go_wp2
       go_ret
       exact ⟨rfl,FIN.out⟩
     | true =>
       have hgd:=allG_iff.1 HAG.out;have hgm:∀ x ∈ xs0,GoodM x.m:=fun x hx => good_facts (allG_iff.1 hBB.out x hx)
       have HGM:=Lib.hid hgm;have HGX:=Lib.hid (allG_iff.1 hBB.out);have hA:=warch_yes p2 n c2 ys w2 HM2.out (by omega) hgd (HN.out.below HB2.out)
       rw [HYM.out] at hA;have HA:=Lib.hid hA;clear hA hgd hgm
       go_wp2_with fail
       refine HA.out.mono ?_
       rintro e w3 ⟨v3,rfl,ho3,hb3⟩;obtain ⟨p3,c3,rfl,_,_,hbt3,_,_⟩:=ho3.slice;obtain ⟨M,hM⟩:∃ M,(putAllM (xs0.map MP.m)).length=M:=⟨_,rfl⟩
       have hML:M≤180000000:=by
        have:=putAllM_len (xs0.map MP.m) (fun y hy => by
         obtain ⟨x,hx,rfl⟩:=List.mem_map.1 hy
         exact HGM.out x hx)
        rw [hM,List.length_map,HLX.out] at this;omega
       have hN:(archD (xs0.map MP.m)).length=M+1024:=by rw [archD_eq,List.length_append,List.length_replicate,hM]
       have hSZ:sizeM (xs0.map MP.m)=M:=by
        rw [sizeM_good (fun y hy => by
         obtain ⟨x,hx,rfl⟩:=List.mem_map.1 hy
         exact HGX.out x hx),hM]
       rw [hN] at hbt3 ⊢;have HB3:=Lib.hid (HB2.out.trans (hb3.mono HB2.out.size));have HT3:=Lib.hid hbt3;have HNN:=Lib.hid hN;have HSZ:=Lib.hid hSZ;have hR2:=memRead_any w3 p3 (M+1024) c3 (archD (xs0.map MP.m)) a1 m cap1 zs hbt3 hN (by omega) (HZI.out.1.kept (Kept.of_below HB3.out noneB) (fun _ _ _ => id)) HZI.out.2.1 HZI.out.2.2 (HN.out.below HB3.out)
       unfold ReadD at hR2
       rw [read_back (fun y hy => by
           obtain ⟨x,hx,rfl⟩:=List.mem_map.1 hy
           exact HGM.out x hx) (by rw [List.length_map,HLX.out];omega)] at hR2
       have HR2:=Lib.hid hR2;clear hb3 ho3 hbt3 hN hR2 hM hSZ
       go_wp2_with fail
       refine HR2.out.mono ?_
       rintro e w4 ⟨p4,c4,us,rfl,_,_,hum,hm4,hb4⟩;have HB4:=Lib.hid (HB3.out.trans (hb4.mono HB3.out.size));have HUM:Hid (us.map MP.m=xs0.map MP.m):=Lib.hid hum;have HM4:=Lib.hid hm4;have HT4:=Lib.hid (HT3.out.below hb4)
       have hul:us.length=n:=by
        have h1:=congrArg List.length hum;rw [List.length_map,List.length_map,HLX.out] at h1;exact h1
       have HUL:=Lib.hid hul;rw [hul];clear hum hm4 hb4 hul
       go_upto_region 12 with fail
       obtain ⟨w5,hw5⟩:∃ w5,w4.alloc (.cells #[.int .i64 0,.int .i64 0] 44)=w5:=⟨_,rfl⟩;have h45:Below w4.heap.size w4 w5:=by rw [← hw5];exact (Below.refl _ _).alloc (Nat.le_refl _) _
       have hF5:Blk w5 w4.heap.size 44 #[.int .i64 0,.int .i64 0]:=by rw [← hw5];exact Blk.new w4 _ _
       have HB5:=Lib.hid (HB4.out.trans (h45.mono HB4.out.size));have HU5:=Lib.hid (HM4.out.below h45);have HT5:=Lib.hid (HT4.out.below h45);rw [hw5];obtain ⟨X,hX⟩:∃ X,str (archD (xs0.map MP.m))=X:=⟨_,rfl⟩
       have hall:∀ w',Below w5.heap.size w5 w' → w'.cell? ⟨w4.heap.size,0,none⟩=some (.int .i64 0)∧Sem.run Tryz.prog (convert 24 9 (.slice p3 (M+1024) c3)) w'=.ok (.string X) w':=fun w' h => by
        refine ⟨(hF5.below h hF5.lt).cell 0,?_⟩;rw [← hX];exact conv_at (HT5.out.below h) HNN.out 24 5 9 Tryz.underlying24 Tryz.underlying5 Tryz.underlying9 c3
       have hsame:∀ w',Below w5.heap.size w5 w' → Calls Tryz.prog 22 #[.slice p4 n c4,.slice a0 n cap0] w' fun e w'' => e=.returned (.bool true)∧Below w'.heap.size w' w'':=fun w' h => by
        have:=rsameAll_any p4 a0 n n c4 cap0 us xs0 w' (by unfold maxLen;omega) (by rw [← HUL.out];exact HU5.out.below h) (HM0.out.below (HB5.out.trans (h.mono HB5.out.size)))
        rw [HUM.out,decide_eq_true rfl] at this;exact this
       have HALL:=Lib.hid hall;have HSAME:=Lib.hid hsame;have HXX:=Lib.hid hX;have HBB:Hid (Below w5.heap.size w5 w5.drew):=Lib.hid (((Kept.refl noneB w5).drew).below (Nat.le_refl _) (fun _ h => h.elim))
       have hw1:IntKind.i64.wrap ((M:Int)+1024)=(M:Int)+1024:=by rw [IntKind.wrap_i64];omega
       clear hw5 h45 hF5 hX hall hsame
       go_wp2_with fail
       first
       | (go_region_held_law (fun w' => w'.cell? ⟨w4.heap.size,0,none⟩=some (.int .i64 0)∧Sem.run Tryz.prog (convert 24 9 (.slice p3 (M+1024) c3)) w'=.ok (.string X) w') (exact HALL.out _ HBB.out) (first
        | (go_at_call 18
           refine (HAN.out _ (HB5.out.trans (HBB.out.mono HB5.out.size))).mono ?_
           rintro e wa ⟨rfl,hba⟩;have HBB:=Lib.hid (HBB.out.trans (hba.mono HBB.out.size))
           clear hba)
        | (go_at_call 14
           refine (rarch_any _ a0 n cap0 xs0 (HM0.out.below (HB5.out.trans (HBB.out.mono HB5.out.size))) HGM.out (by omega)).mono ?_
           rintro e wp ⟨vp,rfl,hop,hkp⟩;rw [HNN.out] at hop;obtain ⟨pp,cp,rfl,_,_,hbp,hlp,_⟩:=hop.slice
           have cs1:Sem.run Tryz.prog (convert 24 9 (.slice pp (M+1024) cp)) wp=.ok (.string X) wp:=by
            rw [← HXX.out];exact conv_at hbp HNN.out 24 5 9 Tryz.underlying24 Tryz.underlying5 Tryz.underlying9 cp
           have HBB:=Lib.hid (HBB.out.trans ((hkp.below (Nat.le_refl _) (fun _ h => h.elim)).mono HBB.out.size))
           clear hop hkp hbp hlp)
        | (go_at_call 22
           refine (HSAME.out _ HBB.out).mono ?_
           rintro e wa ⟨rfl,hba⟩;have HBB:=Lib.hid (HBB.out.trans (hba.mono HBB.out.size))
           clear hba)
        | (go_at_call 23
           refine (wsize_any a0 n cap0 xs0 _ (HM0.out.below (HB5.out.trans (HBB.out.mono HB5.out.size))) (by omega) HF0.out (HN.out.below (HB5.out.trans (HBB.out.mono HB5.out.size)))).mono ?_
           rw [HSZ.out];rintro e wa ⟨rfl,hba⟩;have HBB:=Lib.hid (HBB.out.trans (hba.mono HBB.out.size))
           clear hba)))
       | done
       all_goals
        have FIN:=Lib.hid (HB5.out.trans (HBB.out.mono HB5.out.size))
        go_wp2
        go_ret
        exact ⟨rfl,FIN.out⟩
end Go.Proofs.YtnpkcneojilmkaaGreatDoor.Walk
end
