/- Texts of this seat, merged: what the proof reaches. -/
import Derived.Test.YtfhelebejclalaaDoorLinksMembersX16
import Derived.Test.YtfhelebejclalaaDoorLinksMembersX10
import Derived.Deep.DeepCutAuto
import Derived.BigRegion
import Derived.Test.YtfhelebejclalaaDoorLinksMembersX6
import Derived.Deep.RegionHeldLaw
namespace Go.Proofs.YtfhelebejclalaaDoor
namespace Base
end Base
namespace Bk
end Bk
namespace Block
end Block
namespace Byt
end Byt
namespace Mem
end Mem
namespace Rec
end Rec
namespace Tre
end Tre
namespace Txt
end Txt
end Go.Proofs.YtfhelebejclalaaDoor
section
namespace Go.Proofs.YtfhelebejclalaaDoor.Tre
open Go.ChangeShapes Go.WideShapes Go.ChangeAt Go.RowKit Base Byt Txt Bk Mem Go.Lib
set_option linter.unusedVariables false
set_option maxRecDepth 100000
theorem rising_get {ys:List NodeV} (h:Rising ys) {i j:Nat} (hij:i < j) (hj:j < ys.length):ltB (ys.getD i zeroN).path (ys.getD j zeroN).path=true:=by
 have hi:i < ys.length:=by omega
 have:=List.pairwise_iff_getElem.1 h i j hi hj hij;rw [List.getD,List.getD,List.getElem?_eq_getElem hi,List.getElem?_eq_getElem hj];exact this
theorem getN_of_mem {ys:List NodeV} {y:NodeV} (h:y ∈ ys):∃ i,i < ys.length∧ys.getD i zeroN=y:=by
 obtain ⟨i,hi,he⟩:=List.mem_iff_getElem.1 h;exact ⟨i,hi,by rw [List.getD,List.getElem?_eq_getElem hi];exact he⟩
def BRel (ys:List NodeV) (b:List UInt8) (i j:Nat):Prop:=
 Rising ys → (∀ k,k < i → ltB (ys.getD k zeroN).path b=true)∧(∀ k,j≤k → k < ys.length → ltB (ys.getD k zeroN).path b=false)
theorem BRel.none_ {ys:List NodeV} {b:List UInt8} {i:Nat} (hr:BRel ys b i i) (hne:i < ys.length → (ys.getD i zeroN).path≠b) (hs:Rising ys):∀ y ∈ ys,y.path≠b:=fun y hy e => by
 obtain ⟨k,hk,rfl⟩:=getN_of_mem hy;obtain ⟨h1,h2⟩:=hr hs;rcases Nat.lt_trichotomy k i with h | h | h
 ·exact ltB_ne (h1 k h) e
 ·subst h;exact hne hk e
 ·have a1:=rising_get hs h hk
  rw [e,h2 i (Nat.le_refl _) (by omega)] at a1
  cases a1
end Go.Proofs.YtfhelebejclalaaDoor.Tre
end
section
namespace Go.Proofs.YtfhelebejclalaaDoor.Lnk
open Go.ChangeShapes Go.WideShapes Go.ChangeAt Go.RowKit Base Byt Txt Bk Rec Block Mem Tre Go.Lib
set_option linter.unusedVariables false
set_option maxRecDepth 100000
def MixPost (w:World) (n:Nat) (ps:List (List UInt8)) (e:Ending) (w':World):Prop:=
 ∃ q d os,e=.returned (.slice q n d)∧os.Perm ps∧n≤d∧d≤maxLen∧StrsAt w' q n os∧Below w.heap.size w w'
set_option maxHeartbeats 4000000 in
theorem mixed_any (p:Option Addr) (n c:Nat) (xs:List NP) (a1:Option Addr) (len1 cap1:Nat) (ts:List UInt8) (w:World) (h:NodesAt w p n xs) (hn:n≤60) (hb:BAt w a1 len1 ts) (h1b:len1≤140737488351232) :
 Calls Tryd.prog 11 #[.slice p n c,.slice a1 len1 cap1] w (MixPost w n (pathsN xs)):=by
 have HP:=Lib.hid (rpaths_any p n c xs w h (by omega))
 have HL:=Lib.hid h.1;have HBT:=Lib.hid hb;clear h hb;unfold OwnStrs at HP
 go_enter Tryd.func11,Tryd.ntmps11
 go_wp2_with fail
 refine HP.out.mono ?_
 rintro e w1 ⟨q,d,ss,rfl,hss,hlen,hd1,hd2,hstr,hrow,hb1⟩;have HO:Hid (MixI w w1 (pathsN xs) q n ss):=Lib.hid ⟨hb1,hrow,by rw [hss],by rw [← hss];exact hlen⟩
 have HD:=Lib.hid (And.intro hd1 hd2);clear hss hlen hd1 hd2 hstr hrow hb1 HP
 go_wp2_with fail
 go_loopw [6,7] (fun i _ wr => ∃ (a:Nat) (zs:List (List UInt8)),a≤n∧i=.int .i64 (a:Int)∧Hid (MixI w wr (pathsN xs) q n zs)) (fun i _ _ => n - (RowKit.intOf i).toNat)
 case atStart => exact ⟨0,ss,Nat.zero_le _,rfl,HO⟩
 case round =>
  clear HO;obtain ⟨a,zs,ha,rfl,hO⟩:=hrel
  by_cases hal:a < n∧a < len1
  ·obtain ⟨hal,hal1⟩:=hal
   have halz:(a:Int) < (n:Int):=by omega
   have halz1:(a:Int) < (len1:Int):=by omega
   obtain ⟨bt,ot,rfl,hct⟩:=(HBT.out.below hO.out.bel) (by omega)
   have hc:=hct a hal1;obtain ⟨g,hq,hwg,hrs⟩:=hO.out.row (by omega)
   subst hq;obtain ⟨T,hTv⟩:∃ T:Nat,(ts.getD a 0).toNat=T:=⟨_,rfl⟩;have hT256:T < 256:=by rw [← hTv];exact (ts.getD a 0).toNat_lt
   rw [hTv] at hc;have q1:IntKind.i64.wrap (T:Int)=(T:Int):=by rw [IntKind.wrap_i64];omega
   have q2:IntKind.i64.wrap ((n:Int) - (a:Int))=(n:Int) - (a:Int):=by rw [IntKind.wrap_i64];omega
   have q3:¬ ((n:Int) - (a:Int)=0):=by omega
   obtain ⟨K,q4,hK,haK⟩:∃ K:Nat,IntKind.i64.wrap ((a:Int)+(T:Int) % ((n:Int) - (a:Int)))=(K:Int)∧K < n∧a≤K:=by
    have h1:=Int.emod_nonneg (T:Int) q3;have h2:=Int.emod_lt_of_pos (T:Int) (show (0:Int) < (n:Int) - (a:Int) by omega)
    refine ⟨a+((T:Int) % ((n:Int) - (a:Int))).toNat,?_,by omega,by omega⟩
    rw [IntKind.wrap_i64]
    all_goals omega
   have hKz:(K:Int) < (n:Int):=by omega
   have hzl:=hO.out.slen;have hcu:=hrs.at (show a < zs.length by omega)
   have hcv:=hrs.at (show K < zs.length by omega)
   have HSW:Hid (MixI w ((wr.setCell ⟨g,a,none⟩ (.string (str (zs.getD K [])))).setCell ⟨g,K,none⟩ (.string (str (zs.getD a [])))) (pathsN xs) (some ⟨g,0,none⟩) n ((zs.set a (zs.getD K [])).set K (zs.getD a []))):=Lib.hid (hO.out.swap rfl hwg hrs hal hK);obtain ⟨u,hu⟩:∃ u,zs.getD a []=u:=⟨_,rfl⟩;obtain ⟨v,hv⟩:∃ v,zs.getD K []=v:=⟨_,rfl⟩;rw [hu] at hcu HSW;rw [hv] at hcv HSW;have HE:Hid (a=K → v=u):=Lib.hid (fun h => by rw [← hu,← hv,h])
   obtain ⟨c0,f0⟩:=hcu;obtain ⟨d0,g0⟩:=hcv;clear hct hTv hu hv hzl hrs
   by_cases hKa:a=K
   ·subst hKa
    have hvu:=HE.out rfl;subst hvu;clear d0 g0
    go_upto_region 6 with fail
    clear q1 q2 q3 q4 hc
    go_region
    go_wp2
    go_roundw
    case rel => exact ⟨a+1,_,by omega,by go_num,Lib.hid HSW.out.drew⟩
    case measure => simp [RowKit.intOf];omega
   ·have haK2:a < K:=by omega
    go_upto_region 6 with fail
    clear q1 q2 q3 q4 hc
    go_region
    go_wp2
    go_roundw
    case rel => exact ⟨a+1,_,by omega,by go_num,Lib.hid HSW.out.drew⟩
    case measure => simp [RowKit.intOf];omega
  ·have FIN:Hid (zs.Perm (pathsN xs)∧n≤d∧d≤maxLen∧StrsAt wr q n zs∧Below w.heap.size w wr):=Lib.hid ⟨hO.out.perm,HD.out.1,HD.out.2,hO.out.strs,hO.out.bel⟩
   have hcond:¬ ((a:Int) < (n:Int)) ∨ ((a:Int) < (n:Int))∧¬ ((a:Int) < (len1:Int)):=by omega
   rcases hcond with hcn | ⟨hcn,hcn1⟩
   all_goals
    go_wp2
    go_ret
    exact ⟨q,d,zs,rfl,FIN.out⟩
end Go.Proofs.YtfhelebejclalaaDoor.Lnk
end
section
namespace Go.Proofs.YtfhelebejclalaaDoor.Tre
open Go.ChangeShapes Go.WideShapes Go.ChangeAt Go.RowKit Base Byt Txt Bk Rec Block Mem Go.Lib
set_option linter.unusedVariables false
set_option maxRecDepth 100000
structure OwnJ (w wr:World) (xs:List NP) (k:Nat) (o:Value) (ys:List NP):Prop where
 bel:Below w.heap.size w wr
 row:wr.ownsRow w.heap.size 45 9 o ys.length (flatN ys)
 len:ys.length=k
 same:ys.map NP.m=(xs.take k).map NP.m
 bodies:∀ y ∈ ys,BodAt wr y
 off:∀ y ∈ ys,0 < y.m.body.length → ∀ z,y.p=some z → o.ownBlock≠some z.block
section
variable {w wr w':World} {xs ys:List NP} {k:Nat} {o:Value}
theorem OwnJ.below (h:OwnJ w wr xs k o ys) (hb:Below wr.heap.size wr w'):OwnJ w w' xs k o ys where
 bel:=h.bel.trans (hb.mono h.bel.size)
 row:=row_below h.row hb
 len:=h.len
 same:=h.same
 bodies:=fun y hy => (h.bodies y hy).below hb
 off:=h.off
theorem OwnJ.add (h:OwnJ w wr xs k o ys) (hk:k < xs.length) {y:NP} (hy:y.m=(xs.getD k zeroQ).m) (hb:BodAt wr y) (ho:0 < y.m.body.length → ∀ z,y.p=some z → o.ownBlock≠some z.block)
 {o':Value} (hrow:w'.ownsRow w.heap.size 45 9 o' (ys++[y]).length (flatN (ys++[y]))) (hg:wr.grownBy w' o.ownBlock) (hn:NewOr wr o o'):OwnJ w w' xs (k+1) o' (ys++[y]):=by
 have hK:Kept (fun b => o.ownBlock=some b) wr w':=(Kept.refl _ wr).grown hg (fun k hk => .inr hk)
 have lt:∀ {b:Nat},o'.ownBlock=some b → b < wr.heap.size → o.ownBlock=some b:=fun hb hlt => by
  rcases hn _ hb with h | h
  ·exact h
  ·omega
 have all:∀ x ∈ ys++[y],BodAt wr x∧(0 < x.m.body.length → ∀ z,x.p=some z → o.ownBlock≠some z.block):=fun x hx => by
  rcases List.mem_append.1 hx with hx | hx
  ·exact ⟨h.bodies x hx,h.off x hx⟩
  ·rw [List.mem_singleton.1 hx]
   exact ⟨hb,ho⟩
 exact
 { bel:=h.bel.trans (hK.below h.bel.size (fun k hk => (World.ownsRow.lt h.row _ hk).1))
   row:=hrow
   len:=by rw [List.length_append,h.len];rfl
   same:=by rw [List.map_append,h.same,takeN_succ xs k hk,← hy];rfl
   bodies:=fun x hx => (all x hx).1.kept hK (fun h0 z hz => (all x hx).2 h0 z hz)
   off:=fun x hx h0 z hz e => (all x hx).2 h0 z hz (lt e (bat_lt (all x hx).1.bat h0 hz)) }
end
def OwnTPost (w:World) (n:Nat) (xs:List NP) (e:Ending) (w':World):Prop:=∃ q d ys,e=.returned (.slice q n d)∧ys.map NP.m=xs.map NP.m∧NodesAt w' q n ys∧Below w.heap.size w w'∧n≤d∧d≤maxLen
set_option maxHeartbeats 4000000 in
theorem rownT_any (p:Option Addr) (n c:Nat) (xs:List NP) (w:World) (h:NodesAt w p n xs) (hn:n≤1000) (hR:∀ x ∈ xs,x.m.body.length≤140737488351232) :
 Calls Tryd.prog 13 #[.slice p n c] w (OwnTPost w n xs):=by
 obtain ⟨i0,hi,hz0,hz1,hz2⟩:=info_parts infoU8;have HI:=Lib.hid hi;have HZ0:=Lib.hid hz0;have HZ1:=Lib.hid hz1;have HZ2:=Lib.hid hz2;have HM:=Lib.hid h;have HL:=Lib.hid h.1;have HR:=Lib.hid hR;clear hi hz0 hz1 hz2 h hR
 go_enter Tryd.func13,Tryd.ntmps13
 go_wp2_with fail
 go_loopw [3,4] (fun o i wr => ∃ (k:Nat) (ys:List NP) (vo:Value),k≤n∧vo=o∧i=.int .i64 (k:Int)∧Hid (OwnJ w wr xs k vo ys)) (fun _ i _ => n - (RowKit.intOf i).toNat)
 case atStart => exact ⟨0,[],_,Nat.zero_le _,rfl,rfl,Lib.hid ⟨Below.refl _ _,World.ownsRow_nil _ _ _ _,rfl,rfl,fun x hx => (by cases hx),fun x hx => (by cases hx)⟩⟩
 case round =>
  obtain ⟨k,ys,o,hk,rfl,rfl,hO⟩:=hrel
  by_cases hlt:k < n
  ·have hkl:k < xs.length:=by rw [HL.out];exact hlt
   obtain ⟨b,o',rfl,hb,hB,hc⟩:=(HM.out.below hO.out.bel).cells9 hlt;obtain ⟨v,hv⟩:∃ v,xs.getD k zeroQ=v:=⟨_,rfl⟩;rw [hv] at hB hc;have HV:=Lib.hid hv;have HB:=Lib.hid hB;have HKL:=Lib.hid hkl;obtain ⟨c0,c1,c2,c3,c4,c5,c6,c7,c8⟩:=hc;have hltz:(k:Int) < (n:Int):=by omega
   clear hv hB hkl
   go_upto_region 6 with fail
   obtain ⟨w1,hw⟩:∃ w1,wr.alloc (.cells #[.string (str v.m.path),.string (str v.m.target),.string (str v.m.leader),.int .u8 (v.m.kind.toNat:Int),.int .i64 v.m.mode,.int .i64 v.m.uid,.int .i64 v.m.gid,.int .i64 v.m.time,.slice v.p v.m.body.length v.c] 45)=w1:=⟨_,rfl⟩;have hX:Blk w1 wr.heap.size 45 #[.string (str v.m.path),.string (str v.m.target),.string (str v.m.leader),.int .u8 (v.m.kind.toNat:Int),.int .i64 v.m.mode,.int .i64 v.m.uid,.int .i64 v.m.gid,.int .i64 v.m.time,.slice v.p v.m.body.length v.c]:=by rw [← hw];exact Blk.new wr _ _
   have hS:Below wr.heap.size wr w1:=by rw [← hw];exact (Below.refl _ _).alloc (Nat.le_refl _) _
   have x7:=(hX.alloc (.cells #[] 5)).cell 8;simp only [List.getElem?_toArray,List.getElem?_cons_zero,List.getElem?_cons_succ] at x7;have HX:=Lib.hid hX;have H1:=Lib.hid hS;have HB1:=Lib.hid (HB.out.below hS);rw [hw];clear hw hX hS c0 c1 c2 c3 c4 c5 c6 c7 c8 hb
   go_wp2_with (at_builtin;refine append_bytes rfl _ _ 23 rfl w1.heap.size 5 i0 Tryd.underlying23 HI.out HZ0.out HZ1.out HZ2.out _ 0 [] rfl (World.ownsRow_made w1 #[] 0 (Nat.le_refl _) (by decide) rfl) v.p v.m.body.length v.c v.m.body rfl (HB1.out.bat.alloc _) rfl ?d2 ?d3 ?_)
   case d2 => have:=HR.out _ (getN_mem xs k HKL.out);rw [HV.out] at this;omega
   case d3 => simp
   intro v2 w2 hown hgrow;have ho2:OwnB w2 w1.heap.size v2 v.m.body.length v.m.body:=by simpa [OwnB] using hown
   have hk2:Kept noneB w1 w2:=(((Kept.refl noneB w1).alloc _)).grown hgrow (by intro k hk;simp [Value.ownBlock] at hk;omega)
   have h12:Below w1.heap.size w1 w2:=hk2.below (Nat.le_refl _) (fun _ h => h.elim)
   obtain ⟨p2,c2,rfl,hle2,hmx2,hb2,_,hat2⟩:=ho2.slice;have hX2:=HX.out.below h12 HX.out.lt;have y7:=hX2.cell 8;have f7:=hX2.frozen 8;simp only [List.getElem?_toArray,List.getElem?_cons_zero,List.getElem?_cons_succ] at y7;have H2:=Lib.hid (H1.out.trans (h12.mono H1.out.size));have HB2:=Lib.hid hb2;have HAT:=Lib.hid hat2;have HX2:=Lib.hid hX2;clear hown hgrow ho2 hk2 h12 hb2 hat2 hX2 x7
   go_upto_region 7 with fail
   obtain ⟨w3,hw⟩:∃ w3,w2.setCell ⟨wr.heap.size,8,none⟩ (.slice p2 v.m.body.length c2)=w3:=⟨_,rfl⟩;have hX:Blk w3 wr.heap.size 45 #[.string (str v.m.path),.string (str v.m.target),.string (str v.m.leader),.int .u8 (v.m.kind.toNat:Int),.int .i64 v.m.mode,.int .i64 v.m.uid,.int .i64 v.m.gid,.int .i64 v.m.time,.slice p2 v.m.body.length c2]:=by rw [← hw];exact HX2.out.set 8 _ (by decide:8 < 9)
   have hk3:Kept (oneB wr.heap.size) w2 w3:=by rw [← hw];exact (Kept.refl (oneB wr.heap.size) w2).setCell (a:=⟨wr.heap.size,8,none⟩) (.inr rfl) _
   have hb3:BAt w3 p2 v.m.body.length v.m.body:=HB2.out.kept hk3 (fun _ y hy e => by
    have h1:=(HAT.out y hy).1;have h2:y.block=wr.heap.size:=e;have h3:=HX.out.lt
    omega)
   have H3:Hid (Below wr.heap.size wr w3):=Lib.hid (by rw [← hw];exact H2.out.setCell (p:=⟨wr.heap.size,8,none⟩) (Nat.le_refl _) _)
   have z0:=hX.cell 0;have z1:=hX.cell 1;have z2:=hX.cell 2;have z3:=hX.cell 3;have z4:=hX.cell 4;have z5:=hX.cell 5;have z6:=hX.cell 6;have z7:=hX.cell 7;have z8:=hX.cell 8;simp only [List.getElem?_toArray,List.getElem?_cons_zero,List.getElem?_cons_succ] at z0 z1 z2 z3 z4 z5 z6 z7 z8;rw [hw];have HO3:=Lib.hid (hO.out.below H3.out);have HBY:Hid (BodAt w3 ⟨v.m,p2,c2⟩):=Lib.hid ⟨hb3,hle2,hmx2⟩
   have HOFF:Hid (0 < v.m.body.length → ∀ z,p2=some z → o.ownBlock≠some z.block):=Lib.hid (fun _ z hz e => by
    have h1:=(HAT.out z hz).1;have h2:=(World.ownsRow.lt hO.out.row _ e).2;have h3:=H1.out.size
    omega)
   clear hw hX hk3 hb3 y7 f7
   go_wp2_with (at_builtin;refine append_node rfl _ _ rfl w.heap.size o ys rfl (row_below HO3.out.row ((Below.refl _ _).alloc (Nat.le_refl _) _)) w3.heap.size 1 ⟨v.m,p2,c2⟩ rfl (Blk.new w3 _ _) ?e1 ?e2 ?_)
   case e1 => have:=HO3.out.len;omega
   case e2 => have:=HO3.out.bel.size;omega
   intro v4 w4 hrow hg hnw;have h34:Below w3.heap.size w3 (w3.alloc (.cells #[.string (str v.m.path),.string (str v.m.target),.string (str v.m.leader),.int .u8 (v.m.kind.toNat:Int),.int .i64 v.m.mode,.int .i64 v.m.uid,.int .i64 v.m.gid,.int .i64 v.m.time,.slice p2 v.m.body.length c2] 45)):=(Below.refl _ _).alloc (Nat.le_refl _) _;rw [show ys.length+1=(ys++[(⟨v.m,p2,c2⟩:NP)]).length by simp] at hrow
   have HO4:Hid (OwnJ w w4 xs (k+1) v4 (ys++[⟨v.m,p2,c2⟩])):=Lib.hid ((HO3.out.below h34).add (y:=⟨v.m,p2,c2⟩) HKL.out (by rw [HV.out]) (HBY.out.below h34) HOFF.out hrow hg hnw)
   clear hrow hg hnw h34 z0 z1 z2 z3 z4 z5 z6 z7 z8
   go_wp2
   go_roundw
   case rel => exact ⟨k+1,_,_,by omega,rfl,by go_num,HO4⟩
   case measure => simp [RowKit.intOf];omega
  ·obtain rfl:k=n:=by omega
   have hks:¬ ((k:Int) < (k:Int)):=by omega
   have hlen:=hO.out.len;obtain ⟨q,d,rfl,hd1,hd2,hm⟩:=nodes_own hO.out.row hO.out.bodies;rw [hlen] at hm hd1 ⊢;have HMM:=Lib.hid hm;have HD:=Lib.hid (And.intro hd1 hd2);clear hm hlen hd1 hd2
   go_wp2
   go_ret
   refine ⟨q,d,ys,rfl,?_,HMM.out,hO.out.bel,HD.out⟩;rw [hO.out.same,List.take_of_length_le (by rw [HL.out];exact Nat.le_refl _)]
end Go.Proofs.YtfhelebejclalaaDoor.Tre
end
