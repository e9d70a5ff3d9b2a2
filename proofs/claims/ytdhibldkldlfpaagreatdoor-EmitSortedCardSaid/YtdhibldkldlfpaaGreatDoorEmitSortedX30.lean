/- Merged. -/
import Derived.Test.YtdhibldkldlfpaaGreatDoorEmitSortedX29
import Derived.Deep.DeepCutAuto
import Derived.Test.YtdhibldkldlfpaaGreatDoorEmitSortedX27
import Derived.StillTailTactics
namespace Go.Proofs.YtdhibldkldlfpaaGreatDoor
set_option linter.unusedVariables false
set_option maxHeartbeats 4000000
set_option maxRecDepth 100000
open Go.ChangeShapes Go.WideShapes Go.ChangeAt Go.RowKit Base bM cr Bk Mem Go.Lib
namespace Tre
variable {b:List UInt8} {ys:List ay} {h i j:Nat}
def pG (a b:List UInt8):Int:=if dx a b=true then -1 else if dx b a=true then 1 else 0
theorem xI (a b:List UInt8):(pG a b<0)↔dx a b=true:=by
 unfold pG
 by_cases h1:dx a b=true
 ·simp[h1]
 ·by_cases A:dx b a=true<;>simp[h1,A]
theorem vM (a b:List UInt8):pG a b=0↔a=b:=by
 unfold pG
 by_cases h1:dx a b=true
 ·simp[h1,nQ h1]
 ·by_cases A:dx b a=true
  ·simp only[h1,A,if_true,Bool.false_eq_true,if_false]
   exact⟨fun h=>by omega,fun h=>absurd h.symm (nQ A)⟩
  ·simp only[h1,A,Bool.false_eq_true,if_false,true_iff]
   exact Ff a b (by simpa using h1) (by simpa using A)
theorem qw (a b:List UInt8) (w:World):
 Calls Tryz.prog 88 #[.string (str a),.string (str b)] w fun e w'=>e=.returned (.int .i64 (pG a b))∧w=w':=by
 have h1:=Path.oP a b;have A:=Path.oP b a;change ∀w,Calls Tryz.prog 45 #[.string (str a),.string (str b)] w fun e w'=>e=.returned (.bool (dx a b))∧w=w' at h1
 change ∀w,Calls Tryz.prog 45 #[.string (str b),.string (str a)] w fun e w'=>e=.returned (.bool (dx b a))∧w=w' at A
 unfold pG;obtain⟨x,B⟩:∃x,dx a b=x:=⟨_,rfl⟩
 obtain⟨y,hy⟩:∃y,dx b a=y:=⟨_,rfl⟩
 rw[B]at h1⊢;rw[hy]at A⊢;clear B hy
 go_enter Tryz.func88,Tryz.ntmps88
 cases x with
 |true=>
  go_wp2_with fail
  refine(h1 _).mono ?_;rintro e w' ⟨rfl,rfl⟩;go_wp2;go_ret;exact⟨rfl,rfl⟩
 |false=>
  cases y with
  |true=>
   go_wp2_with fail
   refine(h1 _).mono ?_;rintro e w' ⟨rfl,rfl⟩;go_wp2_with fail;refine(A _).mono ?_;rintro e w' ⟨rfl,rfl⟩;go_wp2;go_ret;exact⟨rfl,rfl⟩
  |false=>
   go_wp2_with fail
   refine(h1 _).mono ?_;rintro e w' ⟨rfl,rfl⟩;go_wp2_with fail;refine(A _).mono ?_;rintro e w' ⟨rfl,rfl⟩;go_wp2;go_ret;exact⟨rfl,rfl⟩
theorem tP (x:NP) (b:List UInt8) (w:World):
 Calls Tryz.prog 115 #[.agg x.cs,.string (str b)] w fun e w'=>e=.returned (.int .i64 (pG x.m.path b))∧Below w.heap.size w w':=by
 have D:=ao.new w 52 x.cs;have c0:=D.cell 0;have A:Below w.heap.size w (w.alloc (.cells x.cs 52)):=(Below.refl _ _).alloc (Qk _) _;obtain⟨W,B⟩:∃W,w.alloc (.cells x.cs 52)=W:=⟨_,rfl⟩
 unfold NP.cs fX at B c0 D A⊢;rw[B]at c0 A;simp only[Qc,Qa]at c0;have H:=Qh B;have G:=Qh A;have hc:=qw x.m.path b W;obtain⟨r,E⟩:∃r,pG x.m.path b=r:=⟨_,rfl⟩
 rw[E]at hc⊢;have HC:=Qh hc;clear B A D hc E
 go_enter Tryz.func115,Tryz.ntmps115
 go_upto_region 1 with fail
 rw[H.out];go_wp2_with fail;refine HC.out.mono ?_;rintro e w' ⟨rfl,rfl⟩;go_wp2;go_ret;exact⟨rfl,G.out⟩
def zg (ys:List ay) (b:List UInt8) (w:World) (e:Ending) (w':World):Prop:=
 ∃(k:Nat) (r:Bool),e=.returned (.tuple #[.int .i64 (k:Int),.bool r])∧k≤ys.length∧(r=true→k<ys.length∧(ys.getD k bU).path=b)∧(eZ ys→r=false→∀y∈ys,y.path≠b)∧Below w.heap.size w w'
theorem gH (h:eZ ys) (qD:i<j) (hj:j<ys.length):dx (ys.getD i bU).path (ys.getD j bU).path=true:=by
 have hi:i<ys.length:=by omega
 have:=List.pairwise_iff_getElem.1 h i j hi hj qD;rw[List.getD,List.getD,Qd hi,Qd hj];exact this
theorem qA {y:ay} (h:y∈ys):∃i,i<ys.length∧ys.getD i bU=y:=by
 obtain⟨i,hi,he⟩:=List.mem_iff_getElem.1 h;exact⟨i,hi,by rw[List.getD,Qd hi];exact he⟩
def rX (ys:List ay) (b:List UInt8) (i j:Nat):Prop:=
 eZ ys→(∀k,k<i→dx (ys.getD k bU).path b=true)∧(∀k,j≤k→k<ys.length→dx (ys.getD k bU).path b=false)
theorem rX.up (hr:rX ys b i j) (hh:dx (ys.getD h bU).path b=true) (hl:h<ys.length):rX ys b (h+1) j:=fun hs=>by
 refine⟨fun k hk=>?_,(hr hs).2⟩;rcases Nat.lt_succ_iff_lt_or_eq.1 hk with hk|rfl
 ·exact gy _ _ _ (gH hs hk hl) hh
 ·exact hh
theorem rX.down (hr:rX ys b i j) (hh:dx (ys.getD h bU).path b=false):rX ys b i h:=fun hs=>by
 refine⟨(hr hs).1,fun k hk hl=>?_⟩;rcases Nat.lt_or_eq_of_le hk with hk|rfl
 ·cases hc:dx (ys.getD k bU).path b with
  |false=>rfl
  |true=>rw[gy _ _ _ (gH hs hk hl) hc]at hh;cases hh
 ·exact hh
theorem rX.none_ (hr:rX ys b i i) (cX:i<ys.length→(ys.getD i bU).path≠b) (hs:eZ ys):∀y∈ys,y.path≠b:=fun y hy e=>by
 obtain⟨k,hk,rfl⟩:=qA hy;obtain⟨h1,B⟩:=hr hs;rcases Nat.lt_trichotomy k i with h|h|h
 ·exact nQ (h1 k h) e
 ·subst h;exact cX hk e
 ·have A:=gH hs h hk
  rw[e,B i (Qk _) (by omega)]at A
  cases A
theorem Ma (p:Option Addr) (n c:Nat) (xs:List NP) (b:List UInt8) (w:World) (h:aY w p n xs) (hn:n≤1000000000):
 Calls Tryz.prog 114 #[.slice p n c,.string (str b),.func (.func 115) #[] #[]] w (zg (xs.map NP.m) b w):=by
 have d:=Qh h;have E:=Qh h.1;clear h
 go_enter Tryz.func114,Tryz.ntmps114
 go_wp2_with fail
 go_loopw [9,10,11] (fun Y Z vh wr=>∃(i j:Nat),i≤j∧j≤n∧Y=.int .i64 (i:Int)∧Z=.int .i64 (j:Int)∧Hid (rX (xs.map NP.m) b i j)∧Hid (Below w.heap.size w wr)) (fun Y Z _ _=>(RowKit.intOf Z).toNat - (RowKit.intOf Y).toNat)
 case atStart=>exact⟨0,n,Nat.zero_le _,Qk _,rfl,rfl,Qh (fun _=>⟨fun k hk=>by omega,fun k h1 u=>by rw[Qi,E.out]at u;omega⟩),Qh (Below.refl _ _)⟩
 case round=>
  obtain⟨i,j,qD,hj,rfl,rfl,R,A⟩:=hrel
  by_cases ax:i<j
  ·have q1:IntKind.i64.wrap ((i:Int)+(j:Int))=(i:Int)+(j:Int):=by rw[IntKind.wrap_i64];omega
   have kh:(i:Int)<(j:Int):=by omega
   obtain⟨h,hh⟩:∃h,(i+j) / 2=h:=⟨_,rfl⟩
   have z:i≤h:=by omega
   have Yc:h<j:=by omega
   obtain⟨t,o,rfl,W,M,L⟩:=(d.out.below A.out).dV (show h<n by omega);obtain⟨y,hy⟩:∃y,xs.getD h aH=y:=⟨_,rfl⟩
   rw[hy]at M L;obtain⟨c0,c1,c2,c3,c4,c5,c6,c7,N⟩:=L;have B:=tP y b wr;unfold NP.cs fX at B;obtain⟨r,G⟩:∃r,pG y.m.path b=r:=⟨_,rfl⟩
   rw[G]at B;have J:Hid (((xs.map NP.m).getD h bU).path=y.m.path):=Qh (by rw[fL,hy]);have I:=Qh G;have HC:=Qh B;clear B G hy W M;have q2:(((i:Int)+(j:Int)) / 2)=(h:Int):=by omega
   by_cases f:r<0
   ·have U:Hid (rX (xs.map NP.m) b (h+1) j):=Qh (R.out.up (by rw[J.out,←xI,I.out];exact f) (by rw[Qi,E.out];omega))
    go_wp2_with fail
    refine HC.out.mono ?_;rintro e g ⟨rfl,D⟩;have H:=Qh (A.out.trans (D.mono A.out.size));clear D c0 c1 c2 c3 c4 c5 c6 c7 N;go_wp2;go_roundw
    case rel=>exact⟨h+1,j,by omega,hj,by go_num,rfl,U,H⟩
    case measure=>simp[RowKit.intOf];omega
   ·have T:Hid (rX (xs.map NP.m) b i h):=Qh (R.out.down (by
     rw[J.out,Bool.eq_false_iff,ne_eq,←xI,I.out];exact f))
    go_wp2_with fail
    refine HC.out.mono ?_;rintro e g ⟨rfl,D⟩;have H:=Qh (A.out.trans (D.mono A.out.size));clear D c0 c1 c2 c3 c4 c5 c6 c7 N;go_wp2;go_roundw
    case rel=>exact⟨i,h,by omega,by omega,rfl,by go_num,T,H⟩
    case measure=>simp[RowKit.intOf];omega
  ·have nj:¬((i:Int)<(j:Int)):=by omega
   have l:i=j:=by omega
   subst l
   by_cases X:i<n
   ·have q:(i:Int)<(n:Int):=by omega
    obtain⟨t,o,rfl,W,M,L⟩:=(d.out.below A.out).dV X;obtain⟨y,hy⟩:∃y,xs.getD i aH=y:=⟨_,rfl⟩
    rw[hy]at M L;obtain⟨c0,c1,c2,c3,c4,c5,c6,c7,N⟩:=L;have B:=tP y b wr;unfold NP.cs fX at B;obtain⟨r,G⟩:∃r,pG y.m.path b=r:=⟨_,rfl⟩
    rw[G]at B;have J:Hid (((xs.map NP.m).getD i bU).path=y.m.path):=Qh (by rw[fL,hy]);have I:=Qh G;have HC:=Qh B;clear B G hy W M;go_wp2_with fail;refine HC.out.mono ?_;rintro e g ⟨rfl,D⟩;have H:=Qh (A.out.trans (D.mono A.out.size));clear D c0 c1 c2 c3 c4 c5 c6 c7 N
    by_cases O:r=0
    ·have P:Hid (i<(xs.map NP.m).length∧((xs.map NP.m).getD i bU).path=b):=Qh ⟨by rw[Qi,E.out];exact X,by rw[J.out];exact(vM _ _).1 (by rw[I.out,O])⟩
     have V:(r==0)=true:=by simpa using O
     go_wp2;go_ret2;exact⟨i,true,rfl,by rw[Qi,E.out];omega,fun _=>P.out,(fun _ h=>by cases h),H.out⟩
    ·have V:(r==0)=false:=by simpa using O
     have P:Hid (eZ (xs.map NP.m)→∀y∈xs.map NP.m,y.path≠b):=Qh (R.out.none_ (fun _ e=>O (by rw[←I.out,vM,←J.out];exact e)));go_wp2;go_ret2;exact⟨i,false,rfl,by rw[Qi,E.out];omega,(fun h=>by cases h),fun h _=>P.out h,H.out⟩
   ·have q:¬(i:Int)<(n:Int):=by omega
    have P:Hid (eZ (xs.map NP.m)→∀y∈xs.map NP.m,y.path≠b):=Qh (R.out.none_ (fun h=>absurd h (by rw[Qi,E.out];exact X)));go_wp2;go_ret2;exact⟨i,false,rfl,by rw[Qi,E.out];omega,(fun h=>by cases h),fun h _=>P.out h,A.out⟩
theorem p7 (p:Option Addr) (n c:Nat) (xs:List NP) (b:List UInt8) (w:World) (h:aY w p n xs) (hn:n≤1000000000):
 Calls Tryz.prog 77 #[.slice p n c,.string (str b)] w (zg (xs.map NP.m) b w):=by
 have E:=Qh (Ma p n c xs b w h hn);clear h
 go_enter Tryz.func77,Tryz.ntmps77
 go_wp2_with fail
 refine E.out.mono ?_;rintro e G ⟨k,r,rfl,h1,A,B,D⟩;have P:=Qh (And.intro h1 (And.intro A (And.intro B D)));clear h1 A B D;go_wp2;go_ret2;exact⟨k,r,rfl,P.out⟩
end Tre
namespace Wr
open Hp Head Rec Attr
structure SP (w:World) (M H:Array Value) (rs:ca) (wx:World):Prop where
 bel:Below w.heap.size w wx
 mem:ao wx w.heap.size 48 M
 res:ao wx (w.heap.size+1) 66 (aa bI)
 hd:ao wx (w.heap.size+2) 66 H
 ls:∃v,ao wx (w.heap.size+3) 64 #[v]∧wx.ownsRow (w.heap.size+5) 121 2 v rs.length (dE rs)
 fn:ao wx (w.heap.size+4) 189 #[.func (.func 120) #[] #[.pointer (some ⟨w.heap.size+3,0,none⟩)]]
section
variable {w wx wy:World} {M H:Array Value} {rs:ca}
theorem SP.below (h:SP w M H rs wx) (hb:Below wx.heap.size wx wy):SP w M H rs wy where
 bel:=h.bel.trans (hb.mono h.bel.size)
 mem:=h.mem.below hb h.mem.lt
 res:=h.res.below hb h.res.lt
 hd:=h.hd.below hb h.hd.lt
 ls:=by
  obtain⟨v,h1,A⟩:=h.ls;exact⟨v,h1.below hb h1.lt,cT A hb⟩
 fn:=h.fn.below hb h.fn.lt
theorem SP.kept (h:SP w M H rs wx) (hk:Kept ag wx wy):SP w M H rs wy:=h.below (hk.below (Qk _) (fun _ h=>h.elim))
theorem SP.set (h:SP w M H rs wx) (i:Nat) (v:Value) (hi:i<H.size):SP w M (H.set i v hi) rs (wx.setCell ⟨w.heap.size+2,i,none⟩ v) where
 bel:=h.bel.setCell (p:=⟨w.heap.size+2,i,none⟩) (by show w.heap.size≤w.heap.size+2;omega) v
 mem:=h.mem.other (by omega) v
 res:=h.res.other (by omega) v
 hd:=h.hd.set i v hi
 ls:=by
  obtain⟨u,h1,A⟩:=h.ls;refine⟨u,h1.other (by omega) v,bQ A ((Kept.refl (aA (w.heap.size+2)) wx).setCell (a:=⟨w.heap.size+2,i,none⟩) (.inr rfl) v) (fun k hk e=>?_)⟩;have:=(A.lt k hk).1;have:k=w.heap.size+2:=e;omega
 fn:=h.fn.other (by omega) v
theorem SP.grow (h:SP w M H rs wx) {v v':Value} {rs':ca} {o:Obj} (hl:ao wx (w.heap.size+3) 64 #[v]) (hr:wx.ownsRow (w.heap.size+5) 121 2 v rs.length (dE rs))
 (hg:(wx.alloc o).grownBy wy v.ownBlock) (ho:wy.ownsRow (w.heap.size+5) 121 2 v' rs'.length (dE rs')):
 (ao wy (w.heap.size+3) 64 #[v])∧SP w M H rs' (wy.setCell ⟨w.heap.size+3,0,none⟩ v'):=by
 have A:Kept (fun k=>v.ownBlock=some k) wx wy:=((Kept.refl _ wx).alloc o).grown hg (fun k hk=>.inr hk);have off:∀k,v.ownBlock=some k→w.heap.size+5≤k:=fun k hk=>(hr.lt k hk).1
 have D:∀k,v'.ownBlock=some k→w.heap.size+5≤k:=fun k hk=>(ho.lt k hk).1
 have B:=hl.bZ A (fun e=>by have:=off _ e;omega);refine⟨B,?_⟩;exact
 {bel:=(h.bel.trans (A.below h.bel.size (fun k hk=>by have:=off k hk;omega))).setCell (p:=⟨w.heap.size+3,0,none⟩) (by show w.heap.size≤w.heap.size+3;omega) v'
  mem:=(h.mem.bZ A (fun e=>by have:=off _ e;omega)).other (by omega) v'
  res:=(h.res.bZ A (fun e=>by have:=off _ e;omega)).other (by omega) v'
  hd:=(h.hd.bZ A (fun e=>by have:=off _ e;omega)).other (by omega) v'
  ls:=⟨v',B.set 0 v' (by show 0<1;omega),bQ ho ((Kept.refl (aA (w.heap.size+3)) wy).setCell (a:=⟨w.heap.size+3,0,none⟩) (.inr rfl) v') (fun k hk e=>by
   have:=D k hk;have:k=w.heap.size+3:=e
   omega)⟩
  fn:=(h.fn.bZ A (fun e=>by have:=off _ e;omega)).other (by omega) v'}
end
theorem IC (w:World) (a b:List UInt8):cf (w.alloc (.cells #[.string (str a),.string (str b)] 121)) (some ⟨w.heap.size,0,none⟩) 1 [(a,b)]:=by
 have A:=ao.new w 121 #[.string (str a),.string (str b)];refine⟨rfl,fun _=>⟨w.heap.size,0,rfl,A.lt,fun i hi=>?_⟩⟩;obtain rfl:i=0:=by omega
 exact⟨A.cell 0,A.cell 1⟩
theorem rI (w wx:World) (M H:Array Value) (rs:ca) (k v:List UInt8) (h:SP w M H rs wx) (hn:rs.length≤100):
 Calls Tryz.prog 120 #[.string (str k),.string (str v),.pointer (some ⟨w.heap.size+3,0,none⟩)] wx fun e w'=>e=.returned (.tuple #[])∧SP w M H (rs++[(k,v)]) w':=by
 obtain⟨i0,hi,V,W,X⟩:=info_parts E9;obtain⟨r,hl,E⟩:=h.ls;have A:=E;obtain⟨p,c,rfl,_,_,_⟩:=ml A;have O:=cT E ((Below.refl _ wx).alloc (Qk _) (.cells #[.string (str k),.string (str v)] 121));have o:=h.fn.lt;have c0:=hl.cell 0;simp only[Qc,Qa]at c0;have b:=Qh hi;have g:=Qh V;have f:=Qh W;have l:=Qh X;have d:=Qh h;have L:=Qh hl;have N:=Qh E;have J:=Qh O;obtain⟨n,G⟩:∃n,rs.length=n:=⟨_,rfl⟩
 have B:=Qh G;rw[G]at hn L N J c0;clear hi V W X h hl E O A G
 go_enter Tryz.func120,Tryz.ntmps120
 go_wp2_with (at_builtin;refine zl rfl _ _ 64 rfl (w.heap.size+5) 121 i0 (.agg #[.string ⟨#[]⟩,.string ⟨#[]⟩]) Tryz.underlying64 b.out g.out f.out l.out rfl _ n rs rfl J.out (some ⟨wx.heap.size,0,none⟩) 1 1 [(k,v)] rfl (IC wx k v) (by omega) (by simp;omega) ?_)
 intro v' w' I U;have D:=d.out.grow (rs':=rs++[(k,v)]) (by rw[B.out]at*;exact L.out) (by rw[B.out]at*;exact N.out) U (by rw[Qf,B.out];exact I);have f0:=D.1.frozen 0;have g0:=D.1.cell 0;simp only[Qc,Qa]at g0;have Z:=Qh D.2;obtain⟨q,m,R,_⟩:=ml (rs:=rs++[(k,v)]) (by rw[Qf,B.out];exact I);obtain⟨Y,T⟩:∃Y,Y=(rs++[(k,v)]).length:=⟨_,rfl⟩
 rw[←T]at R;subst R;clear D I U T;go_wp2
 go_end0
 exact⟨rfl,Z.out⟩
def Ee (w:World) (M H H':Array Value) (rs rs':ca) (e:Ending) (w':World):Prop:=e=.returned (.tuple #[])∧SP w M H' rs' w'
theorem qo (w wx:World) (M H H':Array Value) (rs rs':ca) (i:Nat) (key t:List UInt8) (fits c:Bool) (h:SP w M H rs wx) (hi:i<H.size) (hH:H[i]? =some (.string (str t)))
 (hc:(!fits||!ke t)=c) (TG:(if c=true then H.setIfInBounds i (.string (str bp))else H)=H') (iI:(if c=true then rs++[(key,t)]else rs)=rs') (ht:t.length≤100000) (hn:rs.length≤100):
 Calls Tryz.prog 121 #[.string (str key),.pointer (some ⟨w.heap.size+2,i,none⟩),.bool fits,.pointer (some ⟨w.heap.size+4,0,none⟩)] wx (Ee w M H H' rs rs'):=by
 have B:=h.hd.cell i;rw[hH]at B;have J:=Qh h;have HC:=Qh hc;have G:=Qh hH;have L:=Qh TG;have O:=Qh iI;have I:=Qh hi;clear h hc hH TG iI hi
 go_enter Tryz.func121,Tryz.ntmps121
 go_upto_region 0 with fail
 go_cut [15] (fun s U=>s=.bool c∧SP w M H rs U)
 case first=>
  cases fits with
  |false=>
   go_wp2;go_meet
   exact⟨by rw[←HC.out];rfl,J.out⟩
  |true=>
   have E:=Iu (str t) wx (by rw[au];omega);rw[bg]at E;have T:=Qh E;clear E;go_wp2_with fail;refine T.out.mono ?_;rintro e V ⟨rfl,N⟩;have H1:=Qh (J.out.below N);clear N;go_wp2;go_meet;exact⟨by rw[←HC.out];rfl,H1.out⟩
 case rest=>
  obtain⟨rfl,hs⟩:=hcut;have D:=Qh hs;clear hs B
  cases c with
  |false=>
   go_wp2
   go_end0
   refine⟨rfl,?_⟩;rw[←L.out,←O.out,if_neg (by simp),if_neg (by simp)];exact D.out
  |true=>
   have B:=D.out.hd.cell i;rw[G.out]at B;have hF:=D.out.fn.cell 0;simp only[Qc,Qa]at hF;go_upto_region 1 with fail
   go_still_tail 5,(by kernel_rfl)
   go_wp2_with fail
   refine(rI w _ M H rs key t (D.out.kept ((Kept.refl ag wc).drew)) hn).mono ?_;rintro e W ⟨rfl,A⟩;have R:=Qh A;have f2:=A.hd.frozen i;have c2:=A.hd.cell i;rw[G.out]at c2;clear A;go_wp2
   go_end0
   refine⟨rfl,?_⟩;rw[←L.out,←O.out,if_pos trivial,if_pos trivial,Array.setIfInBounds,dif_pos I.out];exact R.out.set i _ I.out
theorem jU (w wx:World) (M H H':Array Value) (rs rs':ca) (i:Nat) (key:List UInt8) (n most:Nat) (h:SP w M H rs wx) (hi:i<H.size) (hH:H[i]? =some (.int .i64 (n:Int)))
 (TG:(if most<n then H.setIfInBounds i (.int .i64 0)else H)=H') (iI:(if most<n then rs++[(key,aJ n)]else rs)=rs') (ht:n≤9223372036854775807) (hn:rs.length≤100) (hN:Need wx):
 Calls Tryz.prog 123 #[.string (str key),.pointer (some ⟨w.heap.size+2,i,none⟩),.int .i64 (most:Int),.pointer (some ⟨w.heap.size+4,0,none⟩)] wx (Ee w M H H' rs rs'):=by
 have U:=h.hd.cell i;rw[hH]at U;have hF:=h.fn.cell 0;simp only[Qc,Qa]at hF;have O:=Qh h;have L:=Qh hH;have B:=Qh TG;have D:=Qh iI;have N:=Qh hi;have W:=Qh hN;clear h hH TG iI hi hN
 by_cases V:most<n
 ·have J:(most:Int)<(n:Int):=by omega
  rw[if_pos V]at B D
  go_enter Tryz.func123,Tryz.ntmps123
  go_upto_region 1 with fail
  go_region_held_law (fun w'=>w'.cell? ⟨w.heap.size+4,0,none⟩=some (.func (.func 120) #[] #[.pointer (some ⟨w.heap.size+3,0,none⟩)])∧w'.cell? ⟨w.heap.size+2,i,none⟩=some (.int .i64 (n:Int))) (first|exact⟨hF,U⟩|exact E|exact I)
   (first
    |(go_at_call 124;refine(Ac n _ ht (W.out.below (((Kept.refl ag wx).drew).below (Qk _) (fun _ h=>h.elim)))).mono ?_;rintro e X ⟨rfl,R⟩;have G:=Qh ((O.out.kept ((Kept.refl ag wx).drew)).below R);(have I:=And.intro (G.out.fn.cell 0) (G.out.hd.cell i));rw[L.out]at I;simp only[Qc,Qa]at I;clear R)
    |(go_at_call 120;refine(rI w _ M H rs key (aJ n) G.out hn).mono ?_;rintro e w3 ⟨rfl,T⟩;have A:=Qh T;(have E:=And.intro (A.out.fn.cell 0) (A.out.hd.cell i));rw[L.out]at E;simp only[Qc,Qa]at E;clear T))
  all_goals
   obtain⟨_,c3⟩:=E;have f3:=A.out.hd.frozen i;go_wp2
   go_end0
   refine⟨rfl,?_⟩;rw[←B.out,←D.out,Array.setIfInBounds,dif_pos N.out];exact A.out.set i _ N.out
 ·have J:¬(most:Int)<(n:Int):=by omega
  rw[if_neg V]at B D
  go_enter Tryz.func123,Tryz.ntmps123
  go_wp2
  go_end0
  exact⟨rfl,by rw[←B.out,←D.out];exact O.out⟩
end Wr
namespace Tre
open Rec Block
structure FM (w wr:World) (xs:List NP) (k:Nat) (o:Value) (ys:List NP):Prop where
 bel:Below w.heap.size w wr
 row:wr.ownsRow w.heap.size 52 9 o ys.length (gQ ys)
 len:ys.length=k
 same:ys.map NP.m=(xs.take k).map NP.m
 bodies:∀y∈ys,cU wr y
 off:∀y∈ys,0<y.m.body.length→∀z,y.p=some z→o.ownBlock≠some z.block
section
variable {w wr w':World} {xs ys:List NP} {k:Nat} {o:Value}
theorem FM.below (h:FM w wr xs k o ys) (hb:Below wr.heap.size wr w'):FM w w' xs k o ys where
 bel:=h.bel.trans (hb.mono h.bel.size)
 row:=cT h.row hb
 len:=h.len
 same:=h.same
 bodies:=fun y hy=>(h.bodies y hy).below hb
 off:=h.off
theorem FM.add (h:FM w wr xs k o ys) (hk:k<xs.length) {y:NP} (hy:y.m=(xs.getD k aH).m) (hb:cU wr y) (ho:0<y.m.body.length→∀z,y.p=some z→o.ownBlock≠some z.block)
 {o':Value} (cJ:w'.ownsRow w.heap.size 52 9 o' (ys++[y]).length (gQ (ys++[y]))) (hg:wr.grownBy w' o.ownBlock) (hn:ff wr o o'):FM w w' xs (k+1) o' (ys++[y]):=by
 have D:Kept (fun b=>o.ownBlock=some b) wr w':=(Kept.refl _ wr).grown hg (fun k hk=>.inr hk)
 have lt:∀{b:Nat},o'.ownBlock=some b→b<wr.heap.size→o.ownBlock=some b:=fun hb E=>by
  rcases hn _ hb with h|h
  ·exact h
  ·omega
 have all:∀x∈ys++[y],cU wr x∧(0<x.m.body.length→∀z,x.p=some z→o.ownBlock≠some z.block):=fun x hx=>by
  rcases List.mem_append.1 hx with hx|hx
  ·exact⟨h.bodies x hx,h.off x hx⟩
  ·rw[List.mem_singleton.1 hx]
   exact⟨hb,ho⟩
 exact
 {bel:=h.bel.trans (D.below h.bel.size (fun k hk=>(World.ownsRow.lt h.row _ hk).1))
  row:=cJ
  len:=by rw[Qf,h.len];rfl
  same:=by rw[List.map_append,h.same,D4 xs k hk,←hy];rfl
  bodies:=fun x hx=>(all x hx).1.kept D (fun A z B=>(all x hx).2 A z B)
  off:=fun x hx A z B e=>(all x hx).2 A z B (lt e (kF (all x hx).1.ib A B))}
end
end Tre
end Go.Proofs.YtdhibldkldlfpaaGreatDoor
