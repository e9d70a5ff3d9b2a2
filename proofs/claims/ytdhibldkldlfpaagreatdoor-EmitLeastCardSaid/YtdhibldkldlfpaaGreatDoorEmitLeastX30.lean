/- Merged. -/
import Derived.Test.YtdhibldkldlfpaaGreatDoorEmitLeastX29
import Derived.Deep.DeepCutAuto
import Derived.Test.YtdhibldkldlfpaaGreatDoorEmitLeastX27
import Derived.StillTailTactics
namespace Go.Proofs.YtdhibldkldlfpaaGreatDoor
set_option linter.unusedVariables false
set_option maxHeartbeats 4000000
set_option maxRecDepth 100000
open Go.ChangeShapes Go.WideShapes Go.ChangeAt Go.RowKit Base bJ cn Bk Mem Go.Lib
namespace Tre
variable {b:List UInt8} {ys:List aw} {h i j:Nat}
def py (a b:List UInt8):Int:=if dI a b=true then -1 else if dI b a=true then 1 else 0
theorem xp (a b:List UInt8):(py a b<0)↔dI a b=true:=by
 unfold py
 by_cases h1:dI a b=true
 ·simp[h1]
 ·by_cases A:dI b a=true<;>simp[h1,A]
theorem vx (a b:List UInt8):py a b=0↔a=b:=by
 unfold py
 by_cases h1:dI a b=true
 ·simp[h1,nM h1]
 ·by_cases A:dI b a=true
  ·simp only[h1,A,if_true,Bool.false_eq_true,if_false]
   exact⟨fun h=>by omega,fun h=>absurd h.symm (nM A)⟩
  ·simp only[h1,A,Bool.false_eq_true,if_false,true_iff]
   exact EW a b (by simpa using h1) (by simpa using A)
theorem qm (a b:List UInt8) (w:World):
 Calls Tryz.prog 88 #[.string (str a),.string (str b)] w fun e w'=>e=.returned (.int .i64 (py a b))∧w=w':=by
 have h1:=Path.oL a b;have A:=Path.oL b a;change ∀w,Calls Tryz.prog 45 #[.string (str a),.string (str b)] w fun e w'=>e=.returned (.bool (dI a b))∧w=w' at h1
 change ∀w,Calls Tryz.prog 45 #[.string (str b),.string (str a)] w fun e w'=>e=.returned (.bool (dI b a))∧w=w' at A
 unfold py;obtain⟨x,B⟩:∃x,dI a b=x:=⟨_,rfl⟩
 obtain⟨y,hy⟩:∃y,dI b a=y:=⟨_,rfl⟩
 rw[B]at h1⊢;rw[hy]at A⊢;clear B hy
 go_enter Tryz.func88,Tryz.ntmps88
 cases x with
 |true=>
  go_wp2_with fail
  refine(h1 _).mono ?_;rintro e w' ⟨rfl,rfl⟩;go_wp2;go_ret;exact⟨rfl,rfl⟩
 |false=>
  cases y with
  |true=>
   go_wp2_with fail
   refine(h1 _).mono ?_;rintro e w' ⟨rfl,rfl⟩;go_wp2_with fail;refine(A _).mono ?_;rintro e w' ⟨rfl,rfl⟩;go_wp2;go_ret;exact⟨rfl,rfl⟩
  |false=>
   go_wp2_with fail
   refine(h1 _).mono ?_;rintro e w' ⟨rfl,rfl⟩;go_wp2_with fail;refine(A _).mono ?_;rintro e w' ⟨rfl,rfl⟩;go_wp2;go_ret;exact⟨rfl,rfl⟩
theorem tI (x:NP) (b:List UInt8) (w:World):
 Calls Tryz.prog 115 #[.agg x.cs,.string (str b)] w fun e w'=>e=.returned (.int .i64 (py x.m.path b))∧Below w.heap.size w w':=by
 have D:=ao.new w 52 x.cs;have c0:=D.cell 0;have A:Below w.heap.size w (w.alloc (.cells x.cs 52)):=(Below.refl _ _).alloc (Qk _) _;obtain⟨W,B⟩:∃W,w.alloc (.cells x.cs 52)=W:=⟨_,rfl⟩
 unfold NP.cs fT at B c0 D A⊢;rw[B]at c0 A;simp only[Qc,Qa]at c0;have H:=Qh B;have G:=Qh A;have hc:=qm x.m.path b W;obtain⟨r,E⟩:∃r,py x.m.path b=r:=⟨_,rfl⟩
 rw[E]at hc⊢;have HC:=Qh hc;clear B A D hc E
 go_enter Tryz.func115,Tryz.ntmps115
 go_upto_region 1 with fail
 rw[H.out];go_wp2_with fail;refine HC.out.mono ?_;rintro e w' ⟨rfl,rfl⟩;go_wp2;go_ret;exact⟨rfl,G.out⟩
def yM (ys:List aw) (b:List UInt8) (w:World) (e:Ending) (w':World):Prop:=
 ∃(k:Nat) (r:Bool),e=.returned (.tuple #[.int .i64 (k:Int),.bool r])∧k≤ys.length∧(r=true→k<ys.length∧(ys.getD k bT).path=b)∧(eS ys→r=false→∀y∈ys,y.path≠b)∧Below w.heap.size w w'
theorem gG (h:eS ys) (rI:i<j) (hj:j<ys.length):dI (ys.getD i bT).path (ys.getD j bT).path=true:=by
 have hi:i<ys.length:=by omega
 have:=List.pairwise_iff_getElem.1 h i j hi hj rI;rw[List.getD,List.getD,Qd hi,Qd hj];exact this
theorem qq {y:aw} (h:y∈ys):∃i,i<ys.length∧ys.getD i bT=y:=by
 obtain⟨i,hi,he⟩:=List.mem_iff_getElem.1 h;exact⟨i,hi,by rw[List.getD,Qd hi];exact he⟩
def rS (ys:List aw) (b:List UInt8) (i j:Nat):Prop:=
 eS ys→(∀k,k<i→dI (ys.getD k bT).path b=true)∧(∀k,j≤k→k<ys.length→dI (ys.getD k bT).path b=false)
theorem rS.up (hr:rS ys b i j) (hh:dI (ys.getD h bT).path b=true) (hl:h<ys.length):rS ys b (h+1) j:=fun hs=>by
 refine⟨fun k hk=>?_,(hr hs).2⟩;rcases Nat.lt_succ_iff_lt_or_eq.1 hk with hk|rfl
 ·exact gv _ _ _ (gG hs hk hl) hh
 ·exact hh
theorem rS.down (hr:rS ys b i j) (hh:dI (ys.getD h bT).path b=false):rS ys b i h:=fun hs=>by
 refine⟨(hr hs).1,fun k hk hl=>?_⟩;rcases Nat.lt_or_eq_of_le hk with hk|rfl
 ·cases hc:dI (ys.getD k bT).path b with
  |false=>rfl
  |true=>rw[gv _ _ _ (gG hs hk hl) hc]at hh;cases hh
 ·exact hh
theorem rS.none_ (hr:rS ys b i i) (cV:i<ys.length→(ys.getD i bT).path≠b) (hs:eS ys):∀y∈ys,y.path≠b:=fun y hy e=>by
 obtain⟨k,hk,rfl⟩:=qq hy;obtain⟨h1,B⟩:=hr hs;rcases Nat.lt_trichotomy k i with h|h|h
 ·exact nM (h1 k h) e
 ·subst h;exact cV hk e
 ·have A:=gG hs h hk
  rw[e,B i (Qk _) (by omega)]at A
  cases A
theorem LN (p:Option Addr) (n c:Nat) (xs:List NP) (b:List UInt8) (w:World) (h:aY w p n xs) (hn:n≤1000000000):
 Calls Tryz.prog 114 #[.slice p n c,.string (str b),.func (.func 115) #[] #[]] w (yM (xs.map NP.m) b w):=by
 have d:=Qh h;have E:=Qh h.1;clear h
 go_enter Tryz.func114,Tryz.ntmps114
 go_wp2_with fail
 go_loopw [9,10,11] (fun Y Z vh wr=>∃(i j:Nat),i≤j∧j≤n∧Y=.int .i64 (i:Int)∧Z=.int .i64 (j:Int)∧Hid (rS (xs.map NP.m) b i j)∧Hid (Below w.heap.size w wr)) (fun Y Z _ _=>(RowKit.intOf Z).toNat - (RowKit.intOf Y).toNat)
 case atStart=>exact⟨0,n,Nat.zero_le _,Qk _,rfl,rfl,Qh (fun _=>⟨fun k hk=>by omega,fun k h1 u=>by rw[Qi,E.out]at u;omega⟩),Qh (Below.refl _ _)⟩
 case round=>
  obtain⟨i,j,rI,hj,rfl,rfl,R,A⟩:=hrel
  by_cases ax:i<j
  ·have q1:IntKind.i64.wrap ((i:Int)+(j:Int))=(i:Int)+(j:Int):=by rw[IntKind.wrap_i64];omega
   have kK:(i:Int)<(j:Int):=by omega
   obtain⟨h,hh⟩:∃h,(i+j) / 2=h:=⟨_,rfl⟩
   have z:i≤h:=by omega
   have XM:h<j:=by omega
   obtain⟨t,o,rfl,W,M,L⟩:=(d.out.below A.out).dD (show h<n by omega);obtain⟨y,hy⟩:∃y,xs.getD h aG=y:=⟨_,rfl⟩
   rw[hy]at M L;obtain⟨c0,c1,c2,c3,c4,c5,c6,c7,N⟩:=L;have B:=tI y b wr;unfold NP.cs fT at B;obtain⟨r,G⟩:∃r,py y.m.path b=r:=⟨_,rfl⟩
   rw[G]at B;have J:Hid (((xs.map NP.m).getD h bT).path=y.m.path):=Qh (by rw[fI,hy]);have I:=Qh G;have HC:=Qh B;clear B G hy W M;have q2:(((i:Int)+(j:Int)) / 2)=(h:Int):=by omega
   by_cases f:r<0
   ·have U:Hid (rS (xs.map NP.m) b (h+1) j):=Qh (R.out.up (by rw[J.out,←xp,I.out];exact f) (by rw[Qi,E.out];omega))
    go_wp2_with fail
    refine HC.out.mono ?_;rintro e g ⟨rfl,D⟩;have H:=Qh (A.out.trans (D.mono A.out.size));clear D c0 c1 c2 c3 c4 c5 c6 c7 N;go_wp2;go_roundw
    case rel=>exact⟨h+1,j,by omega,hj,by go_num,rfl,U,H⟩
    case measure=>simp[RowKit.intOf];omega
   ·have T:Hid (rS (xs.map NP.m) b i h):=Qh (R.out.down (by
     rw[J.out,Bool.eq_false_iff,ne_eq,←xp,I.out];exact f))
    go_wp2_with fail
    refine HC.out.mono ?_;rintro e g ⟨rfl,D⟩;have H:=Qh (A.out.trans (D.mono A.out.size));clear D c0 c1 c2 c3 c4 c5 c6 c7 N;go_wp2;go_roundw
    case rel=>exact⟨i,h,by omega,by omega,rfl,by go_num,T,H⟩
    case measure=>simp[RowKit.intOf];omega
  ·have ng:¬((i:Int)<(j:Int)):=by omega
   have l:i=j:=by omega
   subst l
   by_cases X:i<n
   ·have q:(i:Int)<(n:Int):=by omega
    obtain⟨t,o,rfl,W,M,L⟩:=(d.out.below A.out).dD X;obtain⟨y,hy⟩:∃y,xs.getD i aG=y:=⟨_,rfl⟩
    rw[hy]at M L;obtain⟨c0,c1,c2,c3,c4,c5,c6,c7,N⟩:=L;have B:=tI y b wr;unfold NP.cs fT at B;obtain⟨r,G⟩:∃r,py y.m.path b=r:=⟨_,rfl⟩
    rw[G]at B;have J:Hid (((xs.map NP.m).getD i bT).path=y.m.path):=Qh (by rw[fI,hy]);have I:=Qh G;have HC:=Qh B;clear B G hy W M;go_wp2_with fail;refine HC.out.mono ?_;rintro e g ⟨rfl,D⟩;have H:=Qh (A.out.trans (D.mono A.out.size));clear D c0 c1 c2 c3 c4 c5 c6 c7 N
    by_cases O:r=0
    ·have P:Hid (i<(xs.map NP.m).length∧((xs.map NP.m).getD i bT).path=b):=Qh ⟨by rw[Qi,E.out];exact X,by rw[J.out];exact(vx _ _).1 (by rw[I.out,O])⟩
     have V:(r==0)=true:=by simpa using O
     go_wp2;go_ret2;exact⟨i,true,rfl,by rw[Qi,E.out];omega,fun _=>P.out,(fun _ h=>by cases h),H.out⟩
    ·have V:(r==0)=false:=by simpa using O
     have P:Hid (eS (xs.map NP.m)→∀y∈xs.map NP.m,y.path≠b):=Qh (R.out.none_ (fun _ e=>O (by rw[←I.out,vx,←J.out];exact e)));go_wp2;go_ret2;exact⟨i,false,rfl,by rw[Qi,E.out];omega,(fun h=>by cases h),fun h _=>P.out h,H.out⟩
   ·have q:¬(i:Int)<(n:Int):=by omega
    have P:Hid (eS (xs.map NP.m)→∀y∈xs.map NP.m,y.path≠b):=Qh (R.out.none_ (fun h=>absurd h (by rw[Qi,E.out];exact X)));go_wp2;go_ret2;exact⟨i,false,rfl,by rw[Qi,E.out];omega,(fun h=>by cases h),fun h _=>P.out h,A.out⟩
theorem pS (p:Option Addr) (n c:Nat) (xs:List NP) (b:List UInt8) (w:World) (h:aY w p n xs) (hn:n≤1000000000):
 Calls Tryz.prog 77 #[.slice p n c,.string (str b)] w (yM (xs.map NP.m) b w):=by
 have E:=Qh (LN p n c xs b w h hn);clear h
 go_enter Tryz.func77,Tryz.ntmps77
 go_wp2_with fail
 refine E.out.mono ?_;rintro e G ⟨k,r,rfl,h1,A,B,D⟩;have P:=Qh (And.intro h1 (And.intro A (And.intro B D)));clear h1 A B D;go_wp2;go_ret2;exact⟨k,r,rfl,P.out⟩
end Tre
namespace Wr
open Hp Head Rec Attr
structure SP (w:World) (M H:Array Value) (rs:ca) (wx:World):Prop where
 bel:Below w.heap.size w wx
 mem:ao wx w.heap.size 48 M
 res:ao wx (w.heap.size+1) 66 (aa bG)
 hd:ao wx (w.heap.size+2) 66 H
 ls:∃v,ao wx (w.heap.size+3) 64 #[v]∧wx.ownsRow (w.heap.size+5) 121 2 v rs.length (dF rs)
 fn:ao wx (w.heap.size+4) 189 #[.func (.func 120) #[] #[.pointer (some ⟨w.heap.size+3,0,none⟩)]]
section
variable {w wx wy:World} {M H:Array Value} {rs:ca}
theorem SP.below (h:SP w M H rs wx) (hb:Below wx.heap.size wx wy):SP w M H rs wy where
 bel:=h.bel.trans (hb.mono h.bel.size)
 mem:=h.mem.below hb h.mem.lt
 res:=h.res.below hb h.res.lt
 hd:=h.hd.below hb h.hd.lt
 ls:=by
  obtain⟨v,h1,A⟩:=h.ls;exact⟨v,h1.below hb h1.lt,cR A hb⟩
 fn:=h.fn.below hb h.fn.lt
theorem SP.kept (h:SP w M H rs wx) (hk:Kept ag wx wy):SP w M H rs wy:=h.below (hk.below (Qk _) (fun _ h=>h.elim))
theorem SP.set (h:SP w M H rs wx) (i:Nat) (v:Value) (hi:i<H.size):SP w M (H.set i v hi) rs (wx.setCell ⟨w.heap.size+2,i,none⟩ v) where
 bel:=h.bel.setCell (p:=⟨w.heap.size+2,i,none⟩) (by show w.heap.size≤w.heap.size+2;omega) v
 mem:=h.mem.other (by omega) v
 res:=h.res.other (by omega) v
 hd:=h.hd.set i v hi
 ls:=by
  obtain⟨u,h1,A⟩:=h.ls;refine⟨u,h1.other (by omega) v,bN A ((Kept.refl (aA (w.heap.size+2)) wx).setCell (a:=⟨w.heap.size+2,i,none⟩) (.inr rfl) v) (fun k hk e=>?_)⟩;have:=(A.lt k hk).1;have:k=w.heap.size+2:=e;omega
 fn:=h.fn.other (by omega) v
theorem SP.grow (h:SP w M H rs wx) {v v':Value} {rs':ca} {o:Obj} (hl:ao wx (w.heap.size+3) 64 #[v]) (hr:wx.ownsRow (w.heap.size+5) 121 2 v rs.length (dF rs))
 (hg:(wx.alloc o).grownBy wy v.ownBlock) (ho:wy.ownsRow (w.heap.size+5) 121 2 v' rs'.length (dF rs')):
 (ao wy (w.heap.size+3) 64 #[v])∧SP w M H rs' (wy.setCell ⟨w.heap.size+3,0,none⟩ v'):=by
 have A:Kept (fun k=>v.ownBlock=some k) wx wy:=((Kept.refl _ wx).alloc o).grown hg (fun k hk=>.inr hk);have off:∀k,v.ownBlock=some k→w.heap.size+5≤k:=fun k hk=>(hr.lt k hk).1
 have D:∀k,v'.ownBlock=some k→w.heap.size+5≤k:=fun k hk=>(ho.lt k hk).1
 have B:=hl.bW A (fun e=>by have:=off _ e;omega);refine⟨B,?_⟩;exact
 {bel:=(h.bel.trans (A.below h.bel.size (fun k hk=>by have:=off k hk;omega))).setCell (p:=⟨w.heap.size+3,0,none⟩) (by show w.heap.size≤w.heap.size+3;omega) v'
  mem:=(h.mem.bW A (fun e=>by have:=off _ e;omega)).other (by omega) v'
  res:=(h.res.bW A (fun e=>by have:=off _ e;omega)).other (by omega) v'
  hd:=(h.hd.bW A (fun e=>by have:=off _ e;omega)).other (by omega) v'
  ls:=⟨v',B.set 0 v' (by show 0<1;omega),bN ho ((Kept.refl (aA (w.heap.size+3)) wy).setCell (a:=⟨w.heap.size+3,0,none⟩) (.inr rfl) v') (fun k hk e=>by
   have:=D k hk;have:k=w.heap.size+3:=e
   omega)⟩
  fn:=(h.fn.bW A (fun e=>by have:=off _ e;omega)).other (by omega) v'}
end
theorem Ik (w:World) (a b:List UInt8):cd (w.alloc (.cells #[.string (str a),.string (str b)] 121)) (some ⟨w.heap.size,0,none⟩) 1 [(a,b)]:=by
 have A:=ao.new w 121 #[.string (str a),.string (str b)];refine⟨rfl,fun _=>⟨w.heap.size,0,rfl,A.lt,fun i hi=>?_⟩⟩;obtain rfl:i=0:=by omega
 exact⟨A.cell 0,A.cell 1⟩
theorem rB (w wx:World) (M H:Array Value) (rs:ca) (k v:List UInt8) (h:SP w M H rs wx) (hn:rs.length≤100):
 Calls Tryz.prog 120 #[.string (str k),.string (str v),.pointer (some ⟨w.heap.size+3,0,none⟩)] wx fun e w'=>e=.returned (.tuple #[])∧SP w M H (rs++[(k,v)]) w':=by
 obtain⟨i0,hi,X,V,W⟩:=info_parts EO;obtain⟨r,hl,E⟩:=h.ls;have A:=E;obtain⟨p,c,rfl,_,_,_⟩:=mj A;have J:=cR E ((Below.refl _ wx).alloc (Qk _) (.cells #[.string (str k),.string (str v)] 121));have o:=h.fn.lt;have c0:=hl.cell 0;simp only[Qc,Qa]at c0;have b:=Qh hi;have g:=Qh X;have f:=Qh V;have l:=Qh W;have d:=Qh h;have L:=Qh hl;have N:=Qh E;have O:=Qh J;obtain⟨n,G⟩:∃n,rs.length=n:=⟨_,rfl⟩
 have B:=Qh G;rw[G]at hn L N O c0;clear hi X V W h hl E J A G
 go_enter Tryz.func120,Tryz.ntmps120
 go_wp2_with (at_builtin;refine yR rfl _ _ 64 rfl (w.heap.size+5) 121 i0 (.agg #[.string ⟨#[]⟩,.string ⟨#[]⟩]) Tryz.underlying64 b.out g.out f.out l.out rfl _ n rs rfl O.out (some ⟨wx.heap.size,0,none⟩) 1 1 [(k,v)] rfl (Ik wx k v) (by omega) (by simp;omega) ?_)
 intro v' w' I U;have D:=d.out.grow (rs':=rs++[(k,v)]) (by rw[B.out]at*;exact L.out) (by rw[B.out]at*;exact N.out) U (by rw[Qf,B.out];exact I);have f0:=D.1.frozen 0;have g0:=D.1.cell 0;simp only[Qc,Qa]at g0;have Z:=Qh D.2;obtain⟨q,m,T,_⟩:=mj (rs:=rs++[(k,v)]) (by rw[Qf,B.out];exact I);obtain⟨Y,R⟩:∃Y,Y=(rs++[(k,v)]).length:=⟨_,rfl⟩
 rw[←R]at T;subst T;clear D I U R;go_wp2
 go_end0
 exact⟨rfl,Z.out⟩
def D2 (w:World) (M H H':Array Value) (rs rs':ca) (e:Ending) (w':World):Prop:=e=.returned (.tuple #[])∧SP w M H' rs' w'
theorem qg (w wx:World) (M H H':Array Value) (rs rs':ca) (i:Nat) (key t:List UInt8) (fits c:Bool) (h:SP w M H rs wx) (hi:i<H.size) (hH:H[i]? =some (.string (str t)))
 (hc:(!fits||!j7 t)=c) (Ti:(if c=true then H.setIfInBounds i (.string (str bq))else H)=H') (iG:(if c=true then rs++[(key,t)]else rs)=rs') (ht:t.length≤100000) (hn:rs.length≤100):
 Calls Tryz.prog 121 #[.string (str key),.pointer (some ⟨w.heap.size+2,i,none⟩),.bool fits,.pointer (some ⟨w.heap.size+4,0,none⟩)] wx (D2 w M H H' rs rs'):=by
 have B:=h.hd.cell i;rw[hH]at B;have J:=Qh h;have HC:=Qh hc;have G:=Qh hH;have L:=Qh Ti;have O:=Qh iG;have I:=Qh hi;clear h hc hH Ti iG hi
 go_enter Tryz.func121,Tryz.ntmps121
 go_upto_region 0 with fail
 go_cut [15] (fun s U=>s=.bool c∧SP w M H rs U)
 case first=>
  cases fits with
  |false=>
   go_wp2;go_meet
   exact⟨by rw[←HC.out];rfl,J.out⟩
  |true=>
   have E:=Ia (str t) wx (by rw[aq];omega);rw[bg]at E;have T:=Qh E;clear E;go_wp2_with fail;refine T.out.mono ?_;rintro e V ⟨rfl,N⟩;have H1:=Qh (J.out.below N);clear N;go_wp2;go_meet;exact⟨by rw[←HC.out];rfl,H1.out⟩
 case rest=>
  obtain⟨rfl,hs⟩:=hcut;have D:=Qh hs;clear hs B
  cases c with
  |false=>
   go_wp2
   go_end0
   refine⟨rfl,?_⟩;rw[←L.out,←O.out,if_neg (by simp),if_neg (by simp)];exact D.out
  |true=>
   have B:=D.out.hd.cell i;rw[G.out]at B;have hF:=D.out.fn.cell 0;simp only[Qc,Qa]at hF;go_upto_region 1 with fail
   go_still_tail 5,(by kernel_rfl)
   go_wp2_with fail
   refine(rB w _ M H rs key t (D.out.kept ((Kept.refl ag wc).drew)) hn).mono ?_;rintro e W ⟨rfl,A⟩;have R:=Qh A;have f2:=A.hd.frozen i;have c2:=A.hd.cell i;rw[G.out]at c2;clear A;go_wp2
   go_end0
   refine⟨rfl,?_⟩;rw[←L.out,←O.out,if_pos trivial,if_pos trivial,Array.setIfInBounds,dif_pos I.out];exact R.out.set i _ I.out
theorem jN (w wx:World) (M H H':Array Value) (rs rs':ca) (i:Nat) (key:List UInt8) (n most:Nat) (h:SP w M H rs wx) (hi:i<H.size) (hH:H[i]? =some (.int .i64 (n:Int)))
 (Ti:(if most<n then H.setIfInBounds i (.int .i64 0)else H)=H') (iG:(if most<n then rs++[(key,aJ n)]else rs)=rs') (ht:n≤9223372036854775807) (hn:rs.length≤100) (hN:Need wx):
 Calls Tryz.prog 123 #[.string (str key),.pointer (some ⟨w.heap.size+2,i,none⟩),.int .i64 (most:Int),.pointer (some ⟨w.heap.size+4,0,none⟩)] wx (D2 w M H H' rs rs'):=by
 have U:=h.hd.cell i;rw[hH]at U;have hF:=h.fn.cell 0;simp only[Qc,Qa]at hF;have O:=Qh h;have L:=Qh hH;have B:=Qh Ti;have D:=Qh iG;have N:=Qh hi;have W:=Qh hN;clear h hH Ti iG hi hN
 by_cases V:most<n
 ·have J:(most:Int)<(n:Int):=by omega
  rw[if_pos V]at B D
  go_enter Tryz.func123,Tryz.ntmps123
  go_upto_region 1 with fail
  go_region_held_law (fun w'=>w'.cell? ⟨w.heap.size+4,0,none⟩=some (.func (.func 120) #[] #[.pointer (some ⟨w.heap.size+3,0,none⟩)])∧w'.cell? ⟨w.heap.size+2,i,none⟩=some (.int .i64 (n:Int))) (first|exact⟨hF,U⟩|exact E|exact I)
   (first
    |(go_at_call 124;refine(zF n _ ht (W.out.below (((Kept.refl ag wx).drew).below (Qk _) (fun _ h=>h.elim)))).mono ?_;rintro e X ⟨rfl,R⟩;have G:=Qh ((O.out.kept ((Kept.refl ag wx).drew)).below R);(have I:=And.intro (G.out.fn.cell 0) (G.out.hd.cell i));rw[L.out]at I;simp only[Qc,Qa]at I;clear R)
    |(go_at_call 120;refine(rB w _ M H rs key (aJ n) G.out hn).mono ?_;rintro e w3 ⟨rfl,T⟩;have A:=Qh T;(have E:=And.intro (A.out.fn.cell 0) (A.out.hd.cell i));rw[L.out]at E;simp only[Qc,Qa]at E;clear T))
  all_goals
   obtain⟨_,c3⟩:=E;have f3:=A.out.hd.frozen i;go_wp2
   go_end0
   refine⟨rfl,?_⟩;rw[←B.out,←D.out,Array.setIfInBounds,dif_pos N.out];exact A.out.set i _ N.out
 ·have J:¬(most:Int)<(n:Int):=by omega
  rw[if_neg V]at B D
  go_enter Tryz.func123,Tryz.ntmps123
  go_wp2
  go_end0
  exact⟨rfl,by rw[←B.out,←D.out];exact O.out⟩
end Wr
namespace Tre
open Rec Block
structure Fy (w wr:World) (xs:List NP) (k:Nat) (o:Value) (ys:List NP):Prop where
 bel:Below w.heap.size w wr
 row:wr.ownsRow w.heap.size 52 9 o ys.length (gP ys)
 len:ys.length=k
 same:ys.map NP.m=(xs.take k).map NP.m
 bodies:∀y∈ys,cT wr y
 off:∀y∈ys,0<y.m.body.length→∀z,y.p=some z→o.ownBlock≠some z.block
section
variable {w wr w':World} {xs ys:List NP} {k:Nat} {o:Value}
theorem Fy.below (h:Fy w wr xs k o ys) (hb:Below wr.heap.size wr w'):Fy w w' xs k o ys where
 bel:=h.bel.trans (hb.mono h.bel.size)
 row:=cR h.row hb
 len:=h.len
 same:=h.same
 bodies:=fun y hy=>(h.bodies y hy).below hb
 off:=h.off
theorem Fy.add (h:Fy w wr xs k o ys) (hk:k<xs.length) {y:NP} (hy:y.m=(xs.getD k aG).m) (hb:cT wr y) (ho:0<y.m.body.length→∀z,y.p=some z→o.ownBlock≠some z.block)
 {o':Value} (cN:w'.ownsRow w.heap.size 52 9 o' (ys++[y]).length (gP (ys++[y]))) (hg:wr.grownBy w' o.ownBlock) (hn:eW wr o o'):Fy w w' xs (k+1) o' (ys++[y]):=by
 have D:Kept (fun b=>o.ownBlock=some b) wr w':=(Kept.refl _ wr).grown hg (fun k hk=>.inr hk)
 have lt:∀{b:Nat},o'.ownBlock=some b→b<wr.heap.size→o.ownBlock=some b:=fun hb E=>by
  rcases hn _ hb with h|h
  ·exact h
  ·omega
 have all:∀x∈ys++[y],cT wr x∧(0<x.m.body.length→∀z,x.p=some z→o.ownBlock≠some z.block):=fun x hx=>by
  rcases List.mem_append.1 hx with hx|hx
  ·exact⟨h.bodies x hx,h.off x hx⟩
  ·rw[List.mem_singleton.1 hx]
   exact⟨hb,ho⟩
 exact
 {bel:=h.bel.trans (D.below h.bel.size (fun k hk=>(World.ownsRow.lt h.row _ hk).1))
  row:=cN
  len:=by rw[Qf,h.len];rfl
  same:=by rw[List.map_append,h.same,DR xs k hk,←hy];rfl
  bodies:=fun x hx=>(all x hx).1.kept D (fun A z B=>(all x hx).2 A z B)
  off:=fun x hx A z B e=>(all x hx).2 A z B (lt e (ku (all x hx).1.gZ A B))}
end
end Tre
end Go.Proofs.YtdhibldkldlfpaaGreatDoor
