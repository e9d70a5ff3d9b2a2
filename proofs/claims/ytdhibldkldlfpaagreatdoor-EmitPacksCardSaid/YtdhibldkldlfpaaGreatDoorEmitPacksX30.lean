/- Merged. -/
import Derived.Test.YtdhibldkldlfpaaGreatDoorEmitPacksX29
import Derived.Deep.DeepCutAuto
import Derived.Test.YtdhibldkldlfpaaGreatDoorEmitPacksX27
import Derived.StillTailTactics
namespace Go.Proofs.YtdhibldkldlfpaaGreatDoor
set_option linter.unusedVariables false
set_option maxHeartbeats 4000000
set_option maxRecDepth 100000
open Go.ChangeShapes Go.WideShapes Go.ChangeAt Go.RowKit Base cf cN Bk Mem Go.Lib
namespace Tre
variable {b:List UInt8} {ys:List aC} {h i j:Nat}
def rC (a b:List UInt8):Int:=if eH a b=true then -1 else if eH b a=true then 1 else 0
theorem zO (a b:List UInt8):(rC a b<0)↔eH a b=true:=by
 unfold rC
 by_cases h1:eH a b=true
 ·simp[h1]
 ·by_cases A:eH b a=true<;>simp[h1,A]
theorem yr (a b:List UInt8):rC a b=0↔a=b:=by
 unfold rC
 by_cases h1:eH a b=true
 ·simp[h1,vX h1]
 ·by_cases A:eH b a=true
  ·simp only[h1,A,if_true,Bool.false_eq_true,if_false]
   exact⟨fun h=>by omega,fun h=>absurd h.symm (vX A)⟩
  ·simp only[h1,A,Bool.false_eq_true,if_false,true_iff]
   exact IL a b (by simpa using h1) (by simpa using A)
theorem sJ (a b:List UInt8) (w:World):
 Calls Tryz.prog 88 #[.string (str a),.string (str b)] w fun e w'=>e=.returned (.int .i64 (rC a b))∧w=w':=by
 have h1:=Path.qB a b;have A:=Path.qB b a;change ∀w,Calls Tryz.prog 45 #[.string (str a),.string (str b)] w fun e w'=>e=.returned (.bool (eH a b))∧w=w' at h1
 change ∀w,Calls Tryz.prog 45 #[.string (str b),.string (str a)] w fun e w'=>e=.returned (.bool (eH b a))∧w=w' at A
 unfold rC;obtain⟨x,B⟩:∃x,eH a b=x:=⟨_,rfl⟩
 obtain⟨y,hy⟩:∃y,eH b a=y:=⟨_,rfl⟩
 rw[B]at h1⊢;rw[hy]at A⊢;clear B hy
 go_enter Tryz.func88,Tryz.ntmps88
 cases x with
 |true=>
  go_wp2_with fail
  refine(h1 _).mono ?_;rintro e w' ⟨rfl,rfl⟩;go_wp2;go_ret;exact⟨rfl,rfl⟩
 |false=>
  cases y with
  |true=>
   go_wp2_with fail
   refine(h1 _).mono ?_;rintro e w' ⟨rfl,rfl⟩;go_wp2_with fail;refine(A _).mono ?_;rintro e w' ⟨rfl,rfl⟩;go_wp2;go_ret;exact⟨rfl,rfl⟩
  |false=>
   go_wp2_with fail
   refine(h1 _).mono ?_;rintro e w' ⟨rfl,rfl⟩;go_wp2_with fail;refine(A _).mono ?_;rintro e w' ⟨rfl,rfl⟩;go_wp2;go_ret;exact⟨rfl,rfl⟩
theorem wK (x:NP) (b:List UInt8) (w:World):
 Calls Tryz.prog 115 #[.agg x.cs,.string (str b)] w fun e w'=>e=.returned (.int .i64 (rC x.m.path b))∧Below w.heap.size w w':=by
 have D:=au.new w 52 x.cs;have c0:=D.cell 0;have A:Below w.heap.size w (w.alloc (.cells x.cs 52)):=(Below.refl _ _).alloc (Qk _) _;obtain⟨W,B⟩:∃W,w.alloc (.cells x.cs 52)=W:=⟨_,rfl⟩
 unfold NP.cs gB at B c0 D A⊢;rw[B]at c0 A;simp only[Qc,Qa]at c0;have H:=Qh B;have G:=Qh A;have hc:=sJ x.m.path b W;obtain⟨r,E⟩:∃r,rC x.m.path b=r:=⟨_,rfl⟩
 rw[E]at hc⊢;have HC:=Qh hc;clear B A D hc E
 go_enter Tryz.func115,Tryz.ntmps115
 go_upto_region 1 with fail
 rw[H.out];go_wp2_with fail;refine HC.out.mono ?_;rintro e w' ⟨rfl,rfl⟩;go_wp2;go_ret;exact⟨rfl,G.out⟩
def BM (ys:List aC) (b:List UInt8) (w:World) (e:Ending) (w':World):Prop:=
 ∃(k:Nat) (r:Bool),e=.returned (.tuple #[.int .i64 (k:Int),.bool r])∧k≤ys.length∧(r=true→k<ys.length∧(ys.getD k cz).path=b)∧(fM ys→r=false→∀y∈ys,y.path≠b)∧Below w.heap.size w w'
theorem iJ (h:fM ys) (ug:i<j) (hj:j<ys.length):eH (ys.getD i cz).path (ys.getD j cz).path=true:=by
 have hi:i<ys.length:=by omega
 have:=List.pairwise_iff_getElem.1 h i j hi hj ug;rw[List.getD,List.getD,Qd hi,Qd hj];exact this
theorem sN {y:aC} (h:y∈ys):∃i,i<ys.length∧ys.getD i cz=y:=by
 obtain⟨i,hi,he⟩:=List.mem_iff_getElem.1 h;exact⟨i,hi,by rw[List.getD,Qd hi];exact he⟩
def uy (ys:List aC) (b:List UInt8) (i j:Nat):Prop:=
 fM ys→(∀k,k<i→eH (ys.getD k cz).path b=true)∧(∀k,j≤k→k<ys.length→eH (ys.getD k cz).path b=false)
theorem uy.up (hr:uy ys b i j) (hh:eH (ys.getD h cz).path b=true) (hl:h<ys.length):uy ys b (h+1) j:=fun hs=>by
 refine⟨fun k hk=>?_,(hr hs).2⟩;rcases Nat.lt_succ_iff_lt_or_eq.1 hk with hk|rfl
 ·exact iA _ _ _ (iJ hs hk hl) hh
 ·exact hh
theorem uy.down (hr:uy ys b i j) (hh:eH (ys.getD h cz).path b=false):uy ys b i h:=fun hs=>by
 refine⟨(hr hs).1,fun k hk hl=>?_⟩;rcases Nat.lt_or_eq_of_le hk with hk|rfl
 ·cases hc:eH (ys.getD k cz).path b with
  |false=>rfl
  |true=>rw[iA _ _ _ (iJ hs hk hl) hc]at hh;cases hh
 ·exact hh
theorem uy.none_ (hr:uy ys b i i) (cX:i<ys.length→(ys.getD i cz).path≠b) (hs:fM ys):∀y∈ys,y.path≠b:=fun y hy e=>by
 obtain⟨k,hk,rfl⟩:=sN hy;obtain⟨h1,B⟩:=hr hs;rcases Nat.lt_trichotomy k i with h|h|h
 ·exact vX (h1 k h) e
 ·subst h;exact cX hk e
 ·have A:=iJ hs h hk
  rw[e,B i (Qk _) (by omega)]at A
  cases A
theorem P1 (p:Option Addr) (n c:Nat) (xs:List NP) (b:List UInt8) (w:World) (h:aV w p n xs) (hn:n≤1000000000):
 Calls Tryz.prog 114 #[.slice p n c,.string (str b),.func (.func 115) #[] #[]] w (BM (xs.map NP.m) b w):=by
 have g:=Qh h;have E:=Qh h.1;clear h
 go_enter Tryz.func114,Tryz.ntmps114
 go_wp2_with fail
 go_loopw [9,10,11] (fun d f vh wr=>∃(i j:Nat),i≤j∧j≤n∧d=.int .i64 (i:Int)∧f=.int .i64 (j:Int)∧Hid (uy (xs.map NP.m) b i j)∧Hid (Below w.heap.size w wr)) (fun d f _ _=>(RowKit.intOf f).toNat - (RowKit.intOf d).toNat)
 case atStart=>exact⟨0,n,Nat.zero_le _,Qk _,rfl,rfl,Qh (fun _=>⟨fun k hk=>by omega,fun k h1 u=>by rw[Qi,E.out]at u;omega⟩),Qh (Below.refl _ _)⟩
 case round=>
  obtain⟨i,j,ug,z,rfl,rfl,R,A⟩:=hrel
  by_cases ao:i<j
  ·have q1:IntKind.i64.wrap ((i:Int)+(j:Int))=(i:Int)+(j:Int):=by rw[IntKind.wrap_i64];omega
   have j5:(i:Int)<(j:Int):=by omega
   obtain⟨h,hh⟩:∃h,(i+j) / 2=h:=⟨_,rfl⟩
   have QL:i≤h:=by omega
   have D3:h<j:=by omega
   obtain⟨t,o,rfl,Y,M,L⟩:=(g.out.below A.out).dF (show h<n by omega);obtain⟨y,hy⟩:∃y,xs.getD h aD=y:=⟨_,rfl⟩
   rw[hy]at M L;obtain⟨c0,c1,c2,c3,c4,c5,c6,c7,N⟩:=L;have B:=wK y b wr;unfold NP.cs gB at B;obtain⟨r,G⟩:∃r,rC y.m.path b=r:=⟨_,rfl⟩
   rw[G]at B;have J:Hid (((xs.map NP.m).getD h cz).path=y.m.path):=Qh (by rw[gK,hy]);have I:=Qh G;have HC:=Qh B;clear B G hy Y M;have q2:(((i:Int)+(j:Int)) / 2)=(h:Int):=by omega
   by_cases l:r<0
   ·have U:Hid (uy (xs.map NP.m) b (h+1) j):=Qh (R.out.up (by rw[J.out,←zO,I.out];exact l) (by rw[Qi,E.out];omega))
    go_wp2_with fail
    refine HC.out.mono ?_;rintro e q ⟨rfl,D⟩;have H:=Qh (A.out.trans (D.mono A.out.size));clear D c0 c1 c2 c3 c4 c5 c6 c7 N;go_wp2;go_roundw
    case rel=>exact⟨h+1,j,by omega,z,by go_num,rfl,U,H⟩
    case measure=>simp[RowKit.intOf];omega
   ·have T:Hid (uy (xs.map NP.m) b i h):=Qh (R.out.down (by
     rw[J.out,Bool.eq_false_iff,ne_eq,←zO,I.out];exact l))
    go_wp2_with fail
    refine HC.out.mono ?_;rintro e q ⟨rfl,D⟩;have H:=Qh (A.out.trans (D.mono A.out.size));clear D c0 c1 c2 c3 c4 c5 c6 c7 N;go_wp2;go_roundw
    case rel=>exact⟨i,h,by omega,by omega,rfl,by go_num,T,H⟩
    case measure=>simp[RowKit.intOf];omega
  ·have lP:¬((i:Int)<(j:Int)):=by omega
   have V:i=j:=by omega
   subst V
   by_cases Z:i<n
   ·have W:(i:Int)<(n:Int):=by omega
    obtain⟨t,o,rfl,Y,M,L⟩:=(g.out.below A.out).dF Z;obtain⟨y,hy⟩:∃y,xs.getD i aD=y:=⟨_,rfl⟩
    rw[hy]at M L;obtain⟨c0,c1,c2,c3,c4,c5,c6,c7,N⟩:=L;have B:=wK y b wr;unfold NP.cs gB at B;obtain⟨r,G⟩:∃r,rC y.m.path b=r:=⟨_,rfl⟩
    rw[G]at B;have J:Hid (((xs.map NP.m).getD i cz).path=y.m.path):=Qh (by rw[gK,hy]);have I:=Qh G;have HC:=Qh B;clear B G hy Y M;go_wp2_with fail;refine HC.out.mono ?_;rintro e q ⟨rfl,D⟩;have H:=Qh (A.out.trans (D.mono A.out.size));clear D c0 c1 c2 c3 c4 c5 c6 c7 N
    by_cases O:r=0
    ·have P:Hid (i<(xs.map NP.m).length∧((xs.map NP.m).getD i cz).path=b):=Qh ⟨by rw[Qi,E.out];exact Z,by rw[J.out];exact(yr _ _).1 (by rw[I.out,O])⟩
     have X:(r==0)=true:=by simpa using O
     go_wp2;go_ret2;exact⟨i,true,rfl,by rw[Qi,E.out];omega,fun _=>P.out,(fun _ h=>by cases h),H.out⟩
    ·have X:(r==0)=false:=by simpa using O
     have P:Hid (fM (xs.map NP.m)→∀y∈xs.map NP.m,y.path≠b):=Qh (R.out.none_ (fun _ e=>O (by rw[←I.out,yr,←J.out];exact e)));go_wp2;go_ret2;exact⟨i,false,rfl,by rw[Qi,E.out];omega,(fun h=>by cases h),fun h _=>P.out h,H.out⟩
   ·have W:¬(i:Int)<(n:Int):=by omega
    have P:Hid (fM (xs.map NP.m)→∀y∈xs.map NP.m,y.path≠b):=Qh (R.out.none_ (fun h=>absurd h (by rw[Qi,E.out];exact Z)));go_wp2;go_ret2;exact⟨i,false,rfl,by rw[Qi,E.out];omega,(fun h=>by cases h),fun h _=>P.out h,A.out⟩
theorem rV (p:Option Addr) (n c:Nat) (xs:List NP) (b:List UInt8) (w:World) (h:aV w p n xs) (hn:n≤1000000000):
 Calls Tryz.prog 77 #[.slice p n c,.string (str b)] w (BM (xs.map NP.m) b w):=by
 have E:=Qh (P1 p n c xs b w h hn);clear h
 go_enter Tryz.func77,Tryz.ntmps77
 go_wp2_with fail
 refine E.out.mono ?_;rintro e G ⟨k,r,rfl,h1,A,B,D⟩;have P:=Qh (And.intro h1 (And.intro A (And.intro B D)));clear h1 A B D;go_wp2;go_ret2;exact⟨k,r,rfl,P.out⟩
end Tre
namespace Wr
open Hp Head Rec Attr
structure SP (w:World) (M H:Array Value) (rs:cH) (wx:World):Prop where
 bel:Below w.heap.size w wx
 mem:au wx w.heap.size 48 M
 res:au wx (w.heap.size+1) 66 (af ch)
 hd:au wx (w.heap.size+2) 66 H
 ls:∃v,au wx (w.heap.size+3) 64 #[v]∧wx.ownsRow (w.heap.size+5) 121 2 v rs.length (eE rs)
 fn:au wx (w.heap.size+4) 189 #[.func (.func 120) #[] #[.pointer (some ⟨w.heap.size+3,0,none⟩)]]
section
variable {w wx wy:World} {M H:Array Value} {rs:cH}
theorem SP.below (h:SP w M H rs wx) (hb:Below wx.heap.size wx wy):SP w M H rs wy where
 bel:=h.bel.trans (hb.mono h.bel.size)
 mem:=h.mem.below hb h.mem.lt
 res:=h.res.below hb h.res.lt
 hd:=h.hd.below hb h.hd.lt
 ls:=by
  obtain⟨v,h1,A⟩:=h.ls;exact⟨v,h1.below hb h1.lt,cA A hb⟩
 fn:=h.fn.below hb h.fn.lt
theorem SP.kept (h:SP w M H rs wx) (hk:Kept ai wx wy):SP w M H rs wy:=h.below (hk.below (Qk _) (fun _ h=>h.elim))
theorem SP.set (h:SP w M H rs wx) (i:Nat) (v:Value) (hi:i<H.size):SP w M (H.set i v hi) rs (wx.setCell ⟨w.heap.size+2,i,none⟩ v) where
 bel:=h.bel.setCell (p:=⟨w.heap.size+2,i,none⟩) (by show w.heap.size≤w.heap.size+2;omega) v
 mem:=h.mem.other (by omega) v
 res:=h.res.other (by omega) v
 hd:=h.hd.set i v hi
 ls:=by
  obtain⟨u,h1,A⟩:=h.ls;refine⟨u,h1.other (by omega) v,bh A ((Kept.refl (ay (w.heap.size+2)) wx).setCell (a:=⟨w.heap.size+2,i,none⟩) (.inr rfl) v) (fun k hk e=>?_)⟩;have:=(A.lt k hk).1;have:k=w.heap.size+2:=e;omega
 fn:=h.fn.other (by omega) v
theorem SP.grow (h:SP w M H rs wx) {v v':Value} {rs':cH} {o:Obj} (hl:au wx (w.heap.size+3) 64 #[v]) (hr:wx.ownsRow (w.heap.size+5) 121 2 v rs.length (eE rs))
 (hg:(wx.alloc o).grownBy wy v.ownBlock) (ho:wy.ownsRow (w.heap.size+5) 121 2 v' rs'.length (eE rs')):
 (au wy (w.heap.size+3) 64 #[v])∧SP w M H rs' (wy.setCell ⟨w.heap.size+3,0,none⟩ v'):=by
 have A:Kept (fun k=>v.ownBlock=some k) wx wy:=((Kept.refl _ wx).alloc o).grown hg (fun k hk=>.inr hk);have off:∀k,v.ownBlock=some k→w.heap.size+5≤k:=fun k hk=>(hr.lt k hk).1
 have B:∀k,v'.ownBlock=some k→w.heap.size+5≤k:=fun k hk=>(ho.lt k hk).1
 have D:=hl.bV A (fun e=>by have:=off _ e;omega);refine⟨D,?_⟩;exact
 {bel:=(h.bel.trans (A.below h.bel.size (fun k hk=>by have:=off k hk;omega))).setCell (p:=⟨w.heap.size+3,0,none⟩) (by show w.heap.size≤w.heap.size+3;omega) v'
  mem:=(h.mem.bV A (fun e=>by have:=off _ e;omega)).other (by omega) v'
  res:=(h.res.bV A (fun e=>by have:=off _ e;omega)).other (by omega) v'
  hd:=(h.hd.bV A (fun e=>by have:=off _ e;omega)).other (by omega) v'
  ls:=⟨v',D.set 0 v' (by show 0<1;omega),bh ho ((Kept.refl (ay (w.heap.size+3)) wy).setCell (a:=⟨w.heap.size+3,0,none⟩) (.inr rfl) v') (fun k hk e=>by
   have:=B k hk;have:k=w.heap.size+3:=e
   omega)⟩
  fn:=(h.fn.bV A (fun e=>by have:=off _ e;omega)).other (by omega) v'}
end
theorem LY (w:World) (a b:List UInt8):cM (w.alloc (.cells #[.string (str a),.string (str b)] 121)) (some ⟨w.heap.size,0,none⟩) 1 [(a,b)]:=by
 have A:=au.new w 121 #[.string (str a),.string (str b)];refine⟨rfl,fun _=>⟨w.heap.size,0,rfl,A.lt,fun i hi=>?_⟩⟩;obtain rfl:i=0:=by omega
 exact⟨A.cell 0,A.cell 1⟩
theorem tZ (w wx:World) (M H:Array Value) (rs:cH) (k v:List UInt8) (h:SP w M H rs wx) (hn:rs.length≤100):
 Calls Tryz.prog 120 #[.string (str k),.string (str v),.pointer (some ⟨w.heap.size+3,0,none⟩)] wx fun e w'=>e=.returned (.tuple #[])∧SP w M H (rs++[(k,v)]) w':=by
 obtain⟨i0,hi,X,V,W⟩:=info_parts IG;obtain⟨r,hl,E⟩:=h.ls;have A:=E;obtain⟨p,c,rfl,_,_,_⟩:=nP A;have N:=cA E ((Below.refl _ wx).alloc (Qk _) (.cells #[.string (str k),.string (str v)] 121));have o:=h.fn.lt;have c0:=hl.cell 0;simp only[Qc,Qa]at c0;have b:=Qh hi;have g:=Qh X;have f:=Qh V;have l:=Qh W;have d:=Qh h;have J:=Qh hl;have L:=Qh E;have O:=Qh N;obtain⟨n,G⟩:∃n,rs.length=n:=⟨_,rfl⟩
 have B:=Qh G;rw[G]at hn J L O c0;clear hi X V W h hl E N A G
 go_enter Tryz.func120,Tryz.ntmps120
 go_wp2_with (at_builtin;refine BS rfl _ _ 64 rfl (w.heap.size+5) 121 i0 (.agg #[.string ⟨#[]⟩,.string ⟨#[]⟩]) Tryz.underlying64 b.out g.out f.out l.out rfl _ n rs rfl O.out (some ⟨wx.heap.size,0,none⟩) 1 1 [(k,v)] rfl (LY wx k v) (by omega) (by simp;omega) ?_)
 intro v' w' I U;have D:=d.out.grow (rs':=rs++[(k,v)]) (by rw[B.out]at*;exact J.out) (by rw[B.out]at*;exact L.out) U (by rw[Qf,B.out];exact I);have f0:=D.1.frozen 0;have g0:=D.1.cell 0;simp only[Qc,Qa]at g0;have Z:=Qh D.2;obtain⟨q,m,T,_⟩:=nP (rs:=rs++[(k,v)]) (by rw[Qf,B.out];exact I);obtain⟨Y,R⟩:∃Y,Y=(rs++[(k,v)]).length:=⟨_,rfl⟩
 rw[←R]at T;subst T;clear D I U R;go_wp2
 go_end0
 exact⟨rfl,Z.out⟩
def He (w:World) (M H H':Array Value) (rs rs':cH) (e:Ending) (w':World):Prop:=e=.returned (.tuple #[])∧SP w M H' rs' w'
theorem sB (w wx:World) (M H H':Array Value) (rs rs':cH) (i:Nat) (key t:List UInt8) (fits c:Bool) (h:SP w M H rs wx) (hi:i<H.size) (hH:H[i]? =some (.string (str t)))
 (hc:(!fits||!gm t)=c) (Yz:(if c=true then H.setIfInBounds i (.string (str bz))else H)=H') (jk:(if c=true then rs++[(key,t)]else rs)=rs') (ht:t.length≤100000) (hn:rs.length≤100):
 Calls Tryz.prog 121 #[.string (str key),.pointer (some ⟨w.heap.size+2,i,none⟩),.bool fits,.pointer (some ⟨w.heap.size+4,0,none⟩)] wx (He w M H H' rs rs'):=by
 have B:=h.hd.cell i;rw[hH]at B;have J:=Qh h;have HC:=Qh hc;have G:=Qh hH;have L:=Qh Yz;have O:=Qh jk;have I:=Qh hi;clear h hc hH Yz jk hi
 go_enter Tryz.func121,Tryz.ntmps121
 go_upto_region 0 with fail
 go_cut [15] (fun s U=>s=.bool c∧SP w M H rs U)
 case first=>
  cases fits with
  |false=>
   go_wp2;go_meet
   exact⟨by rw[←HC.out];rfl,J.out⟩
  |true=>
   have E:=LA (str t) wx (by rw[ak];omega);rw[aU]at E;have T:=Qh E;clear E;go_wp2_with fail;refine T.out.mono ?_;rintro e V ⟨rfl,N⟩;have H1:=Qh (J.out.below N);clear N;go_wp2;go_meet;exact⟨by rw[←HC.out];rfl,H1.out⟩
 case rest=>
  obtain⟨rfl,hs⟩:=hcut;have D:=Qh hs;clear hs B
  cases c with
  |false=>
   go_wp2
   go_end0
   refine⟨rfl,?_⟩;rw[←L.out,←O.out,if_neg (by simp),if_neg (by simp)];exact D.out
  |true=>
   have B:=D.out.hd.cell i;rw[G.out]at B;have hF:=D.out.fn.cell 0;simp only[Qc,Qa]at hF;go_upto_region 1 with fail
   go_still_tail 5,(by kernel_rfl)
   go_wp2_with fail
   refine(tZ w _ M H rs key t (D.out.kept ((Kept.refl ai wc).drew)) hn).mono ?_;rintro e W ⟨rfl,A⟩;have R:=Qh A;have f2:=A.hd.frozen i;have c2:=A.hd.cell i;rw[G.out]at c2;clear A;go_wp2
   go_end0
   refine⟨rfl,?_⟩;rw[←L.out,←O.out,if_pos trivial,if_pos trivial,Array.setIfInBounds,dif_pos I.out];exact R.out.set i _ I.out
theorem kR (w wx:World) (M H H':Array Value) (rs rs':cH) (i:Nat) (key:List UInt8) (n most:Nat) (h:SP w M H rs wx) (hi:i<H.size) (hH:H[i]? =some (.int .i64 (n:Int)))
 (Yz:(if most<n then H.setIfInBounds i (.int .i64 0)else H)=H') (jk:(if most<n then rs++[(key,ax n)]else rs)=rs') (ht:n≤9223372036854775807) (hn:rs.length≤100) (hN:Need wx):
 Calls Tryz.prog 123 #[.string (str key),.pointer (some ⟨w.heap.size+2,i,none⟩),.int .i64 (most:Int),.pointer (some ⟨w.heap.size+4,0,none⟩)] wx (He w M H H' rs rs'):=by
 have U:=h.hd.cell i;rw[hH]at U;have hF:=h.fn.cell 0;simp only[Qc,Qa]at hF;have O:=Qh h;have L:=Qh hH;have B:=Qh Yz;have E:=Qh jk;have N:=Qh hi;have W:=Qh hN;clear h hH Yz jk hi hN
 by_cases V:most<n
 ·have J:(most:Int)<(n:Int):=by omega
  rw[if_pos V]at B E
  go_enter Tryz.func123,Tryz.ntmps123
  go_upto_region 1 with fail
  go_region_held_law (fun w'=>w'.cell? ⟨w.heap.size+4,0,none⟩=some (.func (.func 120) #[] #[.pointer (some ⟨w.heap.size+3,0,none⟩)])∧w'.cell? ⟨w.heap.size+2,i,none⟩=some (.int .i64 (n:Int))) (first|exact⟨hF,U⟩|exact D|exact I)
   (first
    |(go_at_call 124;refine(Cz n _ ht (W.out.below (((Kept.refl ai wx).drew).below (Qk _) (fun _ h=>h.elim)))).mono ?_;rintro e X ⟨rfl,R⟩;have G:=Qh ((O.out.kept ((Kept.refl ai wx).drew)).below R);(have I:=And.intro (G.out.fn.cell 0) (G.out.hd.cell i));rw[L.out]at I;simp only[Qc,Qa]at I;clear R)
    |(go_at_call 120;refine(tZ w _ M H rs key (ax n) G.out hn).mono ?_;rintro e w3 ⟨rfl,T⟩;have A:=Qh T;(have D:=And.intro (A.out.fn.cell 0) (A.out.hd.cell i));rw[L.out]at D;simp only[Qc,Qa]at D;clear T))
  all_goals
   obtain⟨_,c3⟩:=D;have f3:=A.out.hd.frozen i;go_wp2
   go_end0
   refine⟨rfl,?_⟩;rw[←B.out,←E.out,Array.setIfInBounds,dif_pos N.out];exact A.out.set i _ N.out
 ·have J:¬(most:Int)<(n:Int):=by omega
  rw[if_neg V]at B E
  go_enter Tryz.func123,Tryz.ntmps123
  go_wp2
  go_end0
  exact⟨rfl,by rw[←B.out,←E.out];exact O.out⟩
end Wr
namespace Tre
open Rec Block
structure BG (w wr:World) (xs:List NP) (k:Nat) (o:Value) (ys:List NP):Prop where
 bel:Below w.heap.size w wr
 row:wr.ownsRow w.heap.size 52 9 o ys.length (eD ys)
 len:ys.length=k
 same:ys.map NP.m=(xs.take k).map NP.m
 bodies:∀y∈ys,cY wr y
 off:∀y∈ys,0<y.m.body.length→∀z,y.p=some z→o.ownBlock≠some z.block
section
variable {w wr w':World} {xs ys:List NP} {k:Nat} {o:Value}
theorem BG.below (h:BG w wr xs k o ys) (hb:Below wr.heap.size wr w'):BG w w' xs k o ys where
 bel:=h.bel.trans (hb.mono h.bel.size)
 row:=cA h.row hb
 len:=h.len
 same:=h.same
 bodies:=fun y hy=>(h.bodies y hy).below hb
 off:=h.off
theorem BG.add (h:BG w wr xs k o ys) (hk:k<xs.length) {y:NP} (hy:y.m=(xs.getD k aD).m) (hb:cY wr y) (ho:0<y.m.body.length→∀z,y.p=some z→o.ownBlock≠some z.block)
 {o':Value} (bC:w'.ownsRow w.heap.size 52 9 o' (ys++[y]).length (eD (ys++[y]))) (hg:wr.grownBy w' o.ownBlock) (hn:dN wr o o'):BG w w' xs (k+1) o' (ys++[y]):=by
 have D:Kept (fun b=>o.ownBlock=some b) wr w':=(Kept.refl _ wr).grown hg (fun k hk=>.inr hk)
 have lt:∀{b:Nat},o'.ownBlock=some b→b<wr.heap.size→o.ownBlock=some b:=fun hb E=>by
  rcases hn _ hb with h|h
  ·exact h
  ·omega
 have all:∀x∈ys++[y],cY wr x∧(0<x.m.body.length→∀z,x.p=some z→o.ownBlock≠some z.block):=fun x hx=>by
  rcases List.mem_append.1 hx with hx|hx
  ·exact⟨h.bodies x hx,h.off x hx⟩
  ·rw[List.mem_singleton.1 hx]
   exact⟨hb,ho⟩
 exact
 {bel:=h.bel.trans (D.below h.bel.size (fun k hk=>(World.ownsRow.lt h.row _ hk).1))
  row:=bC
  len:=by rw[Qf,h.len];rfl
  same:=by rw[List.map_append,h.same,G3 xs k hk,←hy];rfl
  bodies:=fun x hx=>(all x hx).1.kept D (fun A z B=>(all x hx).2 A z B)
  off:=fun x hx A z B e=>(all x hx).2 A z B (lt e (lS (all x hx).1.gC A B))}
end
def BH (w:World) (n:Nat) (xs:List NP) (e:Ending) (w':World):Prop:=∃q d ys,e=.returned (.slice q n d)∧ys.map NP.m=xs.map NP.m∧aV w' q n ys∧Below w.heap.size w w'∧n≤d∧d≤maxLen
theorem Mb (p:Option Addr) (n c:Nat) (xs:List NP) (w:World) (h:aV w p n xs) (hn:n≤1000) (hR:∀x∈xs,x.m.body.length≤140737488351232):
 Calls Tryz.prog 11 #[.slice p n c] w (BH w n xs):=by
 obtain⟨i0,hi,eo,t,u⟩:=info_parts iy;have HI:=Qh hi;have jr:=Qh eo;have ib:=Qh t;have js:=Qh u;have HM:=Qh h;have W:=Qh h.1;have HR:=Qh hR;clear hi eo t u h hR
 go_enter Tryz.func11,Tryz.ntmps11
 go_wp2_with fail
 go_loopw [3,4] (fun o i wr=>∃(k:Nat) (ys:List NP) (vo:Value),k≤n∧vo=o∧i=.int .i64 (k:Int)∧Hid (BG w wr xs k vo ys)) (fun _ i _=>n - (RowKit.intOf i).toNat)
 case atStart=>exact⟨0,[],_,Nat.zero_le _,rfl,rfl,Qh ⟨Below.refl _ _,World.ownsRow_nil _ _ _ _,rfl,rfl,fun x U=>(by cases U),fun x U=>(by cases U)⟩⟩
 case round=>
  obtain⟨k,ys,o,hk,rfl,rfl,hO⟩:=hrel
  by_cases l:k<n
  ·have eV:k<xs.length:=by rw[W.out];exact l
   obtain⟨b,o',rfl,hb,R,hc⟩:=(HM.out.below hO.out.bel).dF l;obtain⟨v,T⟩:∃v,xs.getD k aD=v:=⟨_,rfl⟩
   rw[T]at R hc;have X:=Qh T;have HB:=Qh R;have od:=Qh eV;obtain⟨c0,c1,c2,c3,c4,c5,c6,c7,c8⟩:=hc;have j5:(k:Int)<(n:Int):=by omega
   clear T R eV;go_upto_region 6 with fail;obtain⟨w1,hw⟩:∃w1,wr.alloc (.cells #[.string (str v.m.path),.string (str v.m.target),.string (str v.m.ag),.int .u8 (v.m.kind.toNat:Int),.int .i64 v.m.mode,.int .i64 v.m.uid,.int .i64 v.m.gid,.int .i64 v.m.time,.slice v.p v.m.body.length v.c] 52)=w1:=⟨_,rfl⟩
   have A:au w1 wr.heap.size 52 #[.string (str v.m.path),.string (str v.m.target),.string (str v.m.ag),.int .u8 (v.m.kind.toNat:Int),.int .i64 v.m.mode,.int .i64 v.m.uid,.int .i64 v.m.gid,.int .i64 v.m.time,.slice v.p v.m.body.length v.c]:=by rw[←hw];exact au.new wr _ _
   have hS:Below wr.heap.size wr w1:=by rw[←hw];exact(Below.refl _ _).alloc (Qk _) _
   have x7:=(A.alloc (.cells #[] 5)).cell 8;simp only[Qc,Qa,Qb]at x7;have L:=Qh A;have H1:=Qh hS;have cr:=Qh (HB.out.below hS);rw[hw];clear hw A hS c0 c1 c2 c3 c4 c5 c6 c7 c8 hb
   go_wp2_with (at_builtin;refine eU rfl _ _ 26 rfl w1.heap.size 5 i0 Tryz.underlying26 HI.out jr.out ib.out js.out _ 0 [] rfl (World.ownsRow_made w1 #[] 0 (Qk _) (by decide) rfl) v.p v.m.body.length v.c v.m.body rfl (cr.out.gC.alloc _) rfl ?d2 ?d3 ?_)
   case d2=>have:=HR.out _ (nh xs k od.out);rw[X.out]at this;omega
   case d3=>simp
   intro v2 w2 f g;have yI:cR w2 w1.heap.size v2 v.m.body.length v.m.body:=by simpa [cR]using f
   have dr:Kept ai w1 w2:=(((Kept.refl ai w1).alloc _)).grown g (by intro k hk;simp[Value.ownBlock]at hk;omega);have N:Below w1.heap.size w1 w2:=dr.below (Qk _) (fun _ h=>h.elim);obtain⟨B,c2,rfl,R6,Sa,r,_,Y⟩:=yI.slice;have G:=L.out.below N L.out.lt;have y7:=G.cell 8;have f7:=G.frozen 8;simp only[Qc,Qa,Qb]at y7;have H2:=Qh (H1.out.trans (N.mono H1.out.size));have bT:=Qh r;have D:=Qh Y;have fX:=Qh G;clear f g yI dr N r Y G x7;go_upto_region 7 with fail;obtain⟨w3,hw⟩:∃w3,w2.setCell ⟨wr.heap.size,8,none⟩ (.slice B v.m.body.length c2)=w3:=⟨_,rfl⟩
   have A:au w3 wr.heap.size 52 #[.string (str v.m.path),.string (str v.m.target),.string (str v.m.ag),.int .u8 (v.m.kind.toNat:Int),.int .i64 v.m.mode,.int .i64 v.m.uid,.int .i64 v.m.gid,.int .i64 v.m.time,.slice B v.m.body.length c2]:=by rw[←hw];exact fX.out.set 8 _ (by decide:8<9)
   have dt:Kept (ay wr.heap.size) w2 w3:=by rw[←hw];exact(Kept.refl (ay wr.heap.size) w2).setCell (a:=⟨wr.heap.size,8,none⟩) (.inr rfl) _
   have eN:cK w3 B v.m.body.length v.m.body:=bT.out.kept dt (fun _ y hy e=>by
    have h1:=(D.out y hy).1;have h2:y.block=wr.heap.size:=e;have h3:=L.out.lt
    omega)
   have H3:Hid (Below wr.heap.size wr w3):=Qh (by rw[←hw];exact H2.out.setCell (p:=⟨wr.heap.size,8,none⟩) (Qk _) _);have z0:=A.cell 0;have z1:=A.cell 1;have z2:=A.cell 2;have z3:=A.cell 3;have z4:=A.cell 4;have z5:=A.cell 5;have z6:=A.cell 6;have z7:=A.cell 7;have z8:=A.cell 8;simp only[Qc,Qa,Qb]at z0 z1 z2 z3 z4 z5 z6 z7 z8;rw[hw];have E:=Qh (hO.out.below H3.out);have I:Hid (cY w3 ⟨v.m,B,c2⟩):=Qh ⟨eN,R6,Sa⟩
   have il:Hid (0<v.m.body.length→∀z,B=some z→o.ownBlock≠some z.block):=Qh (fun _ z hz e=>by
    have h1:=(D.out z hz).1;have h2:=(World.ownsRow.lt hO.out.row _ e).2;have h3:=H1.out.size
    omega)
   clear hw A dt eN y7 f7
   go_wp2_with (at_builtin;refine BR rfl _ _ rfl w.heap.size o ys rfl (cA E.out.row ((Below.refl _ _).alloc (Qk _) _)) w3.heap.size 1 ⟨v.m,B,c2⟩ rfl (au.new w3 _ _) ?e1 ?e2 ?_)
   case e1=>have:=E.out.len;omega
   case e2=>have:=E.out.bel.size;omega
   intro v4 w4 O hg Z;have M:Below w3.heap.size w3 (w3.alloc (.cells #[.string (str v.m.path),.string (str v.m.target),.string (str v.m.ag),.int .u8 (v.m.kind.toNat:Int),.int .i64 v.m.mode,.int .i64 v.m.uid,.int .i64 v.m.gid,.int .i64 v.m.time,.slice B v.m.body.length c2] 52)):=(Below.refl _ _).alloc (Qk _) _;rw[show ys.length+1=(ys++[(⟨v.m,B,c2⟩:NP)]).length by simp]at O;have J:Hid (BG w w4 xs (k+1) v4 (ys++[⟨v.m,B,c2⟩])):=Qh ((E.out.below M).add (y:=⟨v.m,B,c2⟩) od.out (by rw[X.out]) (I.out.below M) il.out O hg Z);clear O hg Z M z0 z1 z2 z3 z4 z5 z6 z7 z8;go_wp2;go_roundw
   case rel=>exact⟨k+1,_,_,by omega,rfl,by go_num,J⟩
   case measure=>simp[RowKit.intOf];omega
  ·obtain rfl:k=n:=by omega
   have lP:¬((k:Int)<(k:Int)):=by omega
   have hlen:=hO.out.len;obtain⟨q,d,rfl,H,V,hm⟩:=Lp hO.out.row hO.out.bodies;rw[hlen]at hm H⊢;have Jt:=Qh hm;have HD:=Qh (And.intro H V);clear hm hlen H V;go_wp2;go_ret;refine⟨q,d,ys,rfl,?_,Jt.out,hO.out.bel,HD.out⟩;rw[hO.out.same,List.take_of_length_le (by rw[W.out];exact Qk _)]
end Tre
end Go.Proofs.YtdhibldkldlfpaaGreatDoor
