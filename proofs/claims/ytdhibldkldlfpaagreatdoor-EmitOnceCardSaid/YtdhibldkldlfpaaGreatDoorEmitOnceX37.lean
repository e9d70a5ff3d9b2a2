/- Merged. -/
import Derived.Test.YtdhibldkldlfpaaGreatDoorEmitOnceX34
import Derived.Deep.RegionHeld3
namespace Go.Proofs.YtdhibldkldlfpaaGreatDoor
set_option linter.unusedVariables false
set_option maxHeartbeats 8000000
set_option maxRecDepth 100000
open Mem
variable {p:List UInt8} {g i k n:Nat} {w w':World}
namespace fb
open Go.ChangeShapes Go.WideShapes Go.ChangeAt Go.RowKit Base bJ cr Bk Go.Lib
variable {b:List UInt8} {t:List av}
theorem Cz (p q:Option Addr) (n m c d:Nat) (xs ys:List NP) (w:World) (hn:n≤maxLen) (h1:bt w p n xs) (h2:bt w q m ys):
 Calls Tryz.prog 15 #[.slice p n c,.slice q m d] w fun e w'=>e=.returned (.bool (decide (xs.map NP.m=ys.map NP.m)))∧Below w.heap.size w w':=by
 unfold maxLen at hn;have H1:=Qh h1;have t:=Qh h2;have J:=Qh h1.1;have V:=Qh h2.1;clear h1 h2
 go_enter Tryz.func15,Tryz.ntmps15
 by_cases l:n=m
 ·subst l
  have hb:(((n:Int)) != (n:Int))=false:=by simp
  go_wp2_with fail
  go_loopw [5] (fun i wr=>∃(k:Nat),k≤n∧i=.int .i64 (k:Int)∧Hid (∀j,j<k→(xs.getD j aN).m=(ys.getD j aN).m)∧Hid (Below w.heap.size w wr)) (fun i _=>n - (RowKit.intOf i).toNat)
  case atStart=>exact⟨0,Nat.zero_le _,rfl,Qh (fun j L=>absurd L (by omega)),Qh (Below.refl _ _)⟩
  case round=>
   obtain⟨k,hk,rfl,hd,E⟩:=hrel
   by_cases I:k<n
   ·obtain⟨A,o1,rfl,X,O,T⟩:=(H1.out.below E.out).dX I
    obtain⟨B,D,rfl,Y,R,U⟩:=(t.out.below E.out).dX I;obtain⟨u,hu⟩:∃u,xs.getD k aN=u:=⟨_,rfl⟩
    obtain⟨v,M⟩:∃v,ys.getD k aN=v:=⟨_,rfl⟩
    rw[hu]at O T;rw[M]at R U;have b:=Qh hu;have f:=Qh M;have y:=Qh O;have z:=Qh R;have o:Hid (∀w',Below wr.heap.size wr w'→dW w' A (o1+k*9) u∧dW w' B (D+k*9) v):=Qh (fun w' h=>⟨T.below X h,U.below Y h⟩);have G:Hid (Below wr.heap.size wr wr.drew):=Qh (below_drewN (Below.refl wr.heap.size wr) 1);unfold dW at o;have mD:(k:Int)<(n:Int):=by omega
    have r:((str u.m.ai).toList==(str v.m.ai).toList)=decide (u.m.ai=v.m.ai):=by
     rw[ax,ax]
     by_cases h:u.m.ai=v.m.ai<;>simp[h]
    by_cases hl:u.m.ai=v.m.ai
    ·rw[decide_eq_true hl]at r
     have ZC:=Qh hl;clear O R T U hu M X Y hl;go_wp2_with fail
     go_region_held3 (fun w'=>(w'.cell? ⟨A,o1+k*9,none⟩=some (.string (str u.m.path))∧w'.cell? ⟨A,o1+k*9+1,none⟩=some (.string (str u.m.target))∧w'.cell? ⟨A,o1+k*9+2,none⟩=some (.string (str u.m.ai))∧w'.cell? ⟨A,o1+k*9+3,none⟩=some (.int .u8 (u.m.kind.toNat:Int))∧w'.cell? ⟨A,o1+k*9+4,none⟩=some (.int .i64 u.m.mode)∧w'.cell? ⟨A,o1+k*9+5,none⟩=some (.int .i64 u.m.uid)∧w'.cell? ⟨A,o1+k*9+6,none⟩=some (.int .i64 u.m.gid)∧w'.cell? ⟨A,o1+k*9+7,none⟩=some (.int .i64 u.m.time)∧w'.cell? ⟨A,o1+k*9+8,none⟩=some (.slice u.p u.m.body.length u.c))∧(w'.cell? ⟨B,D+k*9,none⟩=some (.string (str v.m.path))∧w'.cell? ⟨B,D+k*9+1,none⟩=some (.string (str v.m.target))∧w'.cell? ⟨B,D+k*9+2,none⟩=some (.string (str v.m.ai))∧w'.cell? ⟨B,D+k*9+3,none⟩=some (.int .u8 (v.m.kind.toNat:Int))∧w'.cell? ⟨B,D+k*9+4,none⟩=some (.int .i64 v.m.mode)∧w'.cell? ⟨B,D+k*9+5,none⟩=some (.int .i64 v.m.uid)∧w'.cell? ⟨B,D+k*9+6,none⟩=some (.int .i64 v.m.gid)∧w'.cell? ⟨B,D+k*9+7,none⟩=some (.int .i64 v.m.time)∧w'.cell? ⟨B,D+k*9+8,none⟩=some (.slice v.p v.m.body.length v.c))) (exact o.out _ G.out) (first
      |(go_at_call 30
        refine(zD u v _ (y.out.below G.out) (z.out.below G.out)).mono ?_;rintro e wa ⟨rfl,g⟩;have G:=Qh (G.out.trans (g.mono G.out.size))
        clear g))
     all_goals
      by_cases H:u.m=v.m
      ·have W:Qn u.m v.m=true:=by rw[H];simp[Qn]
       have HD:Hid (∀j,j<k+1→(xs.getD j aN).m=(ys.getD j aN).m):=Qh (fun j L=>by
        rcases Nat.lt_succ_iff_lt_or_eq.1 L with h|rfl
        ·exact hd.out j h
        ·rw[b.out,f.out,H])
       clear H;have Z:=Qh (E.out.trans (G.out.mono E.out.size));rw[W];go_wp2;go_roundw
       case rel=>exact⟨k+1,by omega,by go_num,HD,Z⟩
       case measure=>simp[RowKit.intOf];omega
      ·have W:Qn u.m v.m=false:=by
        rw[Bool.eq_false_iff];intro h;exact H (DT (of_decide_eq_true h) ZC.out)
       have N:Hid (decide (xs.map NP.m=ys.map NP.m)=false):=Qh (decide_eq_false (ou xs ys k (by rw[J.out];exact I) (by rw[V.out];exact I) (by rw[b.out,f.out];exact H)));clear H;have Z:=Qh (E.out.trans (G.out.mono E.out.size));rw[W];go_wp2;go_ret;exact⟨by rw[N.out];rfl,Z.out⟩
    ·rw[decide_eq_false hl]at r
     have N:Hid (decide (xs.map NP.m=ys.map NP.m)=false):=Qh (decide_eq_false (ou xs ys k (by rw[J.out];exact I) (by rw[V.out];exact I) (by rw[hu,M];exact fun h=>hl (by rw[h]))));obtain⟨c0,c1,c2,c3,c4,c5,c6,c7,c8⟩:=T;obtain⟨d0,d1,d2,d3,d4,d5,d6,d7,d8⟩:=U;clear O R hu M X Y hl;go_wp2_with fail
     go_quiet (fail)
     go_wp2;go_ret;exact⟨by rw[N.out];rfl,below_drewN E.out _⟩
   ·have pY:¬((k:Int)<(n:Int)):=by omega
    have HE:Hid (decide (xs.map NP.m=ys.map NP.m)=true):=Qh (decide_eq_true (Ca xs ys (by rw[J.out,V.out]) (fun j L=>hd.out j (by rw[J.out]at L;omega))));go_wp2;go_ret;exact⟨by rw[HE.out];rfl,E.out⟩
 ·have hb:(((n:Int)) != (m:Int))=true:=by simp;omega
  have N:Hid (decide (xs.map NP.m=ys.map NP.m)=false):=Qh (decide_eq_false (fun h=>l (by
   have:=congrArg List.length h;rw[Qi,Qi,J.out,V.out]at this
   exact this)))
  go_wp2;go_ret;exact⟨by rw[N.out];rfl,Below.refl _ _⟩
theorem oU {x:NP} (hb:ao w g 52 x.cs) (a0 a1 a2 a3 a4 a5 a6 a7 a8:Value):
 ao (((((((((w.setCell ⟨g,0,none⟩ a0).setCell ⟨g,1,none⟩ a1).setCell ⟨g,2,none⟩ a2).setCell ⟨g,3,none⟩ a3).setCell ⟨g,4,none⟩ a4).setCell ⟨g,5,none⟩ a5).setCell ⟨g,6,none⟩ a6).setCell ⟨g,7,none⟩ a7).setCell ⟨g,8,none⟩ a8) g 52 #[a0,a1,a2,a3,a4,a5,a6,a7,a8]:=
 (((((((((hb.set 0 a0 (by show 0<9;decide)).set 1 a1 (by show 1<9;decide)).set 2 a2 (by show 2<9;decide)).set 3 a3 (by show 3<9;decide)).set 4 a4 (by show 4<9;decide)).set 5 a5 (by show 5<9;decide)).set 6 a6 (by show 6<9;decide)).set 7 a7 (by show 7<9;decide)).set 8 a8 (by show 8<9;decide))
theorem jw (hk:Below w.heap.size w w') (hg:w.heap.size≤g) (a0 a1 a2 a3 a4 a5 a6 a7 a8:Value):
 Below w.heap.size w (((((((((w'.setCell ⟨g,0,none⟩ a0).setCell ⟨g,1,none⟩ a1).setCell ⟨g,2,none⟩ a2).setCell ⟨g,3,none⟩ a3).setCell ⟨g,4,none⟩ a4).setCell ⟨g,5,none⟩ a5).setCell ⟨g,6,none⟩ a6).setCell ⟨g,7,none⟩ a7).setCell ⟨g,8,none⟩ a8):=
 (((((((((hk.setCell (p:=⟨g,0,none⟩) hg a0).setCell (p:=⟨g,1,none⟩) hg a1).setCell (p:=⟨g,2,none⟩) hg a2).setCell (p:=⟨g,3,none⟩) hg a3).setCell (p:=⟨g,4,none⟩) hg a4).setCell (p:=⟨g,5,none⟩) hg a5).setCell (p:=⟨g,6,none⟩) hg a6).setCell (p:=⟨g,7,none⟩) hg a7).setCell (p:=⟨g,8,none⟩) hg a8)
structure Of (w wi:World) (g:Nat) (y:NP):Prop where
 bel:Below w.heap.size w wi
 gm:ao wi g 52 y.cs
 new:w.heap.size≤g
theorem Of.below {wi wj:World} {y:NP} (h:Of w wi g y) (hb:Below wi.heap.size wi wj):Of w wj g y:=
 ⟨h.bel.trans (hb.mono h.bel.size),h.gm.below hb h.gm.lt,h.new⟩
theorem A8 (h:∀x∈t,x.path≠b):eP t b=none:=by
 unfold eP;rw[List.find?_eq_none];intro x A
 simpa using h x A
theorem A9 (hk:k<t.length) (h:(t.getD k bL).path=b) (h0:∀x∈t.take k,x.path≠b):eP t b=some (t.getD k bL):=by
 unfold eP;rw[List.getD,Qd hk]at h⊢
 have e:t=t.take k++t[k]::t.drop (k+1):=by
  rw[←List.drop_eq_getElem_cons hk,List.take_append_drop]
 conv=>lhs;rw[e,List.find?_append]
 have A:(t.take k).find? (fun x=>x.path==b)=none:=by
  rw[List.find?_eq_none];intro x B
  simpa using h0 x B
 rw[A];simp only[Option.none_or];rw[List.find?_cons_of_pos (by simpa using h)];simp
theorem KI (w:World):fa w aN:=⟨cj.none_ w none,Qk _,by decide⟩
def NH (x:NP):Prop:=x.m.path.length≤140737488351232∧x.m.target.length≤140737488351232
theorem DJ (k:UInt8) (n:UInt8) (z:Int) (hz:(n.toNat:Int)=z):(((k.toNat:Int))==z)=decide (k=n):=by
 subst hz
 by_cases h:k=n
 ·simp[h]
 ·have:¬k.toNat=n.toNat:=fun A=>h (UInt8.toNat.inj A)
  simp only[h,decide_false,beq_eq_false_iff_ne,ne_eq];omega
theorem DK (k:UInt8) (n:UInt8) (z:Int) (hz:(n.toNat:Int)=z):(((k.toNat:Int)) != z)=!decide (k=n):=by
 rw[←DJ k n z hz];rfl
theorem BJ (x:NP) (w:World) (hF:NH x) (hT:Path.Tabs w):
 Calls Tryz.prog 46 #[.agg x.cs] w fun e w'=>e=.returned (.bool (jg x.m))∧Below w.heap.size w w':=by
 obtain⟨W,D⟩:∃W,w.alloc (.cells x.cs 52)=W:=⟨_,rfl⟩
 have H:Below w.heap.size w W:=by rw[←D];exact(Below.refl _ _).alloc (Qk _) _
 have I:ao W w.heap.size 52 x.cs:=by rw[←D];exact ao.new w _ _
 have B:=lB x.m.mem x.p x.c W hF.1 hF.2 (hT.below H);have G:=DK x.m.kind 49 49 rfl;unfold jg;obtain⟨g,L⟩:∃g,bk x.m.mem=g:=⟨_,rfl⟩
 rw[L]at B⊢;obtain⟨k,hk⟩:∃k:Int,(x.m.kind.toNat:Int)=k:=⟨_,rfl⟩
 obtain⟨c0,c1,c2,c3,N,c5,c6,c7,O⟩:=eN I;simp only[Nat.zero_add]at c0 c1 c2 c3 N c5 c6 c7 O;unfold NP.cs kq at D⊢;unfold cI av.mem at B;rw[hk]at D B c3 G⊢;have M:=Qh B;have E:=Qh H;clear B H I L hk hF hT
 go_enter Tryz.func46,Tryz.ntmps46
 by_cases A:x.m.kind=49
 ·rw[decide_eq_true A,Bool.not_true]at G
  have hd:decide (x.m.kind≠49)=false:=by simp[A]
  rw[hd];clear A hd;go_upto_region 1 with fail
  go_wp2;go_ret;exact⟨rfl,E.out⟩
 ·rw[decide_eq_false A,Bool.not_false]at G
  have hd:decide (x.m.kind≠49)=true:=by simp[A]
  rw[hd];clear A hd;go_upto_region 1 with fail;go_wp2_with fail
  refine M.out.mono ?_;rintro e R ⟨rfl,J⟩;have F:=Qh (E.out.trans (J.mono E.out.size));clear J;go_wp2;go_ret;exact⟨rfl,F.out⟩
theorem nr (hs:dL t) (hk:k<t.length) (h:(t.getD k bL).path=b):eP t b=some (t.getD k bL):=
 A9 hk h (fun x A e=>by
  obtain⟨i,hi,rfl⟩:=List.mem_iff_getElem.1 A;rw[Qg]at hi;have:=fY hs (show i<k by omega) hk;rw[List.getD,Qd (show i<t.length by omega)]at this;rw[List.getElem_take]at e;simp only[Option.getD_some,e,h]at this;rw[iP]at this
  cases this)
theorem MJ (a b:List UInt8):((str a).toList==(str b).toList)=decide (a=b):=by
 rw[ax,ax]
 by_cases h:a=b<;>simp[h]
theorem uT (x:NP) (p:Option Addr) (n c:Nat) (xs:List NP) (w:World) (hx:fa w x) (h:bt w p n xs) (hn:n≤1000000000) (hs:dL (xs.map NP.m)):
 Calls Tryz.prog 47 #[.agg x.cs,.slice p n c] w fun e w'=>e=.returned (.bool (ph (xs.map NP.m) x.m))∧Below w.heap.size w w':=by
 obtain⟨W,H⟩:∃W,w.alloc (.cells x.cs 52)=W:=⟨_,rfl⟩
 have G:Below w.heap.size w W:=by rw[←H];exact(Below.refl _ _).alloc (Qk _) _
 have l:ao W w.heap.size 52 x.cs:=by rw[←H];exact ao.new w _ _
 have HP:=Qh (po p n c xs x.m.ai W (h.below G) hn);have QZ:=Qh (h.below G);have HL:=Qh h.1;have ZU:=Qh (hx.below G);have z:=Qh hs;obtain⟨r,o⟩:∃r,ph (xs.map NP.m) x.m=r:=⟨_,rfl⟩
 rw[o];have M:=Qh o;have g:=DK x.m.kind 48 48 rfl;obtain⟨k,hk⟩:∃k:Int,(x.m.kind.toNat:Int)=k:=⟨_,rfl⟩
 have HX:=Qh l;have HK:=Qh hk;obtain⟨c0,c1,c2,c3,c4,c5,c6,c7,c8⟩:=eN l;simp only[Nat.zero_add]at c0 c1 c2 c3 c4 c5 c6 c7 c8;unfold NP.cs kq at H⊢;rw[hk]at H c3 g⊢;have R:=Qh G;clear G l hk hx h o hs
 go_enter Tryz.func47,Tryz.ntmps47
 by_cases A:x.m.kind=48
 ·rw[decide_eq_true A,Bool.not_true]at g
  have E:Hid (r=Me (eP (xs.map NP.m) x.m.ai) x.m):=Qh (by
   rw[←M.out];unfold ph
   rw[if_pos A])
  clear M A;go_upto_region 1 with fail;clear H;go_wp2_with fail;refine HP.out.mono ?_;rintro e J ⟨a,there,rfl,ha,V,t,I⟩;have d:=Qh (R.out.trans (I.mono R.out.size));have U:=HX.out.below I HX.out.lt;have mB:=Qh U;have fx:=Qh (QZ.out.below I);have U9:=Qh (ZU.out.below I);obtain⟨d0,d1,d2,d3,d4,d5,d6,d7,d8⟩:=eN U;simp only[Nat.zero_add]at d0 d1 d2 d3 d4 d5 d6 d7 d8;clear I U c0 c1 c2 c3 c4 c5 c6 c7 c8
  cases there with
  |false=>
   have E2:Hid (r=false):=Qh (by rw[E.out,A8 (t z.out rfl)];rfl);clear V t ha d0 d1 d2 d3 d4 d5 d6 d7 d8;go_wp2;go_ret;exact⟨by rw[E2.out];rfl,d.out⟩
  |true=>
   obtain⟨N,YO⟩:=V rfl;have VK:a<n:=by rw[Qi,HL.out]at N;exact N
   have hf:=nr z.out N YO;rw[k5]at hf;obtain⟨b1,o1,rfl,b7,b,ir⟩:=fx.out.dX VK;obtain⟨y,hy⟩:∃y,xs.getD a aN=y:=⟨_,rfl⟩
   rw[hy]at hf b ir;have B:Hid (r=(decide (y.m.kind=48)&&(decide (y.m.ai=y.m.path)&&(decide (y.m.mode=x.m.mode∧y.m.uid=x.m.uid∧y.m.gid=x.m.gid∧y.m.time=x.m.time)&&decide (y.m.body=x.m.body))))):=Qh (by rw[E.out,hf];rfl);obtain⟨W3,L⟩:∃W3,J.alloc (.cells y.cs 52)=W3:=⟨_,rfl⟩
   have D:Below J.heap.size J W3:=by rw[←L];exact(Below.refl _ _).alloc (Qk _) _
   have hY:ao W3 J.heap.size 52 y.cs:=by rw[←L];exact ao.new J _ _
   have wI:=mB.out.below D mB.out.lt;have O:=Qh (d.out.trans (D.mono d.out.size));have Va:=Qh (U9.out.below D);have Vc:=Qh (b.below D);obtain⟨y0,y1,y2,y3,y4,y5,y6,y7,y8⟩:=eN hY;obtain⟨x0,x1,x2,x3,x4,x5,x6,x7,x8⟩:=eN wI;obtain⟨z0,z1,z2,z3,z4,z5,z6,z7,z8⟩:=ir;have XR:=DJ y.m.kind 48 48 rfl;obtain⟨ky,YB⟩:∃k:Int,(y.m.kind.toNat:Int)=k:=⟨_,rfl⟩
   unfold NP.cs kq at L;rw[YB]at L XR y3 z3;simp only[Nat.zero_add]at y0 y1 y2 y3 y4 y5 y6 y7 y8 x0 x1 x2 x3 x4 x5 x6 x7 x8;have f:=MJ y.m.ai y.m.path;have e4:=fun w=>IE y.m.mode y.m.uid y.m.gid y.m.time x.m.mode x.m.uid x.m.gid x.m.time w
   have u:=Qh (Fj y.p x.p y.m.body.length y.c x.m.body.length x.c y.m.body x.m.body W3 rfl rfl Vc.out.iZ Va.out.iZ);obtain⟨q1,X⟩:∃q,decide (y.m.kind=48)=q:=⟨_,rfl⟩
   obtain⟨q2,T⟩:∃q,decide (y.m.ai=y.m.path)=q:=⟨_,rfl⟩
   obtain⟨q3,Y⟩:∃q,decide (y.m.mode=x.m.mode∧y.m.uid=x.m.uid∧y.m.gid=x.m.gid∧y.m.time=x.m.time)=q:=⟨_,rfl⟩
   obtain⟨q4,Z⟩:∃q,decide (y.m.body=x.m.body)=q:=⟨_,rfl⟩
   rw[X]at XR;rw[T]at f;simp only[Y]at e4;rw[Z]at u;rw[X,T,Y,Z]at B;clear X T Y Z V t ha N YO hf hy b7 b D hY wI YB;have aa0:(a:Int)<(n:Int):=by omega
   go_upto_region 7 with fail
   clear L d0 d1 d2 d3 d4 d5 d6 d7 d8 z0 z1 z2 z3 z4 z5 z6 z7 z8
   cases q1 with
   |false=>
    go_wp2;go_ret;exact⟨by rw[B.out];rfl,O.out⟩
   |true=>
    cases q2 with
    |false=>
     go_wp2;go_ret;exact⟨by rw[B.out];rfl,O.out⟩
    |true=>
     cases q3 with
     |false=>
      go_wp2;go_ret;exact⟨by rw[B.out];rfl,O.out⟩
     |true=>
      go_wp2_with fail
      refine u.out.mono ?_;rintro e w4 ⟨rfl,rfl⟩;go_wp2;go_ret;exact⟨by rw[B.out];rfl,O.out⟩
 ·rw[decide_eq_false A,Bool.not_false]at g
  have E:Hid (r=decide (x.m.ai=[])):=Qh (by
   rw[←M.out];unfold ph
   rw[if_neg A])
  have f:=di x.m.ai;clear M A;go_upto_region 1 with fail
  go_wp2;go_ret;exact⟨by rw[E.out,←f];rfl,R.out⟩
end fb
namespace fb
open Go.ChangeShapes Go.WideShapes Go.ChangeAt Go.RowKit Base bJ cr Bk Go.Lib
variable {t:List av}
attribute [local irreducible] wpQuiet
theorem lP (hk:k<t.length) (h:dL (t.take k)) (ay:k=0∨dF (t.getD (k - 1) bL).path (t.getD k bL).path=true):dL (t.take (k+1)):=by
 rw[List.take_succ_eq_append_getElem hk];refine List.pairwise_append.2 ⟨h,List.pairwise_singleton _ _,fun x A y hy=>?_⟩;rw[List.mem_singleton.1 hy];rcases ay with rfl|ay
 ·simp at A
 ·obtain⟨i,hi,rfl⟩:=pT A
  rw[Qg]at hi
  have e:(t.take k).getD i bL=t.getD i bL:=by
   rw[List.getD,List.getD,List.getElem?_take,if_pos (by omega)]
  have B:t.getD k bL=t[k]:=by rw[List.getD,Qd hk];rfl
  rw[e,←B];rcases Nat.lt_or_eq_of_le (show i≤k - 1 by omega)with h1|h1
  ·have:=fY h (i:=i) (j:=k - 1) h1 (by rw[Qg];omega)
   rw[e]at this
   have D:(t.take k).getD (k - 1) bL=t.getD (k - 1) bL:=by
    rw[List.getD,List.getD,List.getElem?_take,if_pos (by omega)]
   rw[D]at this;exact fP _ _ _ this ay
  ·rw[h1];exact ay
theorem je (hk:k<t.length) (h:iG t k=false):bF t=false:=by
 rw[Bool.eq_false_iff];intro A;simp only[bF,Bool.and_eq_true,List.all_eq_true,List.mem_range]at A;have:=A.2 k hk;rw[h]at this
 cases this
theorem rS (hn:t.length≤4096) (h:∀k,k<t.length→iG t k=true):bF t=true:=by
 simp only[bF,Bool.and_eq_true,List.all_eq_true,List.mem_range,decide_eq_true_eq];exact⟨hn,h⟩
def stepT (t:List av) (i:Nat):Bool:=jg (t.getD i bL)&&(decide (i=0)||dF (t.getD (i - 1) bL).path (t.getD i bL).path)
theorem fL (t:List av) (i:Nat):iG t i=(stepT t i&&ph (t.take (i+1)) (t.getD i bL)):=rfl
def j6 (w:World) (b o:Nat) (y:NP):Prop:=∀p:gw w,dW p.w' b o y
theorem xz {b o:Nat} {y:NP} (h:dW w b o y) (hb:b<w.heap.size):j6 w b o y:=fun p=>h.below hb p.bel
theorem G0 (p:Option Addr) (n c:Nat) (xs:List NP) (w:World) (h:bt w p n xs) (hc:n≤c) (hm:c≤maxLen) (hF:∀x∈xs,NH x) (hT:Path.Tabs w):
 Calls Tryz.prog 20 #[.slice p n c] w fun e w'=>e=.returned (.bool (bF (xs.map NP.m)))∧Below w.heap.size w w':=by
 unfold maxLen at hm;have HM:=Qh h;have G:=Qh h.1;have HF:=Qh hF;have HT:=Qh hT;obtain⟨r,hr⟩:∃r,bF (xs.map NP.m)=r:=⟨_,rfl⟩
 rw[hr];have V:=Qh hr;clear h hF hT hr
 go_enter Tryz.func20,Tryz.ntmps20
 by_cases OO:n≤4096
 ·have OQ:¬((4096:Int)<(n:Int)):=by omega
  go_wp2_with fail
  go_loopw [3,4,10] (fun _ _ i wr=>∃(k:Nat),k≤n∧i=.int .i64 (k:Int)∧Hid (dL ((xs.map NP.m).take k))∧Hid (∀j,j<k→iG (xs.map NP.m) j=true)∧Hid (Below w.heap.size w wr)) (fun _ _ i _=>n - (RowKit.intOf i).toNat)
  case atStart=>exact⟨0,Nat.zero_le _,rfl,Qh List.Pairwise.nil,Qh (fun j T=>absurd T (by omega)),Qh (Below.refl _ _)⟩
  case round=>
   obtain⟨k,hk,rfl,hS,hG,o⟩:=hrel
   by_cases N:k<n
   ·obtain⟨d,o1,rfl,b7,bP,ir⟩:=(HM.out.below o.out).dX N
    obtain⟨u,hu⟩:∃u,xs.getD k aN=u:=⟨_,rfl⟩
    rw[hu]at bP ir;have HU:=Qh hu;have Yr:NH u:=HF.out u (by rw[←hu];exact IM xs k (by rw[G.out];exact N));obtain⟨W,t⟩:∃W,wr.alloc (.cells u.cs 52)=W:=⟨_,rfl⟩
    have M4:Below wr.heap.size wr W:=by rw[←t];exact(Below.refl _ _).alloc (Qk _) _
    have y:ao W wr.heap.size 52 u.cs:=by rw[←t];exact ao.new wr _ _
    have H:=Qh (o.out.trans (M4.mono o.out.size));have Y:Hid (∀p:gw W,Calls Tryz.prog 46 #[.agg u.cs] p.w' fun e w'=>e=.returned (.bool (jg u.m))∧Below p.w'.heap.size p.w' w'):=Qh (fun p=>BJ u p.w' Yr ((HT.out.below H.out).below p.bel));have Z:j6 W wr.heap.size 0 u:=xz (eN y) y.lt;have X:=Qh y;have bT:=Qh (bP.below M4);have QZ:=Qh (HM.out.below H.out);have M:Hid ((xs.map NP.m).getD k bL=u.m):=Qh (by rw[k5,hu]);unfold NP.cs kq at t Y;unfold j6 dW at Z;simp only[Nat.zero_add]at Z;obtain⟨c0,c1,c2,c3,c4,c5,c6,c7,c8⟩:=ir;have mD:(k:Int)<(n:Int):=by omega
    obtain⟨q,hq⟩:∃q,jg u.m=q:=⟨_,rfl⟩
    rw[hq]at Y;have l:=Qh hq;clear hu bP M4 y hq Yr b7;go_upto_region 6 with fail;clear t c0 c1 c2 c3 c4 c5 c6 c7 c8
    cases q with
    |false=>
     have E:Hid (r=false):=Qh (by
      rw[←V.out];refine je (k:=k) (by rw[Qi,G.out];exact N) ?_;rw[fL,stepT,M.out,l.out]
      rfl)
     refine bw (by kernel_rfl) (by kernel_rfl) ?_
     repeat (quiet_step (first|(go_at_call 46;exact Calls.gH (Y.out _))))
     refine wpQuiet_nil ?_;intro U B;have D:=dK B;clear B;have F:=Qh (H.out.trans (D.mono H.out.size));clear D Z;go_wp2;go_ret;exact⟨by rw[E.out];rfl,F.out⟩
    |true=>
     by_cases R:k=0
     ·have z:Hid (stepT (xs.map NP.m) k=true):=Qh (by rw[stepT,M.out,l.out,decide_eq_true R];rfl)
      have qG:decide ((0:Int)<(k:Int))=false:=decide_eq_false (by omega);have bV:decide (0<k)=false:=decide_eq_false (by omega);have g:Hid (dL ((xs.map NP.m).take (k+1))):=Qh (lP (by rw[Qi,G.out];exact N) hS.out (.inl R));clear R;refine bw (by kernel_rfl) (by kernel_rfl) ?_
      repeat (quiet_step (first
       |(go_at_call 46;exact Calls.gH (Y.out _))))
      refine wpQuiet_nil ?_;intro U B;have D:=dK B;clear B;have J:=Qh (H.out.trans (D.mono H.out.size))
      have L:Hid (∀p:gw U,Calls Tryz.prog 47 #[.agg u.cs,.slice (some ⟨d,o1,none⟩) (k+1) c] p.w' fun e w'=>e=.returned (.bool (ph ((xs.map NP.m).take (k+1)) u.m))∧Below p.w'.heap.size p.w' w'):=Qh (fun p=>by
       have f:=D.trans (p.bel.mono D.size);have hm:=(QZ.out.below f).drop (show k+1≤n by omega);have:=uT u (some ⟨d,o1,none⟩) (k+1) c (xs.take (k+1)) p.w' (bT.out.below f) hm (by omega) (by rw[List.map_take];exact g.out);rw[List.map_take]at this
       exact this)
      obtain⟨q2,O⟩:∃q,ph ((xs.map NP.m).take (k+1)) u.m=q:=⟨_,rfl⟩
      rw[O]at L;have b:=Qh O;have I:j6 U wr.heap.size 0 u:=xz (eN (X.out.below D X.out.lt)) (Nat.lt_of_lt_of_le X.out.lt D.size);unfold NP.cs kq at L;unfold j6 dW at I;simp only[Nat.zero_add]at I;have w1:IntKind.i64.wrap ((k:Int)+1)=(k:Int)+1:=by rw[IntKind.wrap_i64];omega
      have hkc:(k:Int)+1≤(c:Int):=by omega
      have R:(0:Int)≤(k:Int)+1:=by omega
      have O9:((k:Int)+1).toNat=k+1:=by omega
      clear D Z O
      cases q2 with
      |false=>
       have E:Hid (r=false):=Qh (by
        rw[←V.out];refine je (k:=k) (by rw[Qi,G.out];exact N) ?_
        rw[fL,M.out,b.out,Bool.and_false])
       go_wp2_with fail
       refine bw (by kernel_rfl) (by kernel_rfl) ?_
       repeat (quiet_step (first
        |(go_at_call 47;exact Calls.gH (L.out _))))
       refine wpQuiet_nil ?_;intro wz B;have A:=dK B;clear B;have F:=Qh (J.out.trans (A.mono J.out.size));clear A I;go_wp2;go_ret;exact⟨by rw[E.out];rfl,F.out⟩
      |true=>
       have xP:Hid (∀j,j<k+1→iG (xs.map NP.m) j=true):=Qh (fun j T=>by
        rcases Nat.lt_succ_iff_lt_or_eq.1 T with h|rfl
        ·exact hG.out j h
        ·rw[fL,z.out,M.out,b.out];rfl)
       go_wp2_with fail
       refine bw (by kernel_rfl) (by kernel_rfl) ?_
       repeat (quiet_step (first
        |(go_at_call 47;exact Calls.gH (L.out _))))
       refine wpQuiet_nil ?_;intro wz B;have A:=dK B;clear B;have F:=Qh (J.out.trans (A.mono J.out.size));clear A I;go_wp2;go_roundw
       case rel=>exact⟨k+1,by omega,by go_num,g,xP,F⟩
       case measure=>simp[RowKit.intOf];omega
     ·have dV:k - 1<n:=by omega
      obtain⟨b2,o2,DB,bI,dz,la⟩:=QZ.out.dX dV;simp only[Option.some.injEq,Addr.mk.injEq,and_true]at DB;obtain⟨rfl,rfl⟩:=DB;obtain⟨v,hv⟩:∃v,xs.getD (k - 1) aN=v:=⟨_,rfl⟩
      rw[hv]at la;have UC:Hid ((xs.map NP.m).getD (k - 1) bL=v.m):=Qh (by rw[k5,hv]);have sV:j6 W d (o1+(k - 1)*9) v:=xz la bI;unfold j6 dW at sV;have KK:Hid (∀p:gw W,Calls Tryz.prog 45 #[.string (str v.m.path),.string (str u.m.path)] p.w' fun e w'=>e=.returned (.bool (dF v.m.path u.m.path))∧p.w'=w'):=Qh (fun p=>Path.oa v.m.path u.m.path p.w');obtain⟨lt,Pc⟩:∃x,dF v.m.path u.m.path=x:=⟨_,rfl⟩
      rw[Pc]at KK;have Ha:=Qh Pc;have qG:(0:Int)<(k:Int):=by omega
      have bV:0<k:=by omega
      have aa7:(1:Int)≤(k:Int):=by omega
      have wk:IntKind.i64.wrap ((k:Int) - 1)=(k:Int) - 1:=by rw[IntKind.wrap_i64];omega
      have wk0:(0:Int)≤(k:Int) - 1:=by omega
      have wk2:(k:Int) - 1<(n:Int):=by omega
      have wk3:((k:Int) - 1).toNat=k - 1:=by omega
      clear hv la dz bI Pc
      cases lt with
      |false=>
       have E:Hid (r=false):=Qh (by
        rw[←V.out];refine je (k:=k) (by rw[Qi,G.out];exact N) ?_;rw[fL,stepT,M.out,UC.out,Ha.out,l.out,decide_eq_false R]
        rfl)
       refine bw (by kernel_rfl) (by kernel_rfl) ?_
       repeat (quiet_step (first
        |(go_at_call 46;exact Calls.gH (Y.out _))
        |(go_at_call 45;exact Calls.kC (KK.out _))))
       refine wpQuiet_nil ?_;intro U B;have D:=dK B;clear B;have F:=Qh (H.out.trans (D.mono H.out.size));clear D Z sV;go_wp2;go_ret;exact⟨by rw[E.out];rfl,F.out⟩
      |true=>
       have z:Hid (stepT (xs.map NP.m) k=true):=Qh (by rw[stepT,M.out,UC.out,Ha.out,l.out,Bool.or_true];rfl);have g:Hid (dL ((xs.map NP.m).take (k+1))):=Qh (lP (by rw[Qi,G.out];exact N) hS.out (.inr (by rw[M.out,UC.out];exact Ha.out)));refine bw (by kernel_rfl) (by kernel_rfl) ?_
       repeat (quiet_step (first
        |(go_at_call 46;exact Calls.gH (Y.out _))
        |(go_at_call 45;exact Calls.kC (KK.out _))))
       refine wpQuiet_nil ?_;intro U B;have D:=dK B;clear B;clear sV R;have J:=Qh (H.out.trans (D.mono H.out.size))
       have L:Hid (∀p:gw U,Calls Tryz.prog 47 #[.agg u.cs,.slice (some ⟨d,o1,none⟩) (k+1) c] p.w' fun e w'=>e=.returned (.bool (ph ((xs.map NP.m).take (k+1)) u.m))∧Below p.w'.heap.size p.w' w'):=Qh (fun p=>by
        have f:=D.trans (p.bel.mono D.size);have hm:=(QZ.out.below f).drop (show k+1≤n by omega);have:=uT u (some ⟨d,o1,none⟩) (k+1) c (xs.take (k+1)) p.w' (bT.out.below f) hm (by omega) (by rw[List.map_take];exact g.out);rw[List.map_take]at this
        exact this)
       obtain⟨q2,O⟩:∃q,ph ((xs.map NP.m).take (k+1)) u.m=q:=⟨_,rfl⟩
       rw[O]at L;have b:=Qh O;have I:j6 U wr.heap.size 0 u:=xz (eN (X.out.below D X.out.lt)) (Nat.lt_of_lt_of_le X.out.lt D.size);unfold NP.cs kq at L;unfold j6 dW at I;simp only[Nat.zero_add]at I;have w1:IntKind.i64.wrap ((k:Int)+1)=(k:Int)+1:=by rw[IntKind.wrap_i64];omega
       have hkc:(k:Int)+1≤(c:Int):=by omega
       have R:(0:Int)≤(k:Int)+1:=by omega
       have O9:((k:Int)+1).toNat=k+1:=by omega
       clear D Z O
       cases q2 with
       |false=>
        have E:Hid (r=false):=Qh (by
         rw[←V.out];refine je (k:=k) (by rw[Qi,G.out];exact N) ?_
         rw[fL,M.out,b.out,Bool.and_false])
        go_wp2_with fail
        refine bw (by kernel_rfl) (by kernel_rfl) ?_
        repeat (quiet_step (first
         |(go_at_call 47;exact Calls.gH (L.out _))))
        refine wpQuiet_nil ?_;intro wz B;have A:=dK B;clear B;have F:=Qh (J.out.trans (A.mono J.out.size));clear A I;go_wp2;go_ret;exact⟨by rw[E.out];rfl,F.out⟩
       |true=>
        have xP:Hid (∀j,j<k+1→iG (xs.map NP.m) j=true):=Qh (fun j T=>by
         rcases Nat.lt_succ_iff_lt_or_eq.1 T with h|rfl
         ·exact hG.out j h
         ·rw[fL,z.out,M.out,b.out];rfl)
        go_wp2_with fail
        refine bw (by kernel_rfl) (by kernel_rfl) ?_
        repeat (quiet_step (first
         |(go_at_call 47;exact Calls.gH (L.out _))))
        refine wpQuiet_nil ?_;intro wz B;have A:=dK B;clear B;have F:=Qh (J.out.trans (A.mono J.out.size));clear A I;go_wp2;go_roundw
        case rel=>exact⟨k+1,by omega,by go_num,g,xP,F⟩
        case measure=>simp[RowKit.intOf];omega
   ·have pY:¬((k:Int)<(n:Int)):=by omega
    have E:Hid (r=true):=Qh (by
     rw[←V.out]
     exact rS (by rw[Qi,G.out];exact OO) (fun j T=>hG.out j (by rw[Qi,G.out]at T;omega)))
    go_wp2;go_ret;exact⟨by rw[E.out];rfl,o.out⟩
 ·have OQ:(4096:Int)<(n:Int):=by omega
  have E:Hid (r=false):=Qh (by
   rw[←V.out];unfold bF
   rw[Qi,G.out,decide_eq_false OO,Bool.false_and])
  go_wp2;go_ret;exact⟨by rw[E.out];rfl,Below.refl _ _⟩
end fb
namespace fb
variable {ms:List aq} {S T:St} {m:aq}
theorem rT (h:bk m=true):eh m.path=true:=by
 unfold bk at h;simp only[Bool.and_eq_true]at h;exact h.1.1.1.1
theorem LH (h:bk m=true) (hp:eh p=true):bk ⟨p,m.target,m.kind,m.mode,m.uid,m.gid,m.time,m.body⟩=true:=by
 unfold bk at h⊢;simp only[Bool.and_eq_true]at h⊢;exact⟨⟨⟨⟨hp,h.1.1.1.2⟩,h.1.1.2⟩,h.1.2⟩,h.2⟩
theorem Dn (hk:k<ms.length):ms.getD k bQ∈ms:=by
 rw[List.getD,Qd hk];exact List.getElem_mem hk
theorem Dp (hk:k<T.length):T.getD k ([],0)∈T:=by
 rw[List.getD,Qd hk];exact List.getElem_mem hk
def Oh (ms:List aq) (S:St):Prop:=∀e∈S,e.2<ms.length∧(ms.getD e.2 bQ).kind≠49∧eh e.1=true
theorem Oh.put (h:Oh ms S) (hn:n<ms.length) (hk:(ms.getD n bQ).kind≠49) (hp:eh p=true):Oh ms (iW S p n):=by
 intro e he;unfold iW at he;rw[List.mem_append,List.mem_filter]at he;rcases he with he|he
 ·exact h e he.1
 ·rw[List.mem_singleton.1 he]
  exact⟨hn,hk,hp⟩
theorem JB (hg:∀m∈ms,bk m=true) {S':St} (hi:i<ms.length) (h:iM ms S i=some S') (hS:Oh ms S):Oh ms S':=by
 have A:=rT (hg _ (Dn hi));unfold iM at h
 dsimp only at h
 split at h
 ·split at h
  ·cases h
  ·next n E=>
   split at h
   ·next D=>
    cases h
    refine hS.put (H6.look (N:=ms.length) (fun e he=>(hS e he).1) E) (by rw[D];decide) A
   ·cases h
 ·next B=>cases h;exact hS.put hi B A
theorem uX {ms:List aq} (hg:∀m∈ms,bk m=true):∀k S,k≤ms.length→cR ms k=.ok S→Oh ms S
 |0,S,_,h=>by cases h;intro e he;cases he
 |k+1,S,hk,h=>by
  unfold cR at h;split at h
  ·cases h
  ·next A B=>
   split at h
   ·cases h
   ·next D h1=>cases h;exact JB hg (by omega) h1 (uX hg k A (by omega) B)
theorem pA (ms:List aq) (S:St) (hk:k<(ef S).length):(dQ ms S).getD k bL=ft ms (ef S) ((ef S).getD k ([],0)):=by
 unfold dQ;rw[List.getD,List.getElem?_map,List.getD,Qd hk];rfl
theorem zL (ms:List aq) (S:St):(dQ ms S).length=S.length:=by
 unfold dQ;rw[Qi,(ga S).length_eq]
theorem CR (ms:List aq) (h:gv S):dL (dQ ms S):=by
 unfold dL dQ;rw[List.pairwise_map];exact kD h
theorem IK (hk:k<T.length):∃f,f≤k∧(T.getD f ([],0)).2=(T.getD k ([],0)).2∧iN T (T.getD k ([],0)).2=(T.getD f ([],0)).1:=by
 cases h:dy T (T.getD k ([],0)).2 with
 |none=>
  unfold dy at h;rw[List.findIdx?_eq_none_iff]at h;have:=h _ (Dp hk);simp at this
 |some f=>
  have hl:=qc h;unfold dy at h;rw[List.findIdx?_eq_some_iff_getElem]at h;obtain⟨hf,h1,E⟩:=h;have B:T.getD f ([],0)=T[f]:=by rw[List.getD,Qd hf];rfl
  refine⟨f,?_,?_,hl⟩
  ·apply Nat.le_of_not_lt
   intro A;have:=E k A;have D:T.getD k ([],0)=T[k]:=by rw[List.getD,Qd hk];rfl
   rw[D]at this;simp at this
  ·rw[B]
   simpa using h1
theorem CQ (hg:∀m∈ms,bk m=true) (hA:gv S) (hS:Oh ms S) (hn:S.length≤4096):bF (dQ ms S)=true:=by
 have hlen:=zL ms S;have Z:(ef S).length=S.length:=(ga S).length_eq;have Y:=CR ms hA;refine rS (by omega) fun k hk=>?_
 have A:k<(ef S).length:=by omega
 have hIn:(ef S).getD k ([],0)∈S:=(ga S).mem_iff.1 (Dp A);obtain⟨h1,M,N⟩:=hS _ hIn;have J:=hg _ (Dn h1);unfold iG
 dsimp only
 rw[pA ms S A,Bool.and_eq_true,Bool.and_eq_true];refine⟨⟨?_,?_⟩,?_⟩
 ·unfold jg
  rw[Bool.and_eq_true];exact⟨decide_eq_true M,LH J N⟩
 ·rcases Nat.eq_zero_or_pos k with h0|h0
  ·rw[h0];rfl
  ·rw[pA ms S (by omega),Bool.or_eq_true]
   right;have:=List.pairwise_iff_getElem.1 (kD hA) (k - 1) k (by omega) A (by omega);have W:(ef S).getD k ([],0)=(ef S)[k]:=by rw[List.getD,Qd A];rfl
   have X:(ef S).getD (k - 1) ([],0)=(ef S)[k - 1]'(by omega):=by rw[List.getD,Qd (by omega)];rfl
   rw[W,X];exact this
 ·obtain⟨T,G⟩:∃T,ef S=T:=⟨_,rfl⟩
  rw[G]at A hIn h1 M N J⊢;obtain⟨e,he⟩:∃e,T.getD k ([],0)=e:=⟨_,rfl⟩
  obtain⟨f,c,E,I⟩:=IK A;rw[he]at E I⊢;unfold ph;split
  ·next D=>
   have B:(ms.getD e.2 bQ).kind=48:=D
   have O:(ft ms T e).ai=iN T e.2:=by
    show(if(ms.getD e.2 bQ).kind=48 then iN T e.2 else[])=_;rw[if_pos B]
   have H:(dQ ms S).getD f bL=ft ms T (T.getD f ([],0)):=by
    have:=pA ms S (k:=f) (by rw[G];omega);rw[G]at this;exact this
   have V:eP ((dQ ms S).take (k+1)) (ft ms T e).ai=some (ft ms T (T.getD f ([],0))):=by
    rw[O,I];have U:f<((dQ ms S).take (k+1)).length:=by rw[Qg];omega
    have L:((dQ ms S).take (k+1)).getD f bL=ft ms T (T.getD f ([],0)):=by
     rw[←H,List.getD,List.getD,List.getElem?_take,if_pos (by omega)]
    have:=nr (t:=(dQ ms S).take (k+1)) (b:=(T.getD f ([],0)).1) (k:=f) (List.Pairwise.sublist (List.take_sublist _ _) Y) U (by rw[L];rfl);rw[this,L]
   rw[V]
   have R:(ft ms T (T.getD f ([],0))).ai=(T.getD f ([],0)).1:=by
    show(if(ms.getD (T.getD f ([],0)).2 bQ).kind=48 then iN T (T.getD f ([],0)).2 else[])=_;rw[E,if_pos B,I]
   have hm:∀(a:av) (b:av),a=ft ms T (T.getD f ([],0))→b=ft ms T e→a.kind=b.kind∧a.mode=b.mode∧a.uid=b.uid∧a.gid=b.gid∧a.time=b.time∧a.body=b.body:=by
    rintro a b rfl rfl;unfold ft fE;rw[E];exact⟨rfl,rfl,rfl,rfl,rfl,rfl⟩
   obtain⟨m1,m2,m3,m4,m5,m6⟩:=hm _ _ rfl rfl;unfold Me;simp only[Bool.and_eq_true,decide_eq_true_eq];exact⟨m1.trans D,R,⟨m2,m3,m4,m5⟩,m6⟩
  ·next D=>
   have B:¬(ms.getD e.2 bQ).kind=48:=D
   have:(ft ms T e).ai=[]:=by
    show(if(ms.getD e.2 bQ).kind=48 then iN T e.2 else[])=_;rw[if_neg B]
   rw[this];rfl
theorem yx (ms:List aq):(∃i,eM ms=some i∧ej ms=([],1,i))∨(eM ms=none∧∃i,cR ms ms.length=.error i∧ej ms=([],7,i))∨(eM ms=none∧∃S,cR ms ms.length=.ok S∧ej ms=(dQ ms S,0,0)):=by
 cases h:eM ms with
 |some i=>exact .inl ⟨i,rfl,uJ h⟩
 |none=>
  right
  cases A:cR ms ms.length with
  |error i=>exact .inl ⟨rfl,i,rfl,rO h A⟩
  |ok S=>exact .inr ⟨rfl,S,rfl,rP h A⟩
theorem Be (hn:ms.length≤4096) (h:(ej ms).2.1=0):bF (ej ms).1=true:=by
 rcases yx ms with⟨i,_,e⟩|⟨_,i,_,e⟩|⟨hb,S,hS,e⟩
 ·rw[e]at h;cases h
 ·rw[e]at h;cases h
 ·rw[e]
  have A:=EZ hb;exact CQ A (ly _ _ _ hS) (uX A _ _ (Qk _) hS) (Nat.le_trans (sr _ _ _ hS).len hn)
end fb
namespace tN
open fb
def pX (x:av) (p:List UInt8):aq:=⟨x.path,p,49,x.mode,x.uid,x.gid,x.time,[]⟩
def nodeAt (t:List av) (p:List UInt8):av:=(eP t p).getD bL
structure Vf where
 Uk:List (List UInt8 × List UInt8)
 out:List aq
def BZ (t:List av) (s:Vf) (p:List UInt8):Vf:=
 let x:=nodeAt t p
 if x.kind=48 then
  match s.Uk.find? (fun e=>e.1==x.ai)with
  |some e=>⟨s.Uk,s.out++[pX x e.2]⟩
  |none=>⟨s.Uk++[(x.ai,x.path)],s.out++[x.mem]⟩
 else⟨s.Uk,s.out++[x.mem]⟩
def JK (t:List av) (order:List (List UInt8)):Vf:=order.foldl (BZ t) ⟨[],[]⟩
def dC (t:List av) (order:List (List UInt8)):List aq:=(JK t order).out
theorem F5 (t:List av) (os:List (List UInt8)) (p:List UInt8):JK t (os++[p])=BZ t (JK t os) p:=by
 unfold JK;rw[List.foldl_append];rfl
def ck (t:List av) (os:List (List UInt8)):Prop:=os.Perm (t.map (·.path))
def aK (t:List av) (os:List (List UInt8)) (i:Nat):Nat:=
 if(nodeAt t (os.getD i [])).kind=48 then
  ((List.range (i+1)).find? fun j=>decide ((nodeAt t (os.getD j [])).kind=48)&&decide ((nodeAt t (os.getD j [])).ai=(nodeAt t (os.getD i [])).ai)).getD i
 else i
section
variable {t:List av} {os:List (List UInt8)}
def xV (t:List av) (os:List (List UInt8)) (i j:Nat):Prop:=(nodeAt t (os.getD j [])).kind=48∧(nodeAt t (os.getD i [])).kind=48∧(nodeAt t (os.getD j [])).ai=(nodeAt t (os.getD i [])).ai
theorem gF (h:(nodeAt t (os.getD i [])).kind=48):aK t os i≤i∧xV t os i (aK t os i)∧∀j,j<aK t os i→¬xV t os i j:=by
 unfold aK;rw[if_pos h]
 cases hf:(List.range (i+1)).find? (fun j=>decide ((nodeAt t (os.getD j [])).kind=48)&&decide ((nodeAt t (os.getD j [])).ai=(nodeAt t (os.getD i [])).ai))with
 |none=>
  have:=List.find?_eq_none.1 hf i (List.mem_range.2 (Nat.lt_succ_self _));rw[decide_eq_true h,decide_eq_true rfl]at this;exact absurd rfl this
 |some j=>
  obtain⟨h1,k,hk,e,B⟩:=List.find?_eq_some_iff_getElem.1 hf;rw[List.getElem_range]at e;rw[List.length_range]at hk;subst e;simp only[Bool.and_eq_true,decide_eq_true_eq]at h1;refine⟨by rw[Option.getD_some];omega,⟨by rw[Option.getD_some];exact h1.1,h,by rw[Option.getD_some];exact h1.2⟩,fun j A hs=>?_⟩;rw[Option.getD_some]at A;have:=B j A;rw[List.getElem_range]at this;simp only[Bool.not_eq_true',Bool.and_eq_false_iff,decide_eq_false_iff_not]at this;rcases this with h|h
  ·exact h hs.1
  ·exact h hs.2.2
theorem eV (h:(nodeAt t (os.getD i [])).kind≠48):aK t os i=i:=by
 unfold aK;rw[if_neg h]
theorem Cx (i:Nat):aK t os i≤i:=by
 by_cases h:(nodeAt t (os.getD i [])).kind=48
 ·exact(gF h).1
 ·rw[eV h];exact Qk _
theorem tg {j:Nat} (h:xV t os i j):aK t os i=aK t os j:=by
 obtain⟨D,a2,a3⟩:=gF (t:=t) (os:=os) (i:=i) h.2.1;obtain⟨E,A,B⟩:=gF (t:=t) (os:=os) (i:=j) h.1;rcases Nat.lt_trichotomy (aK t os i) (aK t os j)with ay|he|ay
 ·exact absurd ⟨a2.1,h.1,a2.2.2.trans h.2.2.symm⟩ (B _ ay)
 ·exact he
 ·exact absurd ⟨A.1,h.2.1,A.2.2.trans h.2.2⟩ (a3 _ ay)
theorem ri (i:Nat):aK t os (aK t os i)=aK t os i:=by
 by_cases h:(nodeAt t (os.getD i [])).kind=48
 ·exact(tg (gF h).2.1).symm
 ·rw[eV h,eV h]
theorem oH (i:Nat):(nodeAt t (os.getD (aK t os i) [])).kind=(nodeAt t (os.getD i [])).kind:=by
 by_cases h:(nodeAt t (os.getD i [])).kind=48
 ·rw[(gF h).2.1.1,h]
 ·rw[eV h]
def du (t:List av) (os:List (List UInt8)) (i:Nat):aq:=
 if aK t os i=i then(nodeAt t (os.getD i [])).mem else pX (nodeAt t (os.getD i [])) (os.getD (aK t os i) [])
end
section
variable {t:List av} {os:List (List UInt8)}
theorem ji (h:p∈t.map (·.path)):(nodeAt t p).path=p∧nodeAt t p∈t:=by
 obtain⟨x,B,rfl⟩:=List.mem_map.1 h;unfold nodeAt
 cases hf:eP t x.path with
 |none=>
  unfold eP at hf;have:=List.find?_eq_none.1 hf x B;simp at this
 |some y=>
  unfold eP at hf;have D:=List.find?_some hf;have A:(y.path==x.path)=true:=D;exact⟨by simpa using A,List.mem_of_find?_eq_some hf⟩
def Dl (t:List av) (os:List (List UInt8)) (n:Nat):List (List UInt8 × List UInt8):=
 ((List.range n).filter fun i=>decide ((nodeAt t (os.getD i [])).kind=48)&&decide (aK t os i=i)).map fun i=>((nodeAt t (os.getD i [])).ai,(nodeAt t (os.getD i [])).path)
theorem DM (hp:∀p∈os,p∈t.map (·.path)):∀n,n≤os.length→JK t (os.take n)=⟨Dl t os n,(List.range n).map (du t os)⟩
 |0,_=>rfl
 |n+1,h=>by
  have V:=DM hp n (by omega);have H:n<os.length:=by omega
  have I:os.getD n []=os[n]:=by rw[List.getD,Qd H];rfl
  have b:(nodeAt t (os.getD n [])).path=os.getD n []:=(ji (hp _ (by rw[I];exact List.getElem_mem H))).1;rw[List.take_succ_eq_append_getElem H,F5,V,←I];unfold BZ
  dsimp only
  rw[List.range_succ,List.map_append];unfold Dl;rw[List.range_succ,List.filter_append,List.map_append]
  by_cases hk:(nodeAt t (os.getD n [])).kind=48
  ·rw[if_pos hk]
   obtain⟨c,J,Z⟩:=gF (t:=t) (os:=os) (i:=n) hk
   by_cases D:aK t os n=n
   ·have M:(((List.range n).filter fun i=>decide ((nodeAt t (os.getD i [])).kind=48)&&decide (aK t os i=i)).map fun i=>((nodeAt t (os.getD i [])).ai,(nodeAt t (os.getD i [])).path)).find? (fun e=>e.1==(nodeAt t (os.getD n [])).ai)=none:=by
     rw[List.find?_eq_none];intro e he;obtain⟨i,hi,rfl⟩:=List.mem_map.1 he;rw[List.mem_filter,List.mem_range]at hi;obtain⟨R,A⟩:=hi;simp only[Bool.and_eq_true,decide_eq_true_eq]at A;intro hc;have L:(nodeAt t (os.getD i [])).ai=(nodeAt t (os.getD n [])).ai:=by simpa using hc
     exact Z i (by omega) ⟨A.1,hk,L⟩
    rw[M]
    dsimp only
    have hm:du t os n=(nodeAt t (os.getD n [])).mem:=by unfold du;rw[if_pos D]
    have B:[n].filter (fun i=>decide ((nodeAt t (os.getD i [])).kind=48)&&decide (aK t os i=i))=[n]:=by
     rw[List.filter_cons_of_pos (by rw[decide_eq_true hk,decide_eq_true D];rfl),List.filter_nil]
    rw[B,List.map_cons,List.map_nil,List.map_cons,List.map_nil,hm]
   ·have T:aK t os n<n:=by omega
    have N:∃e,(((List.range n).filter fun i=>decide ((nodeAt t (os.getD i [])).kind=48)&&decide (aK t os i=i)).map fun i=>((nodeAt t (os.getD i [])).ai,(nodeAt t (os.getD i [])).path)).find? (fun e=>e.1==(nodeAt t (os.getD n [])).ai)=some e∧e.2=os.getD (aK t os n) []:=by
     cases hf:(((List.range n).filter fun i=>decide ((nodeAt t (os.getD i [])).kind=48)&&decide (aK t os i=i)).map fun i=>((nodeAt t (os.getD i [])).ai,(nodeAt t (os.getD i [])).path)).find? (fun e=>e.1==(nodeAt t (os.getD n [])).ai)with
     |none=>
      exfalso
      have Y:((nodeAt t (os.getD (aK t os n) [])).ai,(nodeAt t (os.getD (aK t os n) [])).path)∈(((List.range n).filter fun i=>decide ((nodeAt t (os.getD i [])).kind=48)&&decide (aK t os i=i)).map fun i=>((nodeAt t (os.getD i [])).ai,(nodeAt t (os.getD i [])).path)):=
       List.mem_map.2 ⟨aK t os n,List.mem_filter.2 ⟨List.mem_range.2 T,by rw[decide_eq_true J.1,decide_eq_true (ri n)];rfl⟩,rfl⟩
      have:=List.find?_eq_none.1 hf _ Y;apply this;show((nodeAt t (os.getD (aK t os n) [])).ai==(nodeAt t (os.getD n [])).ai)=true;rw[J.2.2];exact beq_self_eq_true _
     |some e=>
      have h1:=List.mem_of_find?_eq_some hf;have X:=List.find?_some hf;have U:(e.1==(nodeAt t (os.getD n [])).ai)=true:=X;obtain⟨i,hi,rfl⟩:=List.mem_map.1 h1;rw[List.mem_filter,List.mem_range]at hi;obtain⟨R,A⟩:=hi;simp only[Bool.and_eq_true,decide_eq_true_eq]at A;have hl:(nodeAt t (os.getD i [])).ai=(nodeAt t (os.getD n [])).ai:=by simpa using U
      have hs:xV t os n i:=⟨A.1,hk,hl⟩
      refine⟨_,rfl,?_⟩;show(nodeAt t (os.getD i [])).path=_;have W:aK t os n=i:=(tg hs).trans A.2;rw[W];have G:os.getD i []=os[i]'(by omega):=by rw[List.getD,Qd (by omega)];rfl
      exact(ji (hp _ (by rw[G];exact List.getElem_mem _))).1
    obtain⟨e,O,E⟩:=N;rw[O]
    dsimp only
    have hm:du t os n=pX (nodeAt t (os.getD n [])) e.2:=by unfold du;rw[if_neg D,E]
    have B:[n].filter (fun i=>decide ((nodeAt t (os.getD i [])).kind=48)&&decide (aK t os i=i))=[]:=by
     rw[List.filter_cons_of_neg (by rw[decide_eq_false D];simp),List.filter_nil]
    rw[B,List.map_nil,List.append_nil,List.map_cons,List.map_nil,hm]
  ·rw[if_neg hk]
   have hm:du t os n=(nodeAt t (os.getD n [])).mem:=by unfold du;rw[if_pos (eV hk)]
   have B:[n].filter (fun i=>decide ((nodeAt t (os.getD i [])).kind=48)&&decide (aK t os i=i))=[]:=by
    rw[List.filter_cons_of_neg (by rw[decide_eq_false hk];simp),List.filter_nil]
   rw[B,List.map_nil,List.append_nil,List.map_cons,List.map_nil,hm]
theorem pj (hp:∀p∈os,p∈t.map (·.path)):dC t os=(List.range os.length).map (du t os):=by
 have:=DM hp os.length (Qk _);rw[List.take_of_length_le (Qk _)]at this;unfold dC;rw[this]
end
end tN
namespace fb
open Go.ChangeShapes Go.WideShapes Go.ChangeAt Go.RowKit Base bJ cr Bk Block Go.Lib
def il (w:World) (n:Nat) (bs:List UInt8) (e:Ending) (w':World):Prop:=
 ∃p c,e=.returned (.slice p n c)∧n≤c∧c≤maxLen∧cj w' p n bs∧(∀x,p=some x→w.heap.size≤x.block)∧Below w.heap.size w w'
theorem jN (p:Option Addr) (n c:Nat) (bs:List UInt8) (w:World) (h:cj w p n bs) (hl:bs.length=n) (hn:n≤140737488351232):
 Calls Tryz.prog 49 #[.slice p n c] w (il w n bs):=by
 obtain⟨i0,hi,T,R,O⟩:=info_parts lx;have U:=Qh hi;have Y:=Qh T;have X:=Qh R;have Z:=Qh O;have A:=Qh h;have B:=Qh hl;have d:∀w,(binOp .eql 26 (.slice p n c) (.slice none 0 0)).run Tryz.prog w=.ok (.bool p.isNone) w:=fun w=>Lib.run_eql_slice_nil w 26 5 p n c 0 0 Tryz.underlying26
 clear hi T R O h hl
 go_enter Tryz.func49,Tryz.ntmps49
 cases p with
 |none=>
  have h0:n=0:=by
   rcases Nat.eq_zero_or_pos n with h0|h0
   ·exact h0
   ·obtain⟨_,_,he,_⟩:=A.out h0
    cases he
  subst h0;go_wp2;go_ret;have V:bs=[]:=List.eq_nil_of_length_eq_zero B.out;subst V;exact⟨none,0,rfl,Qk _,by decide,cj.none_ _ _,(fun x h=>by cases h),Below.refl _ _⟩
 |some a=>
  go_wp2_with (at_builtin;refine j7 rfl _ _ 26 rfl w.heap.size 5 i0 Tryz.underlying26 U.out Y.out X.out Z.out _ 0 [] rfl (World.ownsRow_made w #[] 0 (Qk _) (by decide) rfl) (some a) n c bs rfl (A.out.alloc _) B.out ?d2 ?d3 ?_)
  case d2=>omega
  case d3=>simp
  intro v2 w2 L M;have D:eu w2 w.heap.size v2 n bs:=by simpa [eu]using L
  have N:Kept af w w2:=(((Kept.refl af w).alloc _)).grown M (by intro k hk;simp[Value.ownBlock]at hk;omega);have E:Below w.heap.size w w2:=N.below (Qk _) (fun _ h=>h.elim);obtain⟨b,c2,rfl,H,I,J,_,G⟩:=D.slice;have P:=Qh (And.intro H (And.intro I (And.intro J (And.intro G E))));clear L M D N E H I J G;go_wp2;go_ret;exact⟨b,c2,rfl,P.out.1,P.out.2.1,P.out.2.2.1,fun x W=>(P.out.2.2.2.1 x W).1,P.out.2.2.2.2⟩
theorem ee {t:List av} (h:bF t=true):dL t:=by
 simp only[bF,Bool.and_eq_true,List.all_eq_true,List.mem_range]at h
 have key:∀k,k≤t.length→dL (t.take k):=fun k=>by
  induction k with
  |zero=>exact fun _=>List.Pairwise.nil
  |succ k ih=>
   intro hk;have:=h.2 k (by omega);rw[fL,Bool.and_eq_true,stepT,Bool.and_eq_true,Bool.or_eq_true]at this;refine lP (by omega) (ih (by omega)) ?_;rcases this.1.2 with h1|h1
   ·exact .inl (of_decide_eq_true h1)
   ·exact .inr h1
 have:=key t.length (Qk _)
 rwa [List.take_length]at this
end fb
namespace tN
open fb
section
variable {t:List av} {os:List (List UInt8)}
theorem pW (hg:bF t=true) (hk:k<t.length):iG t k=true:=by
 unfold bF at hg;simp only[Bool.and_eq_true,List.all_eq_true,List.mem_range]at hg;exact hg.2 k hk
theorem lZ (hk:k<t.length):t.getD k bL=t[k]:=by rw[List.getD,Qd hk];rfl
theorem dJ (hg:bF t=true) {x:av} (hx:x∈t):x.kind≠49∧bk x.mem=true∧(x.kind≠48→x.ai=[]):=by
 obtain⟨k,hk,rfl⟩:=List.mem_iff_getElem.1 hx;have h:=pW hg hk;unfold iG jg at h
 dsimp only at h
 rw[lZ hk]at h;simp only[Bool.and_eq_true,decide_eq_true_eq]at h;refine⟨h.1.1.1,h.1.1.2,fun B=>?_⟩;have A:=h.2;unfold ph at A;rw[if_neg B]at A;exact of_decide_eq_true A
theorem jj (hg:bF t=true) {x:av} (hx:x∈t):nodeAt t x.path=x:=by
 obtain⟨k,hk,rfl⟩:=List.mem_iff_getElem.1 hx;unfold nodeAt;rw[nr (ee hg) hk (by rw[lZ hk]),Option.getD_some,lZ hk]
theorem iD (hg:bF t=true) {x:av} (hx:x∈t) (fy:x.kind=48):∃y∈t,y.path=x.ai∧y.kind=48∧y.ai=y.path∧(y.mode=x.mode∧y.uid=x.uid∧y.gid=x.gid∧y.time=x.time)∧y.body=x.body∧(y=x∨dF y.path x.path=true):=by
 obtain⟨k,hk,rfl⟩:=List.mem_iff_getElem.1 hx;have h:=pW hg hk;unfold iG at h
 dsimp only at h
 rw[lZ hk]at h;rw[Bool.and_eq_true]at h;have A:=h.2;unfold ph at A;rw[if_pos fy]at A
 cases hf:eP (t.take (k+1)) t[k].ai with
 |none=>rw[hf]at A;cases A
 |some y=>
  rw[hf]at A;unfold Me at A;simp only[Bool.and_eq_true,decide_eq_true_eq]at A;unfold eP at hf;have hy:=List.mem_of_find?_eq_some hf;have B:=List.find?_some hf;have H:(y.path==t[k].ai)=true:=B;obtain⟨j,G,e⟩:=List.mem_iff_getElem.1 hy;rw[Qg]at G;rw[List.getElem_take]at e;refine⟨y,List.mem_of_mem_take hy,by simpa using H,A.1,A.2.1,A.2.2.1,A.2.2.2,?_⟩;rcases Nat.lt_or_ge j k with E|KR
  ·right
   have:=fY (ee hg) E hk;rw[lZ hk,lZ (show j<t.length by omega),e]at this;exact this
  ·left
   have D:j=k:=by omega
   subst D;exact e.symm
theorem pS {m:aq} (h:bk m=true) (hk:m.kind=48):m.target=[]:=by
 unfold bk at h;simp only[Bool.and_eq_true]at h;have A:=h.2;rw[if_pos (.inl hk)]at A
 simpa using A
theorem AU (hg:bF t=true) {x y:av} (hx:x∈t) (hy:y∈t) (h1:x.kind=48) (h2:y.kind=48) (hl:y.ai=x.ai):x=fE x.path y.mem x.ai:=by
 obtain⟨a,H,D,a2,a3,a4,a5,_⟩:=iD hg hx h1;obtain⟨b,I,E,J,L,A,G,_⟩:=iD hg hy h2;have B:a=b:=by rw[←jj hg H,←jj hg I,D,E,hl]
 subst B;have t1:=pS (dJ hg hx).2.1 h1;have t2:=pS (dJ hg hy).2.1 h2
 cases x
 cases y
 simp only[av.mem]at*;simp only[fE,av.mk.injEq];refine⟨trivial,t1.trans t2.symm,trivial,h1.trans h2.symm,?_,?_,?_,?_,?_⟩
 ·exact a4.1.symm.trans A.1
 ·exact a4.2.1.symm.trans A.2.1
 ·exact a4.2.2.1.symm.trans A.2.2.1
 ·exact a4.2.2.2.symm.trans A.2.2.2
 ·exact a5.symm.trans G
theorem lH (hg:bF t=true) (ho:ck t os):os.Nodup:=by
 refine ho.nodup_iff.2 ?_;unfold List.Nodup;rw[List.pairwise_map];exact(ee hg).imp fun h=>sE h
theorem mi (ho:ck t os):∀p∈os,p∈t.map (·.path):=fun p A=>ho.mem_iff.1 A
theorem ix (ho:ck t os) (hi:i<os.length):nodeAt t (os.getD i [])∈t∧(nodeAt t (os.getD i [])).path=os.getD i []:=by
 have h:os.getD i []∈t.map (·.path):=by
  refine mi ho _ ?_;rw[List.getD,Qd hi];exact List.getElem_mem hi
 exact⟨(ji h).2,(ji h).1⟩
theorem ni (ho:ck t os):(dC t os).length=os.length:=by rw[pj (mi ho)];simp
theorem km (ho:ck t os) (hi:i<os.length):(dC t os).getD i bQ=du t os i:=by
 rw[pj (mi ho),List.getD,List.getElem?_map,List.getElem?_range hi];rfl
theorem FC {x:av} (h:bk x.mem=true) (hp:eh p=true):bk (pX x p)=true:=by
 unfold bk at h⊢;simp only[Bool.and_eq_true]at h⊢;refine⟨⟨⟨⟨h.1.1.1.1,h.1.1.1.2⟩,decide_eq_true (Nat.zero_le _)⟩,by show((49:UInt8)==48||([]:List UInt8)==[])=true;decide⟩,?_⟩;show(if(49:UInt8)=48∨(49:UInt8)=53 then p==[]else if(49:UInt8)=49 then eh p else if(49:UInt8)=50 then _ else false)=true;rw[if_neg (by decide),if_pos rfl];exact hp
theorem B0 (hg:bF t=true) (ho:ck t os) (hi:i<os.length):bk (du t os i)=true:=by
 have B:=ix ho hi;unfold du;split
 ·exact(dJ hg B.1).2.1
 ·have A:=ix ho (show aK t os i<os.length from Nat.lt_of_le_of_lt (Cx i) hi)
  refine FC (dJ hg B.1).2.1 ?_;rw[←A.2];exact rT (dJ hg A.1).2.1
theorem sB (hg:bF t=true) (ho:ck t os):∀m∈dC t os,bk m=true:=fun m hm=>by
 rw[pj (mi ho)]at hm;obtain⟨i,hi,rfl⟩:=List.mem_map.1 hm;exact B0 hg ho (List.mem_range.1 hi)
def Kr (t:List av) (os:List (List UInt8)) (k:Nat):St:=(List.range k).map fun i=>(os.getD i [],aK t os i)
theorem vD (hn:os.Nodup) (hk:k≤os.length):gv (Kr t os k):=by
 unfold gv Kr;rw[List.map_map];unfold List.Nodup;rw[List.pairwise_iff_getElem];intro i j hi A B;rw[Qi,List.length_range]at hi A;rw[List.getElem_map,List.getElem_map,List.getElem_range,List.getElem_range];have:=(List.pairwise_iff_getElem.1 hn) i j (by omega) (by omega) B;show os.getD i []≠os.getD j [];rw[List.getD,List.getD,Qd (by omega),Qd (by omega)];exact this
theorem D8 (hn:os.Nodup) (hk:k<os.length):iW (Kr t os k) (os.getD k []) (aK t os k)=Kr t os (k+1):=by
 unfold iW Kr;rw[List.range_succ,List.map_append]
 congr 1
 refine List.filter_eq_self.2 fun e he=>?_
 obtain⟨i,hi,rfl⟩:=List.mem_map.1 he;rw[List.mem_range]at hi;have:=(List.pairwise_iff_getElem.1 hn) i k (by omega) (by omega) hi
 have A:os.getD i []≠os.getD k []:=by
  rw[List.getD,List.getD,Qd (by omega),Qd (by omega)];exact this
 simpa using A
theorem sC (hg:bF t=true) (ho:ck t os):∀k,k≤os.length→cR (dC t os) k=.ok (Kr t os k)
 |0,_=>rfl
 |k+1,hk=>by
  have D:=lH hg ho;have A:k<os.length:=by omega
  have E:=ix ho A;refine sv (sC hg ho k (by omega)) ?_;unfold iM
  dsimp only
  rw[km ho A]
  by_cases B:aK t os k=k
  ·have hm:du t os k=(nodeAt t (os.getD k [])).mem:=by unfold du;rw[if_pos B]
   rw[hm,if_neg (show ¬(nodeAt t (os.getD k [])).mem.kind=49 from(dJ hg E.1).1)];have:=D8 (t:=t) D A;rw[B]at this;show some (iW _ (nodeAt t (os.getD k [])).path k)=_;rw[E.2,this]
  ·have G:aK t os k<k:=by have:=Cx (t:=t) (os:=os) k;omega
   have hm:du t os k=pX (nodeAt t (os.getD k [])) (os.getD (aK t os k) []):=by unfold du;rw[if_neg B]
   have I:(nodeAt t (os.getD k [])).kind=48:=by
    by_cases h:(nodeAt t (os.getD k [])).kind=48
    ·exact h
    ·exact absurd (eV h) B
   rw[hm,if_pos (show(pX (nodeAt t (os.getD k [])) (os.getD (aK t os k) [])).kind=49 from rfl)]
   have hl:fb.look (Kr t os k) (pX (nodeAt t (os.getD k [])) (os.getD (aK t os k) [])).target=some (aK t os k):=by
    have J:(os.getD (aK t os k) [],aK t os (aK t os k))∈Kr t os k:=List.mem_map.2 ⟨aK t os k,List.mem_range.2 G,rfl⟩;have:=yW (vD D (by omega)) J;rw[ri]at this;exact this
   rw[hl]
   dsimp only
   have H:((dC t os).getD (aK t os k) bQ).kind=48:=by
    rw[km ho (by omega)];have:du t os (aK t os k)=(nodeAt t (os.getD (aK t os k) [])).mem:=by unfold du;rw[if_pos (ri k)]
    rw[this];exact(oH k).trans I
   rw[if_pos H];show some (iW _ (nodeAt t (os.getD k [])).path (aK t os k))=_;rw[E.2,D8 D A]
theorem yX {a b:List (List UInt8)} (ha:a.Pairwise fun x y=>dF x y=true) (hb:b.Pairwise fun x y=>dF x y=true) (h:a.Perm b):a=b:=
 List.Perm.eq_of_pairwise (fun x y _ _ (h1:dF x y=true) (h2:dF y x=true)=>by rw[oe h1]at h2;cases h2) ha hb h
theorem BW (hg:bF t=true) (ho:ck t os):ej (dC t os)=(t,0,0):=by
 have hn:=lH hg ho;have hS:=sC hg ho os.length (Qk _);have hA:=vD (t:=t) hn (Qk _);have e:=rP (rE (sB hg ho)) (by rw[ni ho];exact hS);rw[e]
 congr 1
 obtain⟨T,N⟩:∃T,ef (Kr t os os.length)=T:=⟨_,rfl⟩
 have M:T.Perm (Kr t os os.length):=by rw[←N];exact ga _
 have g:De T:=by rw[←N];exact kD hA
 have u:∀a∈T,∃i,i<os.length∧a=(os.getD i [],aK t os i):=fun a D=>by
  obtain⟨i,hi,rfl⟩:=List.mem_map.1 (M.mem_iff.1 D);exact⟨i,List.mem_range.1 hi,rfl⟩
 have Sj:T.map (·.1)=t.map (·.path):=by
  refine yX (List.pairwise_map.2 g) (List.pairwise_map.2 (ee hg)) ?_;refine(M.map _).trans (List.Perm.trans (List.Perm.of_eq ?_) ho);unfold Kr;rw[List.map_map];apply List.ext_getElem
  ·simp
  ·intro i h1 G
   simp only[List.getElem_map,List.getElem_range,Function.comp];rw[List.getD,Qd G];rfl
 have SD:∀a∈T,ft (dC t os) T a=nodeAt t a.1:=fun a D=>by
  obtain⟨i,hi,rfl⟩:=u a D;have d:aK t os i<os.length:=Nat.lt_of_le_of_lt (Cx i) hi;have B:=ix ho hi;have hr:=ix ho d
  have hm:(dC t os).getD (aK t os i) bQ=(nodeAt t (os.getD (aK t os i) [])).mem:=by
   rw[km ho d];unfold du;rw[if_pos (ri i)]
  unfold ft;rw[show((os.getD i [],aK t os i):List UInt8 × Nat).2=aK t os i from rfl,hm,show((os.getD i [],aK t os i):List UInt8 × Nat).1=os.getD i []from rfl]
  by_cases A:(nodeAt t (os.getD i [])).kind=48
  ·have L:(nodeAt t (os.getD (aK t os i) [])).kind=48:=(oH i).trans A
   have W:=gF (t:=t) (os:=os) A;have VV:=AU hg B.1 hr.1 A L W.2.1.2.2;rw[if_pos (show(nodeAt t (os.getD (aK t os i) [])).mem.kind=48 from L)]
   have Je:iN T (aK t os i)=(nodeAt t (os.getD i [])).ai:=by
    obtain⟨y,hy,U,y2,y3,_,_,_⟩:=iD hg B.1 A;have R:y.path∈os:=ho.mem_iff.2 (List.mem_map_of_mem hy);obtain⟨a,V,D⟩:=List.mem_iff_getElem.1 R;have o:os.getD a []=y.path:=by rw[List.getD,Qd V,Option.getD_some,D]
    have Z:nodeAt t (os.getD a [])=y:=by rw[o];exact jj hg hy
    have WI:xV t os i a:=⟨by rw[Z];exact y2,A,by rw[Z,y3,U]⟩
    have Ud:aK t os i=aK t os a:=tg WI;have LN:(y.path,aK t os i)∈T:=M.mem_iff.2 (List.mem_map.2 ⟨a,List.mem_range.2 V,by rw[o,Ud]⟩);obtain⟨f,hf,m⟩:=List.mem_iff_getElem.1 LN;have p:T.getD f ([],0)=(y.path,aK t os i):=by rw[List.getD,Qd hf,Option.getD_some,m]
    have:=BR hf (fun j hj G=>by
     have I:j<T.length:=by omega
     have O:T.getD j ([],0)=T[j]:=by rw[List.getD,Qd I];rfl
     rw[p,O]at G;obtain⟨b,hb,l⟩:=u T[j] (List.getElem_mem I)
     have c:aK t os b=aK t os i:=by
      have:=congrArg Prod.snd l;rw[G]at this;exact this.symm
     have J:=ix ho hb
     have X:(nodeAt t (os.getD b [])).kind=48:=by
      rw[←oH (t:=t) (os:=os) b,c];exact L
     have jP:(nodeAt t (os.getD b [])).ai=(nodeAt t (os.getD i [])).ai:=by
      rw[←(gF (t:=t) (os:=os) X).2.1.2.2,c];exact W.2.1.2.2
     obtain⟨z,hz,z1,_,_,_,_,z6⟩:=iD hg J.1 X;have q:z.path=y.path:=by rw[z1,jP,U]
     have r:=(List.pairwise_iff_getElem.1 g) j f I hf hj;rw[m,l]at r;have H:dF (os.getD b []) y.path=true:=r;rcases z6 with z6|z6
     ·rw[←J.2,←z6,q,iP]at H
      cases H
     ·rw[q,J.2,oe H]at z6
      cases z6)
    rw[p]at this;exact this.trans U
   rw[Je];have E:=B.2
   conv=>rhs;rw[VV,E]
  ·rw[if_neg (show ¬(nodeAt t (os.getD (aK t os i) [])).mem.kind=48 from fun h=>A ((oH i).symm.trans h)),eV A]
   have Y:=(dJ hg B.1).2.2 A;have E:=B.2;obtain⟨x,SV⟩:∃x,nodeAt t (os.getD i [])=x:=⟨_,rfl⟩
   rw[SV]at E Y⊢;rw[←E];exact DT rfl Y.symm
 unfold dQ;rw[N,List.map_congr_left SD];have:T.map (fun a=>nodeAt t a.1)=(T.map (·.1)).map (nodeAt t):=by rw[List.map_map];rfl
 rw[this,Sj,List.map_map]
 conv=>rhs;rw[←List.map_id t]
 exact List.map_congr_left fun x B=>jj hg B
end
section
variable {t:List av} {os:List (List UInt8)}
end
theorem mJ:∀(a b:List (List UInt8)),a.Nodup→(∀x∈a,x∈b)→b.length≤a.length→a.Perm b
 |[],b,_,_,hl=>by
  have:b=[]:=List.eq_nil_of_length_eq_zero (Nat.le_zero.1 hl);rw[this]
 |x::a,b,hn,hs,hl=>by
  rw[List.nodup_cons]at hn;have D:x∈b:=hs x (List.mem_cons_self ..);have A:=List.perm_cons_erase D
  have hlen:(b.erase x).length≤a.length:=by
   have:=A.length_eq;simp only[List.length_cons]at this hl;omega
  refine List.Perm.trans (List.Perm.cons x (mJ a (b.erase x) hn.2 (fun y hy=>?_) hlen)) A.symm;have B:y≠x:=fun e=>hn.1 (by rw[←e];exact hy)
  exact(List.mem_erase_of_ne B).2 (hs y (List.mem_cons_of_mem _ hy))
theorem mh {t:List av} (hg:bF t=true) (os:List (List UInt8)):ck t os↔os.length=t.length∧(∀p∈os,(eP t p).isSome=true)∧os.Nodup:=by
 constructor
 ·intro h
  refine⟨by have:=h.length_eq;rwa [Qi]at this,fun p A=>?_,lH hg h⟩;obtain⟨x,B,rfl⟩:=List.mem_map.1 (h.mem_iff.1 A);unfold eP;rw[List.find?_isSome];exact⟨x,B,by simp⟩
 ·rintro⟨h1,h2,h3⟩
  refine mJ os _ h3 (fun p A=>?_) (by rw[Qi];omega);have:=h2 p A;unfold eP at this;rw[List.find?_isSome]at this;obtain⟨x,B,he⟩:=this;exact List.mem_map.2 ⟨x,B,by simpa using he⟩
end tN
namespace K1
open Go.Lib fb tN Rec Attr
variable {m:aq}
def iU (t:List av):List (List UInt8):=t.map (·.path)
def eC (t:List av):List aq:=dC t (iU t)
def gT (t:List av):List UInt8:=uy (eC t)
def dR (bs:List UInt8):List av × Int × Nat:=
 if(cn bs).2.1=0 then ej (cn bs).1 else([],(cn bs).2.1,(cn bs).2.2)
def kB (ms:List aq):Bool:=(List.range ms.length).all fun i=>decide (i=0)||dF (ms.getD (i - 1) bQ).path (ms.getD i bQ).path
def qo (ms:List aq) (k:Nat):Bool:=(List.range k).all fun i=>decide (i=0)||dF (ms.getD (i - 1) bQ).path (ms.getD i bQ).path
theorem GD (ms:List aq):qo ms 1=true:=rfl
theorem Cy (ms:List aq) (k:Nat) (hk:k≠0):qo ms (k+1)=(qo ms k&&dF (ms.getD (k - 1) bQ).path (ms.getD k bQ).path):=by
 unfold qo;rw[List.range_succ,List.all_append,List.all_cons,List.all_nil,Bool.and_true,decide_eq_false hk,Bool.false_or]
theorem GB (ms:List aq):qo ms ms.length=kB ms:=rfl
theorem Kh {ms:List aq} (h:kB ms=true) (k:Nat) (hk:k≤ms.length):qo ms k=true:=by
 unfold kB at h;unfold qo;rw[List.all_eq_true]at h⊢;intro i hi;exact h i (List.mem_range.2 (by have:=List.mem_range.1 hi;omega))
section
variable {t:List av}
theorem jm (t:List av):ck t (iU t):=List.Perm.refl _
theorem nj (t:List av):(iU t).length=t.length:=by unfold iU;rw[Qi]
theorem Ck (hi:i<t.length):(iU t).getD i []=t[i].path:=by
 unfold iU;rw[List.getD,List.getElem?_map,Qd hi];rfl
theorem oo (t:List av):(eC t).length=t.length:=by unfold eC;rw[ni (jm t),nj]
theorem gq (hg:bF t=true):∀m∈eC t,bk m=true:=sB hg (jm t)
theorem ig (hg:bF t=true):(eC t).length≤4096:=by
 rw[oo];unfold bF at hg;simp only[Bool.and_eq_true,decide_eq_true_eq]at hg;exact hg.1
theorem qv (hg:bF t=true):dR (gT t)=(t,0,0):=by
 have h:=Gv (fun m hm=>dZ (gq hg m hm)) (ig hg) 0;rw[List.replicate_zero,List.append_nil]at h;unfold dR gT;rw[h,if_pos rfl];exact BW hg (jm t)
theorem zN {bs:List UInt8} (h:(dR bs).2.1=0):bF (dR bs).1=true:=by
 unfold dR at h⊢
 by_cases he:(cn bs).2.1=0
 ·rw[if_pos he]at h⊢
  exact Be (mH bs) h
 ·rw[if_neg he]at h
  exact absurd h he
theorem rU (hg:bF t=true):∀x∈t,x.path.length≤140737488351232∧x.target.length≤140737488351232∧x.ai.length≤140737488351232∧x.body.length≤140737488351232:=fun x A=>by
 have h:=dJ hg A;have hm:=dZ h.2.1;have h1:x.path.length≤200:=hm.qg;have G:x.target.length≤200:=hm.vJ;have H:x.body.length≤1048576:=hm.body;refine⟨by omega,by omega,?_,by omega⟩
 by_cases hk:x.kind=48
 ·obtain⟨z,D,E,_⟩:=iD hg A hk
  have B:z.path.length≤200:=(dZ (dJ hg D).2.1).qg;rw[E]at B;omega
 ·rw[h.2.2 hk];exact Nat.zero_le _
theorem IW (hg:bF t=true):t.length≤4096:=by
 have:=ig hg
 rwa [oo]at this
theorem Gz (h:cG m):∀r∈aJ m,r.1.length+r.2.length≤230:=by
 intro r hr;have hu:=h.uid;have A:=h.gid;have B:=h.time;have D:=h.qg;have E:=h.vJ;simp only[aJ,List.mem_append]at hr
 have d:∀(c:Prop) [Decidable c] (k v:List UInt8),r∈(if c then[(k,v)]else[])→r=(k,v):=fun c _ k v hr=>by
  split at hr
  ·exact List.mem_singleton.1 hr
  ·cases hr
 have hk:∀i,i<6→(aF i).length≤8:=fun i hi=>by
  obtain rfl|rfl|rfl|rfl|rfl|rfl:i=0∨i=1∨i=2∨i=3∨i=4∨i=5:=by omega
  all_goals decide
 rcases hr with(((hr|hr)|hr)|hr)|hr<;>(have e:=d _ _ _ hr;subst e)
 ·have:=hk 4 (by omega);show(aF 4).length+m.path.length≤230;omega
 ·have:=hk 5 (by omega);show(aF 5).length+m.target.length≤230;omega
 ·have h1:=hk 0 (by omega);have:=lY hu.1 (by omega);show(aF 0).length+(aG _).length≤230;omega
 ·have h1:=hk 1 (by omega);have:=lY A.1 (by omega);show(aF 1).length+(aG _).length≤230;omega
 ·have h1:=hk 2 (by omega);have:=lY B.1 (by omega);show(aF 2).length+(aG _).length≤230;omega
theorem F2 (h:cG m):(aI (aJ m)).length≤1536:=by
 have h1:=fW h
 have B:(aJ m).length≤5:=by
  have d:∀(c:Prop) [Decidable c] (k v:List UInt8),(if c then[(k,v)]else[]).length≤1:=fun c _ k v=>by split<;>simp
  unfold aJ;simp only[Qf];have D:=d (gS m=true) (aF 4) m.path;have a2:=d (fD m=true) (aF 5) m.target;have a3:=d (2097151<m.uid) (aF 0) (aG m.uid.toNat);have a4:=d (2097151<m.gid) (aF 1) (aG m.gid.toNat);have a5:=d (8589934591<m.time) (aF 2) (aG m.time.toNat);omega
 have E:=sA (n:=230) (l:=aJ m) (fun r A=>⟨h1 r A,Gz h r A⟩);have G:(aJ m).length*(230+10)≤5*240:=Nat.mul_le_mul B (Qk _);omega
theorem zr (h:cG m):512+aP m.body.length≤(fB m).length∧(fB m).length≤512+aP m.body.length+2048∧(fB m).length % 512=0:=by
 have hl:=F2 h;have D:aP (aI (aJ m)).length≤1536:=by unfold aP;omega
 have hm:=J6 h;refine⟨hm.2,?_,hm.1⟩;obtain⟨H,_,A,_,(⟨_,e⟩|⟨X,_,B,_,e⟩)⟩:=jZ h
 ·rw[e,Qf,bp,A];omega
 ·rw[e,Qf,Qf,Qf,bp,bp,A,B];omega
theorem mK:∀(ms:List aq),(∀m∈ms,cG m)→512*ms.length+(ms.map fun m=>aP m.body.length).sum≤(cd ms).length∧(cd ms).length≤512*ms.length+(ms.map fun m=>aP m.body.length).sum+2048*ms.length∧(cd ms).length % 512=0
 |[],_=>by simp[cd]
 |m::ms,h=>by
  obtain⟨B,a2,a3⟩:=mK ms fun x A=>h x (List.mem_cons_of_mem _ A)
  obtain⟨D,E,G⟩:=zr (h m (List.mem_cons_self ..));rw[fu,Qf,List.length_cons,List.map_cons,List.sum_cons];omega
end
end K1
namespace tN
open Go.ChangeShapes Go.WideShapes Go.ChangeAt Go.RowKit Base bJ cr Bk Rec Block fb Go.Lib
def Cd (t:List av) (os:List (List UInt8)):Bool:=decide (os.length=t.length)&&(os.all (fun p=>(eP t p).isSome)&&decide os.Nodup)
theorem sO {t:List av} (hg:bF t=true) (os:List (List UInt8)):Cd t os=true↔ck t os:=by
 rw[mh hg];simp only[Cd,Bool.and_eq_true,decide_eq_true_eq,List.all_eq_true]
def Py (t:List av) (os:List (List UInt8)):List aq × Int:=if Cd t os=true then(dC t os,0)else([],1)
def nC (w:World) (r:List aq × Int) (e:Ending) (w':World):Prop:=
 ∃q d ys,e=.returned (.tuple #[.slice q r.1.length d,.int .i64 r.2])∧ys.map MP.m=r.1∧cN w' q r.1.length ys∧r.1.length≤d∧d≤maxLen∧Below w.heap.size w w'
def Og (w:World) (q:Option Addr) (n:Nat) (cc:List (List (List UInt8))):Prop:=
 cc.length=n∧∃ps:List (Option Addr × Nat),ps.length=n∧(∀i,i<n→oR w (ps.getD i (none,0)).1 (cc.getD i []).length (cc.getD i []))∧
  (0<n→∃b o,q=some ⟨b,o,none⟩∧b<w.heap.size∧∀i,i<n→w.cell? ⟨b,o+i,none⟩=some (.slice (ps.getD i (none,0)).1 (cc.getD i []).length (ps.getD i (none,0)).2))
theorem Og.below {q:Option Addr} {cc:List (List (List UInt8))} (h:Og w q n cc) (hb:Below w.heap.size w w'):Og w' q n cc:=by
 obtain⟨h1,ps,D,E,G⟩:=h;refine⟨h1,ps,D,fun i hi=>(E i hi).below hb,fun B=>?_⟩;obtain⟨b,o,rfl,A,hc⟩:=G B;refine⟨b,o,rfl,Nat.lt_of_lt_of_le A hb.size,fun i hi=>?_⟩;rw[hb.cell (p:=⟨b,o+i,none⟩) A];exact hc i hi
structure nD (w:World) (p:Option Addr) (n c:Nat) (xs:List NP):Prop where
 at_:bt w p n xs
 nc:n≤c
 cm:c≤maxLen
 few:n≤100000
 room:∀x∈xs,x.m.path.length≤140737488351232∧x.m.target.length≤140737488351232∧x.m.ai.length≤140737488351232∧x.m.body.length≤140737488351232
 Oy:bF (xs.map NP.m)=true
theorem nD.below {p:Option Addr} {c:Nat} {xs:List NP} (h:nD w p n c xs) (hb:Below w.heap.size w w'):nD w' p n c xs:=⟨h.at_.below hb,h.nc,h.cm,h.few,h.room,h.Oy⟩
structure Dd (w:World) (p:Option Addr) (n c:Nat) (os:List (List UInt8)):Prop where
 at_:oR w p n os
 nc:n≤c
 cm:c≤maxLen
 few:n≤100000
 room:∀s∈os,s.length≤140737488351232
structure uw (w:World) (p:Option Addr) (n c:Nat) (xs:List MP):Prop where
 at_:cN w p n xs
 nc:n≤c
 cm:c≤maxLen
 few:n≤100000
 room:∀x∈xs,x.m.path.length≤140737488351232∧x.m.target.length≤140737488351232∧x.m.body.length≤140737488351232
end tN
namespace K1
open Go.ChangeShapes Go.WideShapes Go.ChangeAt Go.RowKit Base bJ cr Bk Rec fb tN Go.Lib
structure rz (w:World) (p:Option Addr) (n c:Nat) (xs:List NP):Prop where
 at_:bt w p n xs
 nc:n≤c
 cm:c≤maxLen
 room:∀x∈xs,x.m.path.length≤140737488351232∧x.m.target.length≤140737488351232∧x.m.ai.length≤140737488351232∧x.m.body.length≤140737488351232
theorem rz.below {p:Option Addr} {c:Nat} {xs:List NP} (h:rz w p n c xs) (hb:Below w.heap.size w w'):rz w' p n c xs:=⟨h.at_.below hb,h.nc,h.cm,h.room⟩
def jK (w:World) (t:List av) (e:Ending) (w':World):Prop:=
 (bF t=true∧∃p c,e=.returned (.tuple #[.slice p (gT t).length c,.int .i64 0])∧(gT t).length≤c∧c≤maxLen∧cj w' p (gT t).length (gT t)∧Below w.heap.size w w')∨
 (bF t=false∧∃p c,e=.returned (.tuple #[.slice p 0 c,.int .i64 1])∧Below w.heap.size w w')
def nE (w:World) (bs:List UInt8) (e:Ending) (w':World):Prop:=
 ∃q d zs,e=.returned (.tuple #[.slice q zs.length d,.agg #[.int .i64 (dR bs).2.1,.int .i64 ((dR bs).2.2:Nat)]])∧zs.map NP.m=(dR bs).1∧bt w' q zs.length zs∧zs.length≤d∧d≤maxLen∧Below w.heap.size w w'
structure EmitC:Prop where
 pack:∀(w:World) (p:Option Addr) (n c:Nat) (xs:List NP),rz w p n c xs→Need w→Calls Tryz.prog 10 #[.slice p n c] w (jK w (xs.map NP.m))
 unpack:∀(w:World) (p:Option Addr) (n c:Nat) (bs:List UInt8) (q:Option Addr) (m d:Nat) (zs:List Int),cj w p n bs→bs.length=n→n≤140737488351232→Eg w q m zs→zs.length=m→m*8≤140737488351232→Need w→Calls Tryz.prog 13 #[.slice p n c,.slice q m d] w (nE w bs)
 sorted:∀(w:World) (p:Option Addr) (n c:Nat) (xs:List MP),uw w p n c xs→Need w→Calls Tryz.prog 19 #[.slice p n c] w fun e w'=>e=.returned (.bool (kB (xs.map MP.m)))∧Below w.heap.size w w'
theorem sf (w:World):Eg w none 0 []:=fun h=>by omega
theorem Mv {t:List av} (hg:bF t=true):(gT t).length≤12289000000:=by
 have h1:=mK (eC t) fun m hm=>dZ (gq hg m hm)
 have B:((eC t).map fun m=>aP m.body.length).sum≤(eC t).length*1048577*2:=by
  have:∀ms:List aq,(∀m∈ms,cG m)→(ms.map fun m=>aP m.body.length).sum≤ms.length*1048577*2:=fun ms=>by
   induction ms with
   |nil=>intro _;simp
   |cons m ms ih=>
    intro h;have a:=ih fun x A=>h x (List.mem_cons_of_mem _ A)
    have b:=(h m (List.mem_cons_self ..)).body;have c:=(jL m.body.length).2;rw[List.map_cons,List.sum_cons,List.length_cons];omega
  exact this _ fun m hm=>dZ (gq hg m hm)
 have D:=ig hg;unfold gT;rw[kU,Qf,List.length_replicate];omega
end K1
namespace tN
open fb
variable {f:Nat}
def kI (xs:List NP) (p:List UInt8):Option NP:=xs.find? fun y=>decide (y.m.path=p)
def gR (xs:List NP) (os:List (List UInt8)) (k:Nat) (p:List UInt8):Option NP:=if p∈os.take k then none else kI xs p
section
variable {xs:List NP} {os:List (List UInt8)} {k:Nat}
theorem o7 (p:List UInt8):(kI xs p).map NP.m=eP (xs.map NP.m) p:=by
 unfold kI eP;rw[List.find?_map]
 congr 2
 funext y
 show decide (y.m.path=p)=(y.m.path==p)
 by_cases h:y.m.path=p<;>simp[h]
theorem qY (hk:k<xs.length):xs.getD k aN=xs[k]:=by rw[List.getD,Qd hk];rfl
theorem Ba (hr:dL (xs.map NP.m)) (hk:k<xs.length):kI (xs.take (k+1))=fun p=>if p=(xs.getD k aN).m.path then some (xs.getD k aN)else kI (xs.take k) p:=by
 funext p
 unfold kI;rw[List.take_succ_eq_append_getElem hk,List.find?_append,←qY hk,List.find?_cons]
 by_cases A:p=(xs.getD k aN).m.path
 ·rw[if_pos A,A,decide_eq_true rfl]
  have:(xs.take k).find? (fun y=>decide (y.m.path=(xs.getD k aN).m.path))=none:=by
   rw[List.find?_eq_none];intro x D;obtain⟨i,hi,rfl⟩:=List.mem_take_iff_getElem.1 D;have:=(List.pairwise_iff_getElem.1 hr) i k (by rw[Qi];omega) (by rw[Qi];exact hk) (by omega);rw[List.getElem_map,List.getElem_map]at this;have B:=sE this;rw[qY hk]
   simpa using B
  rw[this];rfl
 ·rw[if_neg A,decide_eq_false (fun e=>A e.symm)]
  simp
theorem BU:gR xs os 0=kI xs:=by
 funext p
 unfold gR;rw[List.take_zero,if_neg (List.not_mem_nil)]
theorem BT (hk:k<os.length):gR xs os (k+1)=fun p=>if p=os.getD k []then none else gR xs os k p:=by
 funext p
 unfold gR;rw[List.take_succ_eq_append_getElem hk,List.getD,Qd hk,Option.getD_some]
 by_cases B:p=os[k]
 ·rw[if_pos B,if_pos (by rw[B];exact List.mem_append.2 (.inr (List.mem_singleton.2 rfl)))]
 ·rw[if_neg B]
  by_cases A:p∈os.take k
  ·rw[if_pos A,if_pos (by rw[List.mem_append];exact .inl A)]
  ·rw[if_neg A,if_neg (by rw[List.mem_append,List.mem_singleton];exact fun h=>h.elim A B)]
def Ei (xs:List NP) (os:List (List UInt8)) (k:Nat) (zs:List NP):Prop:=∀i,i<k→gR xs os i (os.getD i [])=some (zs.getD i aN)
theorem py {zs:List NP} (h:Ei xs os k zs) (hi:i<k):kI xs (os.getD i [])=some (zs.getD i aN):=by
 have:=h i hi;unfold gR at this;split at this
 ·cases this
 ·exact this
theorem CP {zs:List NP} (hg:bF (xs.map NP.m)=true) (hl:os.length=xs.length) (h:Ei xs os os.length zs):ck (xs.map NP.m) os:=by
 rw[mh hg];refine⟨by rw[Qi];exact hl,fun p B=>?_,?_⟩
 ·obtain⟨i,hi,rfl⟩:=List.mem_iff_getElem.1 B
  have:=py h hi;rw[List.getD,Qd hi,Option.getD_some]at this;rw[←o7,this];rfl
 ·rw[List.nodup_iff_pairwise_ne,List.pairwise_iff_getElem]
  intro i j hi A D e;have:=h j A;unfold gR at this;rw[List.getD,Qd A,Option.getD_some,if_pos]at this
  ·cases this
  ·rw[←e]
   exact List.mem_take_iff_getElem.2 ⟨i,by omega,rfl⟩
theorem Gf (hg:bF (xs.map NP.m)=true) (hk:k<os.length) (h:gR xs os k (os.getD k [])=none):¬ck (xs.map NP.m) os:=fun E=>by
 obtain⟨_,B,D⟩:=(mh hg os).1 E;have A:os.getD k []=os[k]:=by rw[List.getD,Qd hk];rfl
 unfold gR at h;split at h
 ·next hm=>
  rw[A]at hm;obtain⟨i,hi,e⟩:=List.mem_take_iff_getElem.1 hm;exact(List.pairwise_iff_getElem.1 D) i k (by omega) hk (by omega) e
 ·have:=B (os.getD k []) (by rw[A];exact List.getElem_mem hk)
  rw[←o7,h]at this
  cases this
end
def cb (t:List av) (os:List (List UInt8)) (k:Nat) (l:List UInt8):Option Nat:=
 (List.range k).find? fun j=>decide ((nodeAt t (os.getD j [])).kind=48)&&decide ((nodeAt t (os.getD j [])).ai=l)
section
variable {t:List av} {os:List (List UInt8)} {k:Nat}
theorem jd:cb t os (k+1)=fun l=>(cb t os k l).or (if(nodeAt t (os.getD k [])).kind=48∧(nodeAt t (os.getD k [])).ai=l then some k else none):=by
 funext l
 unfold cb;rw[List.range_succ,List.find?_append,List.find?_cons]
 by_cases h:(nodeAt t (os.getD k [])).kind=48∧(nodeAt t (os.getD k [])).ai=l
 ·rw[if_pos h,decide_eq_true h.1,decide_eq_true h.2];rfl
 ·rw[if_neg h]
  have:(decide ((nodeAt t (os.getD k [])).kind=48)&&decide ((nodeAt t (os.getD k [])).ai=l))=false:=by
   simpa using fun h1 A=>h ⟨h1,A⟩
  rw[this];rfl
theorem yv (h:(nodeAt t (os.getD k [])).kind≠48):cb t os (k+1)=cb t os k:=by
 rw[jd]
 funext l
 rw[if_neg (fun A=>h A.1),Option.or_none]
theorem Ft (h:(nodeAt t (os.getD k [])).kind=48) (hn:cb t os k (nodeAt t (os.getD k [])).ai=none):cb t os (k+1)=fun l=>if l=(nodeAt t (os.getD k [])).ai then some k else cb t os k l:=by
 rw[jd]
 funext l
 by_cases hl:l=(nodeAt t (os.getD k [])).ai
 ·rw[if_pos hl,hl,hn,if_pos ⟨h,rfl⟩];rfl
 ·rw[if_neg hl,if_neg (fun A=>hl A.2.symm),Option.or_none]
theorem Fu (hf:cb t os k (nodeAt t (os.getD k [])).ai=some f):cb t os (k+1)=cb t os k:=by
 rw[jd]
 funext l
 by_cases hl:(nodeAt t (os.getD k [])).ai=l
 ·rw[←hl,hf];rfl
 ·rw[if_neg (fun A=>hl A.2),Option.or_none]
theorem yu {l:List UInt8} (hf:cb t os k l=some f):f<k:=by
 unfold cb at hf;exact List.mem_range.1 (List.mem_of_find?_eq_some hf)
theorem vx (h:(nodeAt t (os.getD k [])).kind=48):aK t os k=(cb t os k (nodeAt t (os.getD k [])).ai).getD k:=by
 have e:aK t os k=(cb t os (k+1) (nodeAt t (os.getD k [])).ai).getD k:=by
  unfold aK cb;rw[if_pos h]
 rw[e,jd]
 dsimp only
 cases cb t os k (nodeAt t (os.getD k [])).ai with
 |some f=>rfl
 |none=>rw[if_pos ⟨h,rfl⟩];rfl
theorem Ga (h:(nodeAt t (os.getD k [])).kind≠48):du t os k=(nodeAt t (os.getD k [])).mem:=by
 unfold du;rw[if_pos (eV h)]
theorem Mi (h:(nodeAt t (os.getD k [])).kind=48) (hn:cb t os k (nodeAt t (os.getD k [])).ai=none):du t os k=(nodeAt t (os.getD k [])).mem:=by
 unfold du;rw[if_pos (by rw[vx h,hn];rfl)]
theorem Mj (h:(nodeAt t (os.getD k [])).kind=48) (hf:cb t os k (nodeAt t (os.getD k [])).ai=some f):du t os k=pX (nodeAt t (os.getD k [])) (os.getD f []):=by
 unfold du;have:=yu hf;rw[vx h,hf,Option.getD_some,if_neg (by omega)]
theorem AL {x:av} (h:bk x.mem=true) (hk:x.kind≠48):x.body=[]:=by
 unfold bk at h;simp only[Bool.and_eq_true,Bool.or_eq_true,beq_iff_eq]at h;rcases h.1.2 with h1|h1
 ·exact absurd h1 hk
 ·exact h1
end
end tN
namespace tN
open Go.ChangeShapes Go.WideShapes Go.ChangeAt Go.RowKit Base bJ cr Bk Mk fb Go.Lib
variable {os:List (List UInt8)} {xs zs:List NP}
def iT (f:List UInt8→Option NP):List UInt8→Option Value:=fun x=>(f x).map fun y=>.agg y.cs
theorem JV (w:World):(zeroValue 52).run Tryz.prog w=.ok (.agg #[.string ⟨#[]⟩,.string ⟨#[]⟩,.string ⟨#[]⟩,.int .u8 0,.int .i64 0,.int .i64 0,.int .i64 0,.int .i64 0,.slice none 0 0]) w:=Tryz.zeroValue52 w
def Da (w:World) (xs:List NP) (os:List (List UInt8)) (n:Nat) (e:Ending) (w':World):Prop:=
 (∃q zs,e=.returned (.tuple #[.slice q n n,.bool true])∧Ei xs os n zs∧zs.length=n∧os.length=n∧bt w' q n zs∧ck (xs.map NP.m) os∧Below w.heap.size w w')∨
 (e=.returned (.tuple #[.slice none 0 0,.bool false])∧¬ck (xs.map NP.m) os∧Below w.heap.size w w')
structure Ve (w wr:World) (M:Nat) (xs:List NP) (k:Nat):Prop where
 bel:Below w.heap.size w wr
 map:ct gO wr M (iT (kI (xs.take k)))
 new:w.heap.size≤M
structure P8 (w wr:World) (M g:Nat) (xs:List NP) (os:List (List UInt8)) (n k:Nat) (zs:List NP):Prop where
 bel:Below w.heap.size w wr
 map:ct gO wr M (iT (gR xs os k))
 new:w.heap.size≤M
 row:Rw wr g zs
 LG:w.heap.size≤g
 len:zs.length=n
 G1:Ei xs os k zs
theorem P8.below {wr:World} {M:Nat} (h:P8 w wr M g xs os n k zs) (hb:Below wr.heap.size wr w'):P8 w w' M g xs os n k zs:=
 ⟨h.bel.trans (hb.mono h.bel.size),h.map.kept (Kept.aM hb af) (fun h=>h.elim),h.new,ao.below h.row hb (ao.lt h.row),h.LG,h.len,h.G1⟩
theorem Kx {y:NP} (h:Ei xs os k zs) (hk:k<zs.length) (hy:gR xs os k (os.getD k [])=some y):Ei xs os (k+1) (zs.set k y):=fun i hi=>by
 rw[getSet zs k i y hk]
 by_cases A:i=k
 ·rw[if_pos A,A];exact hy
 ·rw[if_neg A];exact h i (by omega)
theorem yL (w:World) (p:Option Addr) (n c:Nat) (xs:List NP) (a:Option Addr) (m d:Nat) (os:List (List UInt8)) (hN:nD w p n c xs) (hO:Dd w a m d os):
 Calls Tryz.prog 48 #[.slice p n c,.slice a m d] w (Da w xs os n):=by
 obtain⟨i0,hi,fz,ez,eB⟩:=info_parts DF;have HI:=Qh hi;have kN:=Qh fz;have jG:=Qh ez;have kO:=Qh eB;have Ho:=@run_makeMap Tryz.prog;have HM:=Qh hN.at_;have f:=Qh hN.at_.1;have Z:=Qh hN.Oy;have R9:=hN.few;have HO:=Qh hO.at_;have M:=Qh hO.at_.1;clear hi fz ez eB hN hO
 go_enter Tryz.func48,Tryz.ntmps48
 by_cases Sx:m=n
 ·subst Sx
  obtain⟨w1,SU⟩:∃w1,w.alloc (.map #[] 0)=w1:=⟨_,rfl⟩
  have Zu:Hid (Ve w w1 w.heap.size xs 0):=Qh
   {bel:=by rw[←SU];exact(Below.refl _ _).alloc (Qk _) _
    map:=by
     have e:iT (kI (xs.take 0))=fun _=>none:=by funext l;rfl
     rw[e,←SU];exact iw gO w
    new:=Qk _}
  go_upto_region 4 with fail
  clear SU Ho;go_wp2_with fail
  go_loopw [8,22] (fun _ i wr=>∃(k:Nat),k≤m∧i=.int .i64 (k:Int)∧Hid (Ve w wr w.heap.size xs k)) (fun _ i _=>m - (RowKit.intOf i).toNat)
  case atStart=>exact⟨0,Nat.zero_le _,rfl,Zu⟩
  case round=>
   obtain⟨k,hk,rfl,L⟩:=hrel
   by_cases J:k<m
   ·obtain⟨b1,o1,rfl,b7,nx,hc⟩:=(HM.out.below L.out.bel).dX J
    obtain⟨y,hy⟩:∃y,xs.getD k aN=y:=⟨_,rfl⟩
    rw[hy]at hc nx;have HY:=Qh hy;obtain⟨c0,c1,c2,c3,c4,c5,c6,c7,c8⟩:=hc;obtain⟨W5,H⟩:∃W5,wr.alloc (.cells y.cs 52)=W5:=⟨_,rfl⟩
    have O:Below wr.heap.size wr W5:=by rw[←H];exact(Below.refl _ _).alloc (Qk _) _
    have A:ao W5 wr.heap.size 52 y.cs:=by rw[←H];exact ao.new wr _ _
    have vQ:=Qh O;have im:=Qh (L.out.map.kept (Kept.aM O af) (fun h=>h.elim));have z0:=A.cell 0;have U:=A.cell 1;have z2:=A.cell 2;have z3:=A.cell 3;have z4:=A.cell 4;have z5:=A.cell 5;have V:=A.cell 6;have W:=A.cell 7;have X:=A.cell 8;unfold NP.cs kq at H;simp only[NP.cs,kq,Qc,Qa,Qb]at z0 U z2 z3 z4 z5 V W X;have mD:(k:Int)<(m:Int):=by omega
    clear hy b7 nx A O;go_upto_region 7 with fail;clear H c0 c1 c2 c3 c4 c5 c6 c7 c8
    go_wp2_with (at_mapUpdate;refine cD (K:=gO) rfl (.tmp 26) (.tmp 28) (.tmp 29) rfl Tryz.underlying138 Tryz.underlying9 w.heap.size im.out rfl y.m.path rfl (.agg y.cs) rfl ?_)
    intro w7 T R Pj
    have u:Hid (Ve w w7 w.heap.size xs (k+1)):=by
     have I:=L.out.bel.trans (vQ.out.mono L.out.bel.size);refine Qh ⟨I.trans (R.out.below I.size (fun b I=>by rw[show b=w.heap.size from I];exact Qk _)),?_,Qk _⟩
     have e:iT (kI (xs.take (k+1)))=fun z=>if z=y.m.path then some (.agg y.cs)else iT (kI (xs.take k)) z:=by
      funext z
      unfold iT;rw[Ba (ee Z.out) (show k<xs.length by rw[f.out];exact J),HY.out]
      by_cases h:z=y.m.path<;>simp[h]
     rw[e];exact T.out
    clear T R Pj z0 U z2 z3 z4 z5 V W X;go_wp2;go_roundw
    case rel=>exact⟨k+1,by omega,by go_num,u⟩
    case measure=>simp[RowKit.intOf];omega
   ·obtain rfl:k=m:=by omega
    have pY:¬((k:Int)<(k:Int)):=by omega
    have Hj:=L.out.bel;have L0:=L.out.map;rw[List.take_of_length_le (by rw[f.out];exact Qk _)]at L0;have Xx:=Qh L0;have q:=Qh Hj;clear L L0 Hj
    go_wp2_with (at_make;refine wpList_make_full _ rfl _ _ 22 rfl wr.heap.size 52 i0 _ 9 Tryz.underlying22 HI.out kN.out jG.out .i64 .i64 _ _ k rfl rfl rfl rfl (by rw[kO.out];omega) (by unfold maxLen;omega) (Qk _) ?_)
    intro w3 lj bh
    have KV:=D7 (B:=wr.heap.size) (w':=w3) (g:=wr.heap.size) (n:=k) (by
     have h9:=lj;rw[sF]at h9
     exact h9)
    have dc:Kept af wr w3:=(Kept.refl af wr).grown bh (fun k h=>by cases h);have o:Below wr.heap.size wr w3:=dc.below (Qk _) (fun _ h=>h.elim)
    have QS:Hid (P8 w w3 w.heap.size wr.heap.size xs os k 0 (List.replicate k aN)):=Qh
     {bel:=q.out.trans (o.mono q.out.size)
      map:=by rw[BU];exact Xx.out.kept dc (fun h=>h.elim)
      new:=Qk _
      row:=KV
      LG:=q.out.size
      len:=by simp
      G1:=fun i hi=>by omega}
    obtain⟨g,hg⟩:∃g,wr.heap.size=g:=⟨_,rfl⟩
    rw[hg]at QS⊢;clear lj bh KV dc o Xx q hg;go_wp2_with fail
    go_loopw [10,11,12,13,36] (fun _ _ _ _ i wr=>∃(j:Nat) (zs:List NP),j≤k∧i=.int .i64 (j:Int)∧Hid (P8 w wr w.heap.size g xs os k j zs)) (fun _ _ _ _ i _=>k - (RowKit.intOf i).toNat)
    case atStart=>exact⟨0,_,Nat.zero_le _,rfl,QS⟩
    case round=>
     obtain⟨j,zs,hj,rfl,G⟩:=hrel
     by_cases J:j<k
     ·obtain⟨b3,o3,rfl,o,yB⟩:=(HO.out.below G.out.bel).2 (by omega)
      have z0:=yB j J;obtain⟨x,hx⟩:∃x,os.getD j []=x:=⟨_,rfl⟩
      rw[hx]at z0;have HX:=Qh hx;have N:=G.out.map.look_ok (P:=Tryz.prog) Tryz.underlying138 Tryz.underlying9 JV x;obtain⟨fo,r⟩:∃fo,gR xs os j x=fo:=⟨_,rfl⟩
      have vS:=Qh r;unfold iT at N;rw[r]at N;have mD:(j:Int)<(k:Int):=by omega
      clear hx r yB o
      cases fo with
      |none=>
       have Px:(Instr.lookup 138 (.map (some w.heap.size)) (.string (str x)) true).run Tryz.prog wr=.ok (.tuple #[.agg #[.string ⟨#[]⟩,.string ⟨#[]⟩,.string ⟨#[]⟩,.int .u8 0,.int .i64 0,.int .i64 0,.int .i64 0,.int .i64 0,.slice none 0 0],.bool false]) wr:=N;have E:Hid (¬ck (xs.map NP.m) os):=Qh (Gf Z.out (show j<os.length by rw[M.out];exact J) (by rw[HX.out];exact vS.out));have HB:=Qh G.out.bel;clear N;go_wp2;go_ret2;exact .inr ⟨rfl,E.out,HB.out.alloc HB.out.size _⟩
      |some y=>
       have Px:(Instr.lookup 138 (.map (some w.heap.size)) (.string (str x)) true).run Tryz.prog wr=.ok (.tuple #[.agg #[.string (str y.m.path),.string (str y.m.target),.string (str y.m.ai),.int .u8 (y.m.kind.toNat:Int),.int .i64 y.m.mode,.int .i64 y.m.uid,.int .i64 y.m.gid,.int .i64 y.m.time,.slice y.p y.m.body.length y.c],.bool true]) wr:=N;obtain⟨W5,H⟩:∃W5,wr.alloc (.cells y.cs 52)=W5:=⟨_,rfl⟩
       have O:Below wr.heap.size wr W5:=by rw[←H];exact(Below.refl _ _).alloc (Qk _) _
       have A:ao W5 wr.heap.size 52 y.cs:=by rw[←H];exact ao.new wr _ _
       have D:=Qh (G.out.below O);have U:=A.cell 0;have z2:=A.cell 1;have z3:=A.cell 2;have z4:=A.cell 3;have z5:=A.cell 4;have V:=A.cell 5;have W:=A.cell 6;have X:=A.cell 7;have z9:=A.cell 8;unfold NP.cs kq at H;simp only[NP.cs,kq,Qc,Qa,Qb]at U z2 z3 z4 z5 V W X z9;have Wg:j<zs.length:=by rw[D.out.len];exact J
       obtain⟨r0,r1,r2,r3,r4,r5,r6,r7,r8⟩:=D.out.row.dX Wg;have f0:=ao.frozen D.out.row (j*9);have f1:=ao.frozen D.out.row (j*9+1);have f2:=ao.frozen D.out.row (j*9+2);have f3:=ao.frozen D.out.row (j*9+3);have f4:=ao.frozen D.out.row (j*9+4);have f5:=ao.frozen D.out.row (j*9+5);have f6:=ao.frozen D.out.row (j*9+6);have f7:=ao.frozen D.out.row (j*9+7);have f8:=ao.frozen D.out.row (j*9+8);have Xt:=Qh Wg;clear N Wg O A;go_upto_region 14 with fail;clear H Px z0;go_upto_region 17 with fail;obtain⟨W6,Y⟩:∃W6,(((((((((W5.setCell ⟨g,j*9,none⟩ (.string (str y.m.path))).setCell ⟨g,j*9+1,none⟩ (.string (str y.m.target))).setCell ⟨g,j*9+2,none⟩ (.string (str y.m.ai))).setCell ⟨g,j*9+3,none⟩ (.int .u8 (y.m.kind.toNat:Int))).setCell ⟨g,j*9+4,none⟩ (.int .i64 y.m.mode)).setCell ⟨g,j*9+5,none⟩ (.int .i64 y.m.uid)).setCell ⟨g,j*9+6,none⟩ (.int .i64 y.m.gid)).setCell ⟨g,j*9+7,none⟩ (.int .i64 y.m.time)).setCell ⟨g,j*9+8,none⟩ (.slice y.p y.m.body.length y.c))=W6:=⟨_,rfl⟩
       have t:Kept (aw g) W5 W6:=by rw[←Y];exact D6 (S:=aw g) rfl _ _ _ _ _ _ _ _ _
       have Nr:Rw W6 g (zs.set j y):=by rw[←Y];exact D.out.row.set Xt.out y
       have O1:g≠w.heap.size:=kW D.out.row D.out.map;have Nh:ct gO W6 w.heap.size (iT (gR xs os j)):=D.out.map.kept t (fun e=>O1 e.symm);rw[Y];have Lb:=Qh t;have Hz:=Qh Nr;have mO:=Qh Nh;have NQ:=Qh O1;clear Y t Nr Nh O1 r0 r1 r2 r3 r4 r5 r6 r7 r8 f0 f1 f2 f3 f4 f5 f6 f7 f8 U z2 z3 z4 z5 V W X z9
       go_wp2_with (at_delete;refine zQ (K:=gO) rfl (.tmp 53) (.tmp 54) 138 9 rfl 52 Tryz.underlying138 Tryz.underlying9 w.heap.size mO.out rfl x rfl ?_)
       intro w7 T R Pj
       have u:Hid (P8 w w7 w.heap.size g xs os k (j+1) (zs.set j y)):=by
        have uL:Below w.heap.size w W6:=D.out.bel.trans (Lb.out.below D.out.bel.size (fun b I=>by rw[show b=g from I];exact D.out.LG));refine Qh ⟨uL.trans (R.out.below uL.size (fun b I=>by rw[show b=w.heap.size from I];exact Qk _)),?_,Qk _,ao.bG Hz.out R.out NQ.out,D.out.LG,by rw[List.length_set];exact D.out.len,Kx D.out.G1 Xt.out (by rw[HX.out];exact vS.out)⟩
        have e:iT (gR xs os (j+1))=fun z=>if z=x then none else iT (gR xs os j) z:=by
         funext z
         unfold iT;rw[BT (show j<os.length by rw[M.out];exact J),HX.out]
         by_cases h:z=x<;>simp[h]
        rw[e];exact T.out
       clear T R Pj;go_wp2;go_roundw
       case rel=>exact⟨j+1,_,by omega,by go_num,u⟩
       case measure=>simp[RowKit.intOf];omega
     ·obtain rfl:j=k:=by omega
      have pY:¬((j:Int)<(j:Int)):=by omega
      have Ji:ck (xs.map NP.m) os:=CP Z.out (by rw[M.out,f.out]) (by rw[M.out];exact G.out.G1)
      have qI:bt wr (some ⟨g,0,none⟩) j zs:=by
       have h1:=G.out.row.nodes (fun y hy=>by
        obtain⟨i,hi,rfl⟩:=List.mem_iff_getElem.1 hy;have h2:=py G.out.G1 (show i<j by rw[←G.out.len];exact hi);rw[qY hi]at h2
        exact(HM.out.below G.out.bel).2.1 _ (List.mem_of_find?_eq_some h2))
       rw[G.out.len]at h1;exact h1
      have HF:=Qh (And.intro Ji qI);clear Ji qI;go_wp2;go_ret2;exact .inl ⟨_,zs,rfl,G.out.G1,G.out.len,M.out,HF.out.2,HF.out.1,G.out.bel⟩
 ·have E:Hid (¬ck (xs.map NP.m) os):=Qh (fun h=>Sx (by
   have h1:=((mh Z.out os).1 h).1;rw[Qi,f.out,M.out]at h1
   exact h1))
  have cE:¬((m:Int)=(n:Int)):=by omega
  go_wp2;go_ret2;exact .inr ⟨rfl,E.out,Below.refl _ _⟩
end tN
end Go.Proofs.YtdhibldkldlfpaaGreatDoor
