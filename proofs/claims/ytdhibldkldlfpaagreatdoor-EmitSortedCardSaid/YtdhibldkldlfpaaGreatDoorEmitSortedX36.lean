/- Merged. -/
import Derived.Test.YtdhibldkldlfpaaGreatDoorEmitSortedX33
import Derived.Deep.RegionHeld3
namespace Go.Proofs.YtdhibldkldlfpaaGreatDoor
set_option linter.unusedVariables false
set_option maxHeartbeats 8000000
set_option maxRecDepth 100000
open Mem
variable {g i j k n:Nat} {p:Option Addr} {w w':World}
namespace Tre
open Go.ChangeShapes Go.WideShapes Go.ChangeAt Go.RowKit Base bM cr Bk Go.Lib
variable {b:List UInt8} {t:List ay} {y:NP}
theorem Hy (w:World) (g:Nat) (y:NP) (h:ao w g 52 y.cs):(loadVar 52 ⟨g,0,none⟩).run Tryz.prog w=.ok (.agg y.cs) w:=by
 obtain⟨c0,c1,c2,c3,c4,c5,c6,c7,A⟩:=aT h;simp only[Nat.zero_add]at c0 c1 c2 c3 c4 c5 c6 c7 A;unfold NP.cs fX;clear h
 go_simp
theorem A3 {fn:Func} (hf:fn.results=#[.cell 4 52,.tmp 5]) (tmps:Array Value) (w:World) (g:Nat) (v:Value) (ht:tmps.getD 4 undef=.pointer (some ⟨g,0,none⟩)) (hv:tmps.getD 5 undef=v)
 (y:NP) (hb:ao w g 52 y.cs):(results fn tmps).run Tryz.prog w=.ok (.tuple #[.agg y.cs,v]) w:=by
 rw[results_cell_tmp hf,ht,hv];have hl:=Hy w g y hb;simp only[asAddr,Sem.run_pure,hl,Result.andThen]
theorem lI {x:NP} (hb:ao w g 52 x.cs) (a0 a1 a2 a3 a4 a5 a6 a7 a8:Value):
 ao (((((((((w.setCell ⟨g,0,none⟩ a0).setCell ⟨g,1,none⟩ a1).setCell ⟨g,2,none⟩ a2).setCell ⟨g,3,none⟩ a3).setCell ⟨g,4,none⟩ a4).setCell ⟨g,5,none⟩ a5).setCell ⟨g,6,none⟩ a6).setCell ⟨g,7,none⟩ a7).setCell ⟨g,8,none⟩ a8) g 52 #[a0,a1,a2,a3,a4,a5,a6,a7,a8]:=
 (((((((((hb.set 0 a0 (by show 0<9;decide)).set 1 a1 (by show 1<9;decide)).set 2 a2 (by show 2<9;decide)).set 3 a3 (by show 3<9;decide)).set 4 a4 (by show 4<9;decide)).set 5 a5 (by show 5<9;decide)).set 6 a6 (by show 6<9;decide)).set 7 a7 (by show 7<9;decide)).set 8 a8 (by show 8<9;decide))
theorem dC (hk:Below w.heap.size w w') (hg:w.heap.size≤g) (a0 a1 a2 a3 a4 a5 a6 a7 a8:Value):
 Below w.heap.size w (((((((((w'.setCell ⟨g,0,none⟩ a0).setCell ⟨g,1,none⟩ a1).setCell ⟨g,2,none⟩ a2).setCell ⟨g,3,none⟩ a3).setCell ⟨g,4,none⟩ a4).setCell ⟨g,5,none⟩ a5).setCell ⟨g,6,none⟩ a6).setCell ⟨g,7,none⟩ a7).setCell ⟨g,8,none⟩ a8):=
 (((((((((hk.setCell (p:=⟨g,0,none⟩) hg a0).setCell (p:=⟨g,1,none⟩) hg a1).setCell (p:=⟨g,2,none⟩) hg a2).setCell (p:=⟨g,3,none⟩) hg a3).setCell (p:=⟨g,4,none⟩) hg a4).setCell (p:=⟨g,5,none⟩) hg a5).setCell (p:=⟨g,6,none⟩) hg a6).setCell (p:=⟨g,7,none⟩) hg a7).setCell (p:=⟨g,8,none⟩) hg a8)
structure Nq (w wi:World) (g:Nat) (y:NP):Prop where
 bel:Below w.heap.size w wi
 eh:ao wi g 52 y.cs
 new:w.heap.size≤g
theorem Nq.below {wi wj:World} (h:Nq w wi g y) (hb:Below wi.heap.size wi wj):Nq w wj g y:=
 ⟨h.bel.trans (hb.mono h.bel.size),h.eh.below hb h.eh.lt,h.new⟩
theorem sF (h:∀x∈t,x.path≠b):dD t b=none:=by
 unfold dD;rw[List.find?_eq_none];intro x A
 simpa using h x A
theorem sG (hk:k<t.length) (h:(t.getD k bU).path=b) (h0:∀x∈t.take k,x.path≠b):dD t b=some (t.getD k bU):=by
 unfold dD;rw[List.getD,Qd hk]at h⊢
 have e:t=t.take k++t[k]::t.drop (k+1):=by
  rw[←List.drop_eq_getElem_cons hk,List.take_append_drop]
 conv=>lhs;rw[e,List.find?_append]
 have A:(t.take k).find? (fun x=>x.path==b)=none:=by
  rw[List.find?_eq_none];intro x B
  simpa using h0 x B
 rw[A];simp only[Option.none_or];rw[List.find?_cons_of_pos (by simpa using h)];simp
def Ze (r:Option ay):ay:=r.getD bU
def j8 (w:World) (xs:List NP) (b:List UInt8) (e:Ending) (w':World):Prop:=
 ∃y:NP,e=.returned (.tuple #[.agg y.cs,.bool (dD (xs.map NP.m) b).isSome])∧y.m=Ze (dD (xs.map NP.m) b)∧(y=aH∨y∈xs)∧Below w.heap.size w w'
theorem Mw:aH.cs=#[.string ⟨#[]⟩,.string ⟨#[]⟩,.string ⟨#[]⟩,.int .u8 0,.int .i64 0,.int .i64 0,.int .i64 0,.int .i64 0,.slice none 0 0]:=rfl
theorem Bj (w:World):cU w aH:=⟨cD.none_ w none,Qk _,by decide⟩
theorem mc {xs:List NP} (h:aY w p n xs) (hy:y=aH∨y∈xs):cU w y:=by
 rcases hy with rfl|hy
 ·exact Bj w
 ·exact h.2.1 y hy
theorem D5 (xs:List NP) (k:Nat) (h:k<xs.length):xs.take (k+1)=xs.take k++[xs.getD k aH]:=by
 rw[List.take_succ_eq_append_getElem h,List.getD,Qd h];rfl
theorem wX (p:Option Addr) (n c:Nat) (xs:List NP) (b:List UInt8) (w:World) (h:aY w p n xs) (hn:n≤maxLen):
 Calls Tryz.prog 25 #[.slice p n c,.string (str b)] w (j8 w xs b):=by
 unfold maxLen at hn;have l:=Qh h;have B:=Qh h.1;have G:Hid (Below w.heap.size w (w.alloc (.cells aH.cs 52))):=Qh ((Below.refl _ _).alloc (Qk _) _);have Y:Hid (ao (w.alloc (.cells aH.cs 52)) w.heap.size 52 aH.cs):=Qh (ao.new w _ _);clear h
 go_enter Tryz.func25,Tryz.ntmps25
 obtain⟨W,J⟩:∃W,w.alloc (.cells aH.cs 52)=W:=⟨_,rfl⟩
 rw[J]at G Y;rw[Mw]at J;have A:Hid (Nq w W w.heap.size aH):=Qh ⟨G.out,Y.out,Qk _⟩;have q:=Qh (l.out.below G.out);clear G Y;go_upto_region 1 with fail;clear J;go_wp2_with fail
 go_loop [6] (fun i=>∃(k:Nat),k≤n∧i=.int .i64 (k:Int)∧Hid (∀x∈(xs.map NP.m).take k,x.path≠b)) (fun i=>n - (RowKit.intOf i).toNat)
 case atStart=>exact⟨0,Nat.zero_le _,rfl,Qh (by simp)⟩
 case round=>
  obtain⟨k,hk,rfl,I⟩:=hrel
  by_cases D:k<n
  ·obtain⟨y,o1,rfl,r,Z,f⟩:=q.out.dV D
   obtain⟨u,hu⟩:∃u,xs.getD k aH=u:=⟨_,rfl⟩
   rw[hu]at Z f;have H:=Qh hu;have g:Hid (u∈xs):=Qh (by rw[←hu];exact oF xs k (by rw[B.out];exact D));obtain⟨c0,c1,c2,c3,c4,c5,c6,c7,z⟩:=f;have kh:(k:Int)<(n:Int):=by omega
   have d:((str u.m.path).toList==(str b).toList)=decide (u.m.path=b):=by
    rw[av,av]
    by_cases h:u.m.path=b<;>simp[h]
   clear Z hu r
   by_cases he:u.m.path=b
   ·rw[decide_eq_true he]at d
    have E:Hid (dD (xs.map NP.m) b=some u.m):=Qh (by
     have:=sG (t:=xs.map NP.m) (b:=b) (k:=k) (by rw[Qi,B.out];exact D) (by rw[fL,H.out];exact he) I.out
     rw[this,fL,H.out])
    obtain⟨L,M,N,O,R,T,U,V,X⟩:=aT A.out.eh;have f0:=A.out.eh.frozen 0;have f1:=A.out.eh.frozen 1;have f2:=A.out.eh.frozen 2;have f3:=A.out.eh.frozen 3;have f4:=A.out.eh.frozen 4;have f5:=A.out.eh.frozen 5;have f6:=A.out.eh.frozen 6;have f7:=A.out.eh.frozen 7;have f8:=A.out.eh.frozen 8;simp only[Nat.zero_add]at L M N O R T U V X;clear he;go_wp2;refine bodyPost_ret (A3 rfl _ _ w.heap.size _ rfl rfl u (lI A.out.eh _ _ _ _ _ _ _ _ _)) rfl ?_;exact⟨u,by rw[E.out];rfl,by rw[E.out];rfl,Or.inr g.out,dC A.out.bel (Qk _) _ _ _ _ _ _ _ _ _⟩
   ·rw[decide_eq_false he]at d
    have o:Hid (∀x∈(xs.map NP.m).take (k+1),x.path≠b):=Qh (by
     intro x hx;have hl:k<xs.length:=by rw[B.out];exact D
     rw[←List.map_take,D5 xs k hl,List.map_append,List.mem_append,H.out,List.map_take]at hx;rcases hx with hx|hx
     ·exact I.out x hx
     ·rw[List.mem_singleton.1 hx];exact he)
    clear he;go_wp2
    go_round
    case rel=>exact⟨k+1,by omega,by go_num,o⟩
    case measure=>simp[RowKit.intOf];omega
  ·have nj:¬((k:Int)<(n:Int)):=by omega
   have E:Hid (dD (xs.map NP.m) b=none):=Qh (sF (fun x hx=>I.out x (by rw[List.take_of_length_le (by rw[Qi,B.out];omega)];exact hx)));obtain⟨L,M,N,O,R,T,U,V,X⟩:=aT A.out.eh;have f0:=A.out.eh.frozen 0;have f1:=A.out.eh.frozen 1;have f2:=A.out.eh.frozen 2;have f3:=A.out.eh.frozen 3;have f4:=A.out.eh.frozen 4;have f5:=A.out.eh.frozen 5;have f6:=A.out.eh.frozen 6;have f7:=A.out.eh.frozen 7;have f8:=A.out.eh.frozen 8;simp only[Nat.zero_add]at L M N O R T U V X;go_wp2;refine bodyPost_ret (A3 rfl _ _ w.heap.size _ rfl rfl aH (lI A.out.eh _ _ _ _ _ _ _ _ _)) rfl ?_;exact⟨aH,by rw[E.out];rfl,by rw[E.out];rfl,Or.inl rfl,dC A.out.bel (Qk _) _ _ _ _ _ _ _ _ _⟩
def PO (x:NP):Prop:=x.m.path.length≤140737488351232∧x.m.target.length≤140737488351232
theorem yg (k:UInt8) (n:UInt8) (z:Int) (hz:(n.toNat:Int)=z):(((k.toNat:Int))==z)=decide (k=n):=by
 subst hz
 by_cases h:k=n
 ·simp[h]
 ·have:¬k.toNat=n.toNat:=fun A=>h (UInt8.toNat.inj A)
  simp only[h,decide_false,beq_eq_false_iff_ne,ne_eq];omega
theorem kQ (k:UInt8) (n:UInt8) (z:Int) (hz:(n.toNat:Int)=z):(((k.toNat:Int)) != z)=!decide (k=n):=by
 rw[←yg k n z hz];rfl
theorem C6 (x:NP) (w:World) (hF:PO x) (hT:Path.Tabs w):
 Calls Tryz.prog 46 #[.agg x.cs] w fun e w'=>e=.returned (.bool (eN x.m))∧Below w.heap.size w w':=by
 obtain⟨W,D⟩:∃W,w.alloc (.cells x.cs 52)=W:=⟨_,rfl⟩
 have H:Below w.heap.size w W:=by rw[←D];exact(Below.refl _ _).alloc (Qk _) _
 have I:ao W w.heap.size 52 x.cs:=by rw[←D];exact ao.new w _ _
 have B:=lX x.m.mem x.p x.c W hF.1 hF.2 (hT.below H);have G:=kQ x.m.kind 49 49 rfl;unfold eN;obtain⟨g,L⟩:∃g,bD x.m.mem=g:=⟨_,rfl⟩
 rw[L]at B⊢;obtain⟨k,hk⟩:∃k:Int,(x.m.kind.toNat:Int)=k:=⟨_,rfl⟩
 obtain⟨c0,c1,c2,c3,c4,c5,c6,c7,N⟩:=aT I;simp only[Nat.zero_add]at c0 c1 c2 c3 c4 c5 c6 c7 N;unfold NP.cs fX at D⊢;unfold cP ay.mem at B;rw[hk]at D B c3 G⊢;have M:=Qh B;have E:=Qh H;clear B H I L hk hF hT
 go_enter Tryz.func46,Tryz.ntmps46
 by_cases A:x.m.kind=49
 ·rw[decide_eq_true A,Bool.not_true]at G
  have hd:decide (x.m.kind≠49)=false:=by simp[A]
  rw[hd];clear A hd;go_upto_region 1 with fail
  go_wp2;go_ret;exact⟨rfl,E.out⟩
 ·rw[decide_eq_false A,Bool.not_false]at G
  have hd:decide (x.m.kind≠49)=true:=by simp[A]
  rw[hd];clear A hd;go_upto_region 1 with fail;go_wp2_with fail
  refine M.out.mono ?_;rintro e O ⟨rfl,J⟩;have F:=Qh (E.out.trans (J.mono E.out.size));clear J;go_wp2;go_ret;exact⟨rfl,F.out⟩
theorem ub (hs:eZ t) (hk:k<t.length) (h:(t.getD k bU).path=b):dD t b=some (t.getD k bU):=
 sG hk h (fun x A e=>by
  obtain⟨i,hi,rfl⟩:=List.mem_iff_getElem.1 A;rw[Qg]at hi;have:=gH hs (show i<k by omega) hk;rw[List.getD,Qd (show i<t.length by omega)]at this;rw[List.getElem_take]at e;simp only[Option.getD_some,e,h]at this;rw[ji]at this
  cases this)
theorem iL (a b:List UInt8):((str a).toList==(str b).toList)=decide (a=b):=by
 rw[av,av]
 by_cases h:a=b<;>simp[h]
theorem we (x:NP) (p:Option Addr) (n c:Nat) (xs:List NP) (w:World) (hx:cU w x) (h:aY w p n xs) (hn:n≤1000000000) (hs:eZ (xs.map NP.m)):
 Calls Tryz.prog 47 #[.agg x.cs,.slice p n c] w fun e w'=>e=.returned (.bool (iJ (xs.map NP.m) x.m))∧Below w.heap.size w w':=by
 obtain⟨W,H⟩:∃W,w.alloc (.cells x.cs 52)=W:=⟨_,rfl⟩
 have G:Below w.heap.size w W:=by rw[←H];exact(Below.refl _ _).alloc (Qk _) _
 have f:ao W w.heap.size 52 x.cs:=by rw[←H];exact ao.new w _ _
 have HP:=Qh (p7 p n c xs x.m.af W (h.below G) hn);have JB:=Qh (h.below G);have HL:=Qh h.1;have V:=Qh (hx.below G);have HS:=Qh hs;obtain⟨r,g⟩:∃r,iJ (xs.map NP.m) x.m=r:=⟨_,rfl⟩
 rw[g];have N:=Qh g;have d:=kQ x.m.kind 48 48 rfl;obtain⟨k,hk⟩:∃k:Int,(x.m.kind.toNat:Int)=k:=⟨_,rfl⟩
 have HX:=Qh f;have HK:=Qh hk;obtain⟨c0,c1,c2,c3,c4,c5,c6,c7,c8⟩:=aT f;simp only[Nat.zero_add]at c0 c1 c2 c3 c4 c5 c6 c7 c8;unfold NP.cs fX at H⊢;rw[hk]at H c3 d⊢;have U:=Qh G;clear G f hk hx h g hs
 go_enter Tryz.func47,Tryz.ntmps47
 by_cases A:x.m.kind=48
 ·rw[decide_eq_true A,Bool.not_true]at d
  have E:Hid (r=Dg (dD (xs.map NP.m) x.m.af) x.m):=Qh (by
   rw[←N.out];unfold iJ
   rw[if_pos A])
  clear N A;go_upto_region 1 with fail;clear H;go_wp2_with fail;refine HP.out.mono ?_;rintro e L ⟨a,there,rfl,ha,X,o,I⟩;have Y:=Qh (U.out.trans (I.mono U.out.size));have T:=HX.out.below I HX.out.lt;have fC:=Qh T;have eM:=Qh (JB.out.below I);have WX:=Qh (V.out.below I);obtain⟨d0,d1,d2,d3,d4,d5,d6,d7,d8⟩:=aT T;simp only[Nat.zero_add]at d0 d1 d2 d3 d4 d5 d6 d7 d8;clear I T c0 c1 c2 c3 c4 c5 c6 c7 c8
  cases there with
  |false=>
   have E2:Hid (r=false):=Qh (by rw[E.out,sF (o HS.out rfl)];rfl);clear X o ha d0 d1 d2 d3 d4 d5 d6 d7 d8;go_wp2;go_ret;exact⟨by rw[E2.out];rfl,Y.out⟩
  |true=>
   obtain⟨O,J⟩:=X rfl;have XL:a<n:=by rw[Qi,HL.out]at O;exact O
   have hf:=ub HS.out O J;rw[fL]at hf;obtain⟨b1,o1,rfl,cg,Z,gS⟩:=eM.out.dV XL;obtain⟨y,hy⟩:∃y,xs.getD a aH=y:=⟨_,rfl⟩
   rw[hy]at hf Z gS;have B:Hid (r=(decide (y.m.kind=48)&&(decide (y.m.af=y.m.path)&&(decide (y.m.mode=x.m.mode∧y.m.uid=x.m.uid∧y.m.gid=x.m.gid∧y.m.time=x.m.time)&&decide (y.m.body=x.m.body))))):=Qh (by rw[E.out,hf];rfl);obtain⟨W3,M⟩:∃W3,L.alloc (.cells y.cs 52)=W3:=⟨_,rfl⟩
   have D:Below L.heap.size L W3:=by rw[←M];exact(Below.refl _ _).alloc (Qk _) _
   have hY:ao W3 L.heap.size 52 y.cs:=by rw[←M];exact ao.new L _ _
   have Bq:=fC.out.below D fC.out.lt;have R:=Qh (Y.out.trans (D.mono Y.out.size));have WY:=Qh (WX.out.below D);have Xa:=Qh (Z.below D);obtain⟨y0,y1,y2,y3,y4,y5,y6,y7,y8⟩:=aT hY;obtain⟨x0,x1,x2,x3,x4,x5,x6,x7,x8⟩:=aT Bq;obtain⟨z0,z1,z2,z3,z4,z5,z6,z7,z8⟩:=gS;have EC:=yg y.m.kind 48 48 rfl;obtain⟨ky,EW⟩:∃k:Int,(y.m.kind.toNat:Int)=k:=⟨_,rfl⟩
   unfold NP.cs fX at M;rw[EW]at M EC y3 z3;simp only[Nat.zero_add]at y0 y1 y2 y3 y4 y5 y6 y7 y8 x0 x1 x2 x3 x4 x5 x6 x7 x8;have b:=iL y.m.af y.m.path;have e4:=fun w=>QC y.m.mode y.m.uid y.m.gid y.m.time x.m.mode x.m.uid x.m.gid x.m.time w
   have HE:=Qh (GG y.p x.p y.m.body.length y.c x.m.body.length x.c y.m.body x.m.body W3 rfl rfl Xa.out.ib WY.out.ib);obtain⟨q1,u⟩:∃q,decide (y.m.kind=48)=q:=⟨_,rfl⟩
   obtain⟨q2,l⟩:∃q,decide (y.m.af=y.m.path)=q:=⟨_,rfl⟩
   obtain⟨q3,t⟩:∃q,decide (y.m.mode=x.m.mode∧y.m.uid=x.m.uid∧y.m.gid=x.m.gid∧y.m.time=x.m.time)=q:=⟨_,rfl⟩
   obtain⟨q4,z⟩:∃q,decide (y.m.body=x.m.body)=q:=⟨_,rfl⟩
   rw[u]at EC;rw[l]at b;simp only[t]at e4;rw[z]at HE;rw[u,l,t,z]at B;clear u l t z X o ha O J hf hy cg Z D hY Bq EW;have aa9:(a:Int)<(n:Int):=by omega
   go_upto_region 7 with fail
   clear M d0 d1 d2 d3 d4 d5 d6 d7 d8 z0 z1 z2 z3 z4 z5 z6 z7 z8
   cases q1 with
   |false=>
    go_wp2;go_ret;exact⟨by rw[B.out];rfl,R.out⟩
   |true=>
    cases q2 with
    |false=>
     go_wp2;go_ret;exact⟨by rw[B.out];rfl,R.out⟩
    |true=>
     cases q3 with
     |false=>
      go_wp2;go_ret;exact⟨by rw[B.out];rfl,R.out⟩
     |true=>
      go_wp2_with fail
      refine HE.out.mono ?_;rintro e w4 ⟨rfl,rfl⟩;go_wp2;go_ret;exact⟨by rw[B.out];rfl,R.out⟩
 ·rw[decide_eq_false A,Bool.not_false]at d
  have E:Hid (r=decide (x.m.af=[])):=Qh (by
   rw[←N.out];unfold iJ
   rw[if_neg A])
  have b:=aU x.m.af;clear N A;go_upto_region 1 with fail
  go_wp2;go_ret;exact⟨by rw[E.out,←b];rfl,U.out⟩
end Tre
namespace Tre
open Go.ChangeShapes Go.WideShapes Go.ChangeAt Go.RowKit Base bM cr Bk Go.Lib
variable {t:List ay}
attribute [local irreducible] wpQuiet
theorem mu (hk:k<t.length) (h:eZ (t.take k)) (ax:k=0∨dx (t.getD (k - 1) bU).path (t.getD k bU).path=true):eZ (t.take (k+1)):=by
 rw[List.take_succ_eq_append_getElem hk];refine List.pairwise_append.2 ⟨h,List.pairwise_singleton _ _,fun x A y hy=>?_⟩;rw[List.mem_singleton.1 hy];rcases ax with rfl|ax
 ·simp at A
 ·obtain⟨i,hi,rfl⟩:=qA A
  rw[Qg]at hi
  have e:(t.take k).getD i bU=t.getD i bU:=by
   rw[List.getD,List.getD,List.getElem?_take,if_pos (by omega)]
  have B:t.getD k bU=t[k]:=by rw[List.getD,Qd hk];rfl
  rw[e,←B];rcases Nat.lt_or_eq_of_le (show i≤k - 1 by omega)with h1|h1
  ·have:=gH h (i:=i) (j:=k - 1) h1 (by rw[Qg];omega)
   rw[e]at this
   have D:(t.take k).getD (k - 1) bU=t.getD (k - 1) bU:=by
    rw[List.getD,List.getD,List.getElem?_take,if_pos (by omega)]
   rw[D]at this;exact gy _ _ _ this ax
  ·rw[h1];exact ax
theorem aD (hk:k<t.length) (h:et t k=false):bG t=false:=by
 rw[Bool.eq_false_iff];intro A;simp only[bG,Bool.and_eq_true,List.all_eq_true,List.mem_range]at A;have:=A.2 k hk;rw[h]at this
 cases this
theorem sK (hn:t.length≤4096) (h:∀k,k<t.length→et t k=true):bG t=true:=by
 simp only[bG,Bool.and_eq_true,List.all_eq_true,List.mem_range,decide_eq_true_eq];exact⟨hn,h⟩
def stepT (t:List ay) (i:Nat):Bool:=eN (t.getD i bU)&&(decide (i=0)||dx (t.getD (i - 1) bU).path (t.getD i bU).path)
theorem aB (t:List ay) (i:Nat):et t i=(stepT t i&&iJ (t.take (i+1)) (t.getD i bU)):=rfl
def gm (w:World) (b o:Nat) (y:NP):Prop:=∀p:ga w,eV p.w' b o y
theorem qa {b o:Nat} {y:NP} (h:eV w b o y) (hb:b<w.heap.size):gm w b o y:=fun p=>h.below hb p.bel
theorem I4 (p:Option Addr) (n c:Nat) (xs:List NP) (w:World) (h:aY w p n xs) (hc:n≤c) (hm:c≤maxLen) (hF:∀x∈xs,PO x) (hT:Path.Tabs w):
 Calls Tryz.prog 20 #[.slice p n c] w fun e w'=>e=.returned (.bool (bG (xs.map NP.m)))∧Below w.heap.size w w':=by
 unfold maxLen at hm;have HM:=Qh h;have G:=Qh h.1;have HF:=Qh hF;have HT:=Qh hT;obtain⟨r,hr⟩:∃r,bG (xs.map NP.m)=r:=⟨_,rfl⟩
 rw[hr];have V:=Qh hr;clear h hF hT hr
 go_enter Tryz.func20,Tryz.ntmps20
 by_cases Kz:n≤4096
 ·have MM:¬((4096:Int)<(n:Int)):=by omega
  go_wp2_with fail
  go_loopw [3,4,10] (fun _ _ i wr=>∃(k:Nat),k≤n∧i=.int .i64 (k:Int)∧Hid (eZ ((xs.map NP.m).take k))∧Hid (∀j,j<k→et (xs.map NP.m) j=true)∧Hid (Below w.heap.size w wr)) (fun _ _ i _=>n - (RowKit.intOf i).toNat)
  case atStart=>exact⟨0,Nat.zero_le _,rfl,Qh List.Pairwise.nil,Qh (fun j R=>absurd R (by omega)),Qh (Below.refl _ _)⟩
  case round=>
   obtain⟨k,hk,rfl,hS,hG,o⟩:=hrel
   by_cases N:k<n
   ·obtain⟨d,o1,rfl,cg,cb,gS⟩:=(HM.out.below o.out).dV N
    obtain⟨u,hu⟩:∃u,xs.getD k aH=u:=⟨_,rfl⟩
    rw[hu]at cb gS;have HU:=Qh hu;have SA:PO u:=HF.out u (by rw[←hu];exact oF xs k (by rw[G.out];exact N));obtain⟨W,t⟩:∃W,wr.alloc (.cells u.cs 52)=W:=⟨_,rfl⟩
    have Ji:Below wr.heap.size wr W:=by rw[←t];exact(Below.refl _ _).alloc (Qk _) _
    have y:ao W wr.heap.size 52 u.cs:=by rw[←t];exact ao.new wr _ _
    have H:=Qh (o.out.trans (Ji.mono o.out.size));have Z:Hid (∀p:ga W,Calls Tryz.prog 46 #[.agg u.cs] p.w' fun e w'=>e=.returned (.bool (eN u.m))∧Below p.w'.heap.size p.w' w'):=Qh (fun p=>C6 u p.w' SA ((HT.out.below H.out).below p.bel));have Y:gm W wr.heap.size 0 u:=qa (aT y) y.lt;have X:=Qh y;have b8:=Qh (cb.below Ji);have JB:=Qh (HM.out.below H.out);have M:Hid ((xs.map NP.m).getD k bU=u.m):=Qh (by rw[fL,hu]);unfold NP.cs fX at t Z;unfold gm eV at Y;simp only[Nat.zero_add]at Y;obtain⟨c0,c1,c2,c3,c4,c5,c6,c7,c8⟩:=gS;have kh:(k:Int)<(n:Int):=by omega
    obtain⟨q,hq⟩:∃q,eN u.m=q:=⟨_,rfl⟩
    rw[hq]at Z;have l:=Qh hq;clear hu cb Ji y hq SA cg;go_upto_region 6 with fail;clear t c0 c1 c2 c3 c4 c5 c6 c7 c8
    cases q with
    |false=>
     have E:Hid (r=false):=Qh (by
      rw[←V.out];refine aD (k:=k) (by rw[Qi,G.out];exact N) ?_;rw[aB,stepT,M.out,l.out]
      rfl)
     refine aL (by kernel_rfl) (by kernel_rfl) ?_
     repeat (quiet_step (first|(go_at_call 46;exact Calls.cZ (Z.out _))))
     refine wpQuiet_nil ?_;intro U A;have B:=cd A;clear A;have F:=Qh (H.out.trans (B.mono H.out.size));clear B Y;go_wp2;go_ret;exact⟨by rw[E.out];rfl,F.out⟩
    |true=>
     by_cases O:k=0
     ·have sf:Hid (stepT (xs.map NP.m) k=true):=Qh (by rw[stepT,M.out,l.out,decide_eq_true O];rfl)
      have oJ:decide ((0:Int)<(k:Int))=false:=decide_eq_false (by omega);have bT:decide (0<k)=false:=decide_eq_false (by omega);have g:Hid (eZ ((xs.map NP.m).take (k+1))):=Qh (mu (by rw[Qi,G.out];exact N) hS.out (.inl O));clear O;refine aL (by kernel_rfl) (by kernel_rfl) ?_
      repeat (quiet_step (first
       |(go_at_call 46;exact Calls.cZ (Z.out _))))
      refine wpQuiet_nil ?_;intro U A;have B:=cd A;clear A;have L:=Qh (H.out.trans (B.mono H.out.size))
      have I:Hid (∀p:ga U,Calls Tryz.prog 47 #[.agg u.cs,.slice (some ⟨d,o1,none⟩) (k+1) c] p.w' fun e w'=>e=.returned (.bool (iJ ((xs.map NP.m).take (k+1)) u.m))∧Below p.w'.heap.size p.w' w'):=Qh (fun p=>by
       have f:=B.trans (p.bel.mono B.size);have hm:=(JB.out.below f).drop (show k+1≤n by omega);have:=we u (some ⟨d,o1,none⟩) (k+1) c (xs.take (k+1)) p.w' (b8.out.below f) hm (by omega) (by rw[List.map_take];exact g.out);rw[List.map_take]at this
       exact this)
      obtain⟨q2,T⟩:∃q,iJ ((xs.map NP.m).take (k+1)) u.m=q:=⟨_,rfl⟩
      rw[T]at I;have b:=Qh T;have J:gm U wr.heap.size 0 u:=qa (aT (X.out.below B X.out.lt)) (Nat.lt_of_lt_of_le X.out.lt B.size);unfold NP.cs fX at I;unfold gm eV at J;simp only[Nat.zero_add]at J;have w1:IntKind.i64.wrap ((k:Int)+1)=(k:Int)+1:=by rw[IntKind.wrap_i64];omega
      have Yi:(k:Int)+1≤(c:Int):=by omega
      have O:(0:Int)≤(k:Int)+1:=by omega
      have NU:((k:Int)+1).toNat=k+1:=by omega
      clear B Y T
      cases q2 with
      |false=>
       have E:Hid (r=false):=Qh (by
        rw[←V.out];refine aD (k:=k) (by rw[Qi,G.out];exact N) ?_
        rw[aB,M.out,b.out,Bool.and_false])
       go_wp2_with fail
       refine aL (by kernel_rfl) (by kernel_rfl) ?_
       repeat (quiet_step (first
        |(go_at_call 47;exact Calls.cZ (I.out _))))
       refine wpQuiet_nil ?_;intro wz A;have D:=cd A;clear A;have F:=Qh (L.out.trans (D.mono L.out.size));clear D J;go_wp2;go_ret;exact⟨by rw[E.out];rfl,F.out⟩
      |true=>
       have od:Hid (∀j,j<k+1→et (xs.map NP.m) j=true):=Qh (fun j R=>by
        rcases Nat.lt_succ_iff_lt_or_eq.1 R with h|rfl
        ·exact hG.out j h
        ·rw[aB,sf.out,M.out,b.out];rfl)
       go_wp2_with fail
       refine aL (by kernel_rfl) (by kernel_rfl) ?_
       repeat (quiet_step (first
        |(go_at_call 47;exact Calls.cZ (I.out _))))
       refine wpQuiet_nil ?_;intro wz A;have D:=cd A;clear A;have F:=Qh (L.out.trans (D.mono L.out.size));clear D J;go_wp2;go_roundw
       case rel=>exact⟨k+1,by omega,by go_num,g,od,F⟩
       case measure=>simp[RowKit.intOf];omega
     ·have dP:k - 1<n:=by omega
      obtain⟨b2,o2,zW,bY,ea,jX⟩:=JB.out.dV dP;simp only[Option.some.injEq,Addr.mk.injEq,and_true]at zW;obtain⟨rfl,rfl⟩:=zW;obtain⟨v,hv⟩:∃v,xs.getD (k - 1) aH=v:=⟨_,rfl⟩
      rw[hv]at jX;have Sd:Hid ((xs.map NP.m).getD (k - 1) bU=v.m):=Qh (by rw[fL,hv]);have sV:gm W d (o1+(k - 1)*9) v:=qa jX bY;unfold gm eV at sV;have MC:Hid (∀p:ga W,Calls Tryz.prog 45 #[.string (str v.m.path),.string (str u.m.path)] p.w' fun e w'=>e=.returned (.bool (dx v.m.path u.m.path))∧p.w'=w'):=Qh (fun p=>Path.oP v.m.path u.m.path p.w');obtain⟨lt,CQ⟩:∃x,dx v.m.path u.m.path=x:=⟨_,rfl⟩
      rw[CQ]at MC;have z:=Qh CQ;have oJ:(0:Int)<(k:Int):=by omega
      have bT:0<k:=by omega
      have Ul:(1:Int)≤(k:Int):=by omega
      have wk:IntKind.i64.wrap ((k:Int) - 1)=(k:Int) - 1:=by rw[IntKind.wrap_i64];omega
      have wk0:(0:Int)≤(k:Int) - 1:=by omega
      have wk2:(k:Int) - 1<(n:Int):=by omega
      have wk3:((k:Int) - 1).toNat=k - 1:=by omega
      clear hv jX ea bY CQ
      cases lt with
      |false=>
       have E:Hid (r=false):=Qh (by
        rw[←V.out];refine aD (k:=k) (by rw[Qi,G.out];exact N) ?_;rw[aB,stepT,M.out,Sd.out,z.out,l.out,decide_eq_false O]
        rfl)
       refine aL (by kernel_rfl) (by kernel_rfl) ?_
       repeat (quiet_step (first
        |(go_at_call 46;exact Calls.cZ (Z.out _))
        |(go_at_call 45;exact Calls.kY (MC.out _))))
       refine wpQuiet_nil ?_;intro U A;have B:=cd A;clear A;have F:=Qh (H.out.trans (B.mono H.out.size));clear B Y sV;go_wp2;go_ret;exact⟨by rw[E.out];rfl,F.out⟩
      |true=>
       have sf:Hid (stepT (xs.map NP.m) k=true):=Qh (by rw[stepT,M.out,Sd.out,z.out,l.out,Bool.or_true];rfl);have g:Hid (eZ ((xs.map NP.m).take (k+1))):=Qh (mu (by rw[Qi,G.out];exact N) hS.out (.inr (by rw[M.out,Sd.out];exact z.out)));refine aL (by kernel_rfl) (by kernel_rfl) ?_
       repeat (quiet_step (first
        |(go_at_call 46;exact Calls.cZ (Z.out _))
        |(go_at_call 45;exact Calls.kY (MC.out _))))
       refine wpQuiet_nil ?_;intro U A;have B:=cd A;clear A;clear sV O;have L:=Qh (H.out.trans (B.mono H.out.size))
       have I:Hid (∀p:ga U,Calls Tryz.prog 47 #[.agg u.cs,.slice (some ⟨d,o1,none⟩) (k+1) c] p.w' fun e w'=>e=.returned (.bool (iJ ((xs.map NP.m).take (k+1)) u.m))∧Below p.w'.heap.size p.w' w'):=Qh (fun p=>by
        have f:=B.trans (p.bel.mono B.size);have hm:=(JB.out.below f).drop (show k+1≤n by omega);have:=we u (some ⟨d,o1,none⟩) (k+1) c (xs.take (k+1)) p.w' (b8.out.below f) hm (by omega) (by rw[List.map_take];exact g.out);rw[List.map_take]at this
        exact this)
       obtain⟨q2,T⟩:∃q,iJ ((xs.map NP.m).take (k+1)) u.m=q:=⟨_,rfl⟩
       rw[T]at I;have b:=Qh T;have J:gm U wr.heap.size 0 u:=qa (aT (X.out.below B X.out.lt)) (Nat.lt_of_lt_of_le X.out.lt B.size);unfold NP.cs fX at I;unfold gm eV at J;simp only[Nat.zero_add]at J;have w1:IntKind.i64.wrap ((k:Int)+1)=(k:Int)+1:=by rw[IntKind.wrap_i64];omega
       have Yi:(k:Int)+1≤(c:Int):=by omega
       have O:(0:Int)≤(k:Int)+1:=by omega
       have NU:((k:Int)+1).toNat=k+1:=by omega
       clear B Y T
       cases q2 with
       |false=>
        have E:Hid (r=false):=Qh (by
         rw[←V.out];refine aD (k:=k) (by rw[Qi,G.out];exact N) ?_
         rw[aB,M.out,b.out,Bool.and_false])
        go_wp2_with fail
        refine aL (by kernel_rfl) (by kernel_rfl) ?_
        repeat (quiet_step (first
         |(go_at_call 47;exact Calls.cZ (I.out _))))
        refine wpQuiet_nil ?_;intro wz A;have D:=cd A;clear A;have F:=Qh (L.out.trans (D.mono L.out.size));clear D J;go_wp2;go_ret;exact⟨by rw[E.out];rfl,F.out⟩
       |true=>
        have od:Hid (∀j,j<k+1→et (xs.map NP.m) j=true):=Qh (fun j R=>by
         rcases Nat.lt_succ_iff_lt_or_eq.1 R with h|rfl
         ·exact hG.out j h
         ·rw[aB,sf.out,M.out,b.out];rfl)
        go_wp2_with fail
        refine aL (by kernel_rfl) (by kernel_rfl) ?_
        repeat (quiet_step (first
         |(go_at_call 47;exact Calls.cZ (I.out _))))
        refine wpQuiet_nil ?_;intro wz A;have D:=cd A;clear A;have F:=Qh (L.out.trans (D.mono L.out.size));clear D J;go_wp2;go_roundw
        case rel=>exact⟨k+1,by omega,by go_num,g,od,F⟩
        case measure=>simp[RowKit.intOf];omega
   ·have nj:¬((k:Int)<(n:Int)):=by omega
    have E:Hid (r=true):=Qh (by
     rw[←V.out]
     exact sK (by rw[Qi,G.out];exact Kz) (fun j R=>hG.out j (by rw[Qi,G.out]at R;omega)))
    go_wp2;go_ret;exact⟨by rw[E.out];rfl,o.out⟩
 ·have MM:(4096:Int)<(n:Int):=by omega
  have E:Hid (r=false):=Qh (by
   rw[←V.out];unfold bG
   rw[Qi,G.out,decide_eq_false Kz,Bool.false_and])
  go_wp2;go_ret;exact⟨by rw[E.out];rfl,Below.refl _ _⟩
end Tre
namespace Tre
theorem CD {m:aq} (h:bD m=true):dn m.path=true:=by
 unfold bD at h;simp only[Bool.and_eq_true]at h;exact h.1.1.1.1
def Xd (ms:List aq) (S:St):Prop:=∀e∈S,e.2<ms.length∧(ms.getD e.2 bB).kind≠49∧dn e.1=true
theorem Xd.put {ms:List aq} {S:St} (h:Xd ms S) {p:List UInt8} (hn:n<ms.length) (hk:(ms.getD n bB).kind≠49) (hp:dn p=true):Xd ms (jr S p n):=by
 intro e he;unfold jr at he;rw[List.mem_append,List.mem_filter]at he;rcases he with he|he
 ·exact h e he.1
 ·rw[List.mem_singleton.1 he]
  exact⟨hn,hk,hp⟩
end Tre
namespace ni
open Tre
def oI (x:ay) (p:List UInt8):aq:=⟨x.path,p,49,x.mode,x.uid,x.gid,x.time,[]⟩
def nodeAt (t:List ay) (p:List UInt8):ay:=(dD t p).getD bU
structure Xc where
 Aj:List (List UInt8 × List UInt8)
 out:List aq
def Dl (t:List ay) (s:Xc) (p:List UInt8):Xc:=
 let x:=nodeAt t p
 if x.kind=48 then
  match s.Aj.find? (fun e=>e.1==x.af)with
  |some e=>⟨s.Aj,s.out++[oI x e.2]⟩
  |none=>⟨s.Aj++[(x.af,x.path)],s.out++[x.mem]⟩
 else⟨s.Aj,s.out++[x.mem]⟩
def Lk (t:List ay) (order:List (List UInt8)):Xc:=order.foldl (Dl t) ⟨[],[]⟩
def dH (t:List ay) (order:List (List UInt8)):List aq:=(Lk t order).out
theorem Hx (t:List ay) (os:List (List UInt8)) (p:List UInt8):Lk t (os++[p])=Dl t (Lk t os) p:=by
 unfold Lk;rw[List.foldl_append];rfl
def cz (t:List ay) (os:List (List UInt8)):Prop:=os.Perm (t.map (·.path))
def aK (t:List ay) (os:List (List UInt8)) (i:Nat):Nat:=
 if(nodeAt t (os.getD i [])).kind=48 then
  ((List.range (i+1)).find? fun j=>decide ((nodeAt t (os.getD j [])).kind=48)&&decide ((nodeAt t (os.getD j [])).af=(nodeAt t (os.getD i [])).af)).getD i
 else i
section
variable {t:List ay} {os:List (List UInt8)}
def zf (t:List ay) (os:List (List UInt8)) (i j:Nat):Prop:=(nodeAt t (os.getD j [])).kind=48∧(nodeAt t (os.getD i [])).kind=48∧(nodeAt t (os.getD j [])).af=(nodeAt t (os.getD i [])).af
theorem gY (h:(nodeAt t (os.getD i [])).kind=48):aK t os i≤i∧zf t os i (aK t os i)∧∀j,j<aK t os i→¬zf t os i j:=by
 unfold aK;rw[if_pos h]
 cases hf:(List.range (i+1)).find? (fun j=>decide ((nodeAt t (os.getD j [])).kind=48)&&decide ((nodeAt t (os.getD j [])).af=(nodeAt t (os.getD i [])).af))with
 |none=>
  have:=List.find?_eq_none.1 hf i (List.mem_range.2 (Nat.lt_succ_self _));rw[decide_eq_true h,decide_eq_true rfl]at this;exact absurd rfl this
 |some j=>
  obtain⟨h1,k,hk,e,B⟩:=List.find?_eq_some_iff_getElem.1 hf;rw[List.getElem_range]at e;rw[List.length_range]at hk;subst e;simp only[Bool.and_eq_true,decide_eq_true_eq]at h1;refine⟨by rw[Option.getD_some];omega,⟨by rw[Option.getD_some];exact h1.1,h,by rw[Option.getD_some];exact h1.2⟩,fun j A hs=>?_⟩;rw[Option.getD_some]at A;have:=B j A;rw[List.getElem_range]at this;simp only[Bool.not_eq_true',Bool.and_eq_false_iff,decide_eq_false_iff_not]at this;rcases this with h|h
  ·exact h hs.1
  ·exact h hs.2.2
theorem eQ (h:(nodeAt t (os.getD i [])).kind≠48):aK t os i=i:=by
 unfold aK;rw[if_neg h]
theorem yG (i:Nat):aK t os i≤i:=by
 by_cases h:(nodeAt t (os.getD i [])).kind=48
 ·exact(gY h).1
 ·rw[eQ h];exact Qk _
theorem tW (h:zf t os i j):aK t os i=aK t os j:=by
 obtain⟨D,a2,a3⟩:=gY (t:=t) (os:=os) (i:=i) h.2.1;obtain⟨E,A,B⟩:=gY (t:=t) (os:=os) (i:=j) h.1;rcases Nat.lt_trichotomy (aK t os i) (aK t os j)with ax|he|ax
 ·exact absurd ⟨a2.1,h.1,a2.2.2.trans h.2.2.symm⟩ (B _ ax)
 ·exact he
 ·exact absurd ⟨A.1,h.2.1,A.2.2.trans h.2.2⟩ (a3 _ ax)
theorem pj (i:Nat):aK t os (aK t os i)=aK t os i:=by
 by_cases h:(nodeAt t (os.getD i [])).kind=48
 ·exact(tW (gY h).2.1).symm
 ·rw[eQ h,eQ h]
theorem mq (i:Nat):(nodeAt t (os.getD (aK t os i) [])).kind=(nodeAt t (os.getD i [])).kind:=by
 by_cases h:(nodeAt t (os.getD i [])).kind=48
 ·rw[(gY h).2.1.1,h]
 ·rw[eQ h]
def cC (t:List ay) (os:List (List UInt8)) (i:Nat):aq:=
 if aK t os i=i then(nodeAt t (os.getD i [])).mem else oI (nodeAt t (os.getD i [])) (os.getD (aK t os i) [])
end
section
variable {t:List ay} {os:List (List UInt8)}
theorem jG {p:List UInt8} (h:p∈t.map (·.path)):(nodeAt t p).path=p∧nodeAt t p∈t:=by
 obtain⟨x,B,rfl⟩:=List.mem_map.1 h;unfold nodeAt
 cases hf:dD t x.path with
 |none=>
  unfold dD at hf;have:=List.find?_eq_none.1 hf x B;simp at this
 |some y=>
  unfold dD at hf;have D:=List.find?_some hf;have A:(y.path==x.path)=true:=D;exact⟨by simpa using A,List.mem_of_find?_eq_some hf⟩
def ED (t:List ay) (os:List (List UInt8)) (n:Nat):List (List UInt8 × List UInt8):=
 ((List.range n).filter fun i=>decide ((nodeAt t (os.getD i [])).kind=48)&&decide (aK t os i=i)).map fun i=>((nodeAt t (os.getD i [])).af,(nodeAt t (os.getD i [])).path)
theorem Fe (hp:∀p∈os,p∈t.map (·.path)):∀n,n≤os.length→Lk t (os.take n)=⟨ED t os n,(List.range n).map (cC t os)⟩
 |0,_=>rfl
 |n+1,h=>by
  have W:=Fe hp n (by omega);have H:n<os.length:=by omega
  have I:os.getD n []=os[n]:=by rw[List.getD,Qd H];rfl
  have T:(nodeAt t (os.getD n [])).path=os.getD n []:=(jG (hp _ (by rw[I];exact List.getElem_mem H))).1;rw[List.take_succ_eq_append_getElem H,Hx,W,←I];unfold Dl
  dsimp only
  rw[List.range_succ,List.map_append];unfold ED;rw[List.range_succ,List.filter_append,List.map_append]
  by_cases hk:(nodeAt t (os.getD n [])).kind=48
  ·rw[if_pos hk]
   obtain⟨c,J,Z⟩:=gY (t:=t) (os:=os) (i:=n) hk
   by_cases D:aK t os n=n
   ·have M:(((List.range n).filter fun i=>decide ((nodeAt t (os.getD i [])).kind=48)&&decide (aK t os i=i)).map fun i=>((nodeAt t (os.getD i [])).af,(nodeAt t (os.getD i [])).path)).find? (fun e=>e.1==(nodeAt t (os.getD n [])).af)=none:=by
     rw[List.find?_eq_none];intro e he;obtain⟨i,hi,rfl⟩:=List.mem_map.1 he;rw[List.mem_filter,List.mem_range]at hi;obtain⟨R,A⟩:=hi;simp only[Bool.and_eq_true,decide_eq_true_eq]at A;intro hc;have L:(nodeAt t (os.getD i [])).af=(nodeAt t (os.getD n [])).af:=by simpa using hc
     exact Z i (by omega) ⟨A.1,hk,L⟩
    rw[M]
    dsimp only
    have hm:cC t os n=(nodeAt t (os.getD n [])).mem:=by unfold cC;rw[if_pos D]
    have B:[n].filter (fun i=>decide ((nodeAt t (os.getD i [])).kind=48)&&decide (aK t os i=i))=[n]:=by
     rw[List.filter_cons_of_pos (by rw[decide_eq_true hk,decide_eq_true D];rfl),List.filter_nil]
    rw[B,List.map_cons,List.map_nil,List.map_cons,List.map_nil,hm]
   ·have U:aK t os n<n:=by omega
    have N:∃e,(((List.range n).filter fun i=>decide ((nodeAt t (os.getD i [])).kind=48)&&decide (aK t os i=i)).map fun i=>((nodeAt t (os.getD i [])).af,(nodeAt t (os.getD i [])).path)).find? (fun e=>e.1==(nodeAt t (os.getD n [])).af)=some e∧e.2=os.getD (aK t os n) []:=by
     cases hf:(((List.range n).filter fun i=>decide ((nodeAt t (os.getD i [])).kind=48)&&decide (aK t os i=i)).map fun i=>((nodeAt t (os.getD i [])).af,(nodeAt t (os.getD i [])).path)).find? (fun e=>e.1==(nodeAt t (os.getD n [])).af)with
     |none=>
      exfalso
      have Y:((nodeAt t (os.getD (aK t os n) [])).af,(nodeAt t (os.getD (aK t os n) [])).path)∈(((List.range n).filter fun i=>decide ((nodeAt t (os.getD i [])).kind=48)&&decide (aK t os i=i)).map fun i=>((nodeAt t (os.getD i [])).af,(nodeAt t (os.getD i [])).path)):=
       List.mem_map.2 ⟨aK t os n,List.mem_filter.2 ⟨List.mem_range.2 U,by rw[decide_eq_true J.1,decide_eq_true (pj n)];rfl⟩,rfl⟩
      have:=List.find?_eq_none.1 hf _ Y;apply this;show((nodeAt t (os.getD (aK t os n) [])).af==(nodeAt t (os.getD n [])).af)=true;rw[J.2.2];exact beq_self_eq_true _
     |some e=>
      have h1:=List.mem_of_find?_eq_some hf;have b:=List.find?_some hf;have V:(e.1==(nodeAt t (os.getD n [])).af)=true:=b;obtain⟨i,hi,rfl⟩:=List.mem_map.1 h1;rw[List.mem_filter,List.mem_range]at hi;obtain⟨R,A⟩:=hi;simp only[Bool.and_eq_true,decide_eq_true_eq]at A;have hl:(nodeAt t (os.getD i [])).af=(nodeAt t (os.getD n [])).af:=by simpa using V
      have hs:zf t os n i:=⟨A.1,hk,hl⟩
      refine⟨_,rfl,?_⟩;show(nodeAt t (os.getD i [])).path=_;have X:aK t os n=i:=(tW hs).trans A.2;rw[X];have G:os.getD i []=os[i]'(by omega):=by rw[List.getD,Qd (by omega)];rfl
      exact(jG (hp _ (by rw[G];exact List.getElem_mem _))).1
    obtain⟨e,O,E⟩:=N;rw[O]
    dsimp only
    have hm:cC t os n=oI (nodeAt t (os.getD n [])) e.2:=by unfold cC;rw[if_neg D,E]
    have B:[n].filter (fun i=>decide ((nodeAt t (os.getD i [])).kind=48)&&decide (aK t os i=i))=[]:=by
     rw[List.filter_cons_of_neg (by rw[decide_eq_false D];simp),List.filter_nil]
    rw[B,List.map_nil,List.append_nil,List.map_cons,List.map_nil,hm]
  ·rw[if_neg hk]
   have hm:cC t os n=(nodeAt t (os.getD n [])).mem:=by unfold cC;rw[if_pos (eQ hk)]
   have B:[n].filter (fun i=>decide ((nodeAt t (os.getD i [])).kind=48)&&decide (aK t os i=i))=[]:=by
    rw[List.filter_cons_of_neg (by rw[decide_eq_false hk];simp),List.filter_nil]
   rw[B,List.map_nil,List.append_nil,List.map_cons,List.map_nil,hm]
theorem pW (hp:∀p∈os,p∈t.map (·.path)):dH t os=(List.range os.length).map (cC t os):=by
 have:=Fe hp os.length (Qk _);rw[List.take_of_length_le (Qk _)]at this;unfold dH;rw[this]
end
end ni
namespace Tre
open Go.ChangeShapes Go.WideShapes Go.ChangeAt Go.RowKit Base bM cr Bk Block Go.Lib
def iO (w:World) (n:Nat) (bs:List UInt8) (e:Ending) (w':World):Prop:=
 ∃p c,e=.returned (.slice p n c)∧n≤c∧c≤maxLen∧cD w' p n bs∧(∀x,p=some x→w.heap.size≤x.block)∧Below w.heap.size w w'
theorem kb (p:Option Addr) (n c:Nat) (bs:List UInt8) (w:World) (h:cD w p n bs) (hl:bs.length=n) (hn:n≤140737488351232):
 Calls Tryz.prog 49 #[.slice p n c] w (iO w n bs):=by
 obtain⟨i0,hi,O,R,T⟩:=info_parts lU;have U:=Qh hi;have Y:=Qh O;have X:=Qh R;have Z:=Qh T;have A:=Qh h;have B:=Qh hl;have d:∀w,(binOp .eql 26 (.slice p n c) (.slice none 0 0)).run Tryz.prog w=.ok (.bool p.isNone) w:=fun w=>Lib.run_eql_slice_nil w 26 5 p n c 0 0 Tryz.underlying26
 clear hi O R T h hl
 go_enter Tryz.func49,Tryz.ntmps49
 cases p with
 |none=>
  have h0:n=0:=by
   rcases Nat.eq_zero_or_pos n with h0|h0
   ·exact h0
   ·obtain⟨_,_,he,_⟩:=A.out h0
    cases he
  subst h0;go_wp2;go_ret;have V:bs=[]:=List.eq_nil_of_length_eq_zero B.out;subst V;exact⟨none,0,rfl,Qk _,by decide,cD.none_ _ _,(fun x h=>by cases h),Below.refl _ _⟩
 |some a=>
  go_wp2_with (at_builtin;refine kE rfl _ _ 26 rfl w.heap.size 5 i0 Tryz.underlying26 U.out Y.out X.out Z.out _ 0 [] rfl (World.ownsRow_made w #[] 0 (Qk _) (by decide) rfl) (some a) n c bs rfl (A.out.alloc _) B.out ?d2 ?d3 ?_)
  case d2=>omega
  case d3=>simp
  intro v2 w2 L M;have D:eY w2 w.heap.size v2 n bs:=by simpa [eY]using L
  have N:Kept ag w w2:=(((Kept.refl ag w).alloc _)).grown M (by intro k hk;simp[Value.ownBlock]at hk;omega);have E:Below w.heap.size w w2:=N.below (Qk _) (fun _ h=>h.elim);obtain⟨b,c2,rfl,I,H,J,_,G⟩:=D.slice;have P:=Qh (And.intro I (And.intro H (And.intro J (And.intro G E))));clear L M D N E I H J G;go_wp2;go_ret;exact⟨b,c2,rfl,P.out.1,P.out.2.1,P.out.2.2.1,fun x W=>(P.out.2.2.2.1 x W).1,P.out.2.2.2.2⟩
theorem cY {t:List ay} (h:bG t=true):eZ t:=by
 simp only[bG,Bool.and_eq_true,List.all_eq_true,List.mem_range]at h
 have key:∀k,k≤t.length→eZ (t.take k):=fun k=>by
  induction k with
  |zero=>exact fun _=>List.Pairwise.nil
  |succ k ih=>
   intro hk;have:=h.2 k (by omega);rw[aB,Bool.and_eq_true,stepT,Bool.and_eq_true,Bool.or_eq_true]at this;refine mu (by omega) (ih (by omega)) ?_;rcases this.1.2 with h1|h1
   ·exact .inl (of_decide_eq_true h1)
   ·exact .inr h1
 have:=key t.length (Qk _)
 rwa [List.take_length]at this
end Tre
namespace ni
open Tre
section
variable {t:List ay} {os:List (List UInt8)}
theorem qC (hg:bG t=true) (hk:k<t.length):et t k=true:=by
 unfold bG at hg;simp only[Bool.and_eq_true,List.all_eq_true,List.mem_range]at hg;exact hg.2 k hk
theorem mK (hk:k<t.length):t.getD k bU=t[k]:=by rw[List.getD,Qd hk];rfl
theorem eO (hg:bG t=true) {x:ay} (hx:x∈t):x.kind≠49∧bD x.mem=true∧(x.kind≠48→x.af=[]):=by
 obtain⟨k,hk,rfl⟩:=List.mem_iff_getElem.1 hx;have h:=qC hg hk;unfold et eN at h
 dsimp only at h
 rw[mK hk]at h;simp only[Bool.and_eq_true,decide_eq_true_eq]at h;refine⟨h.1.1.1,h.1.1.2,fun B=>?_⟩;have A:=h.2;unfold iJ at A;rw[if_neg B]at A;exact of_decide_eq_true A
theorem jH (hg:bG t=true) {x:ay} (hx:x∈t):nodeAt t x.path=x:=by
 obtain⟨k,hk,rfl⟩:=List.mem_iff_getElem.1 hx;unfold nodeAt;rw[ub (cY hg) hk (by rw[mK hk]),Option.getD_some,mK hk]
theorem kL (hg:bG t=true) {x:ay} (hx:x∈t) (eG:x.kind=48):∃y∈t,y.path=x.af∧y.kind=48∧y.af=y.path∧(y.mode=x.mode∧y.uid=x.uid∧y.gid=x.gid∧y.time=x.time)∧y.body=x.body∧(y=x∨dx y.path x.path=true):=by
 obtain⟨k,hk,rfl⟩:=List.mem_iff_getElem.1 hx;have h:=qC hg hk;unfold et at h
 dsimp only at h
 rw[mK hk]at h;rw[Bool.and_eq_true]at h;have A:=h.2;unfold iJ at A;rw[if_pos eG]at A
 cases hf:dD (t.take (k+1)) t[k].af with
 |none=>rw[hf]at A;cases A
 |some y=>
  rw[hf]at A;unfold Dg at A;simp only[Bool.and_eq_true,decide_eq_true_eq]at A;unfold dD at hf;have hy:=List.mem_of_find?_eq_some hf;have B:=List.find?_some hf;have H:(y.path==t[k].af)=true:=B;obtain⟨j,G,e⟩:=List.mem_iff_getElem.1 hy;rw[Qg]at G;rw[List.getElem_take]at e;refine⟨y,List.mem_of_mem_take hy,by simpa using H,A.1,A.2.1,A.2.2.1,A.2.2.2,?_⟩;rcases Nat.lt_or_ge j k with E|MN
  ·right
   have:=gH (cY hg) E hk;rw[mK hk,mK (show j<t.length by omega),e]at this;exact this
  ·left
   have D:j=k:=by omega
   subst D;exact e.symm
theorem qz {m:aq} (h:bD m=true) (hk:m.kind=48):m.target=[]:=by
 unfold bD at h;simp only[Bool.and_eq_true]at h;have A:=h.2;rw[if_pos (.inl hk)]at A
 simpa using A
theorem Ck (hg:bG t=true) {x y:ay} (hx:x∈t) (hy:y∈t) (h1:x.kind=48) (h2:y.kind=48) (hl:y.af=x.af):x=gV x.path y.mem x.af:=by
 obtain⟨a,H,D,a2,a3,a4,a5,_⟩:=kL hg hx h1;obtain⟨b,I,E,J,L,A,G,_⟩:=kL hg hy h2;have B:a=b:=by rw[←jH hg H,←jH hg I,D,E,hl]
 subst B;have t1:=qz (eO hg hx).2.1 h1;have t2:=qz (eO hg hy).2.1 h2
 cases x
 cases y
 simp only[ay.mem]at*;simp only[gV,ay.mk.injEq];refine⟨trivial,t1.trans t2.symm,trivial,h1.trans h2.symm,?_,?_,?_,?_,?_⟩
 ·exact a4.1.symm.trans A.1
 ·exact a4.2.1.symm.trans A.2.1
 ·exact a4.2.2.1.symm.trans A.2.2.1
 ·exact a4.2.2.2.symm.trans A.2.2.2
 ·exact a5.symm.trans G
theorem jJ (hg:bG t=true) (ho:cz t os):os.Nodup:=by
 refine ho.nodup_iff.2 ?_;unfold List.Nodup;rw[List.pairwise_map];exact(cY hg).imp fun h=>nQ h
theorem mT (ho:cz t os):∀p∈os,p∈t.map (·.path):=fun p A=>ho.mem_iff.1 A
theorem ej (ho:cz t os) (hi:i<os.length):nodeAt t (os.getD i [])∈t∧(nodeAt t (os.getD i [])).path=os.getD i []:=by
 have h:os.getD i []∈t.map (·.path):=by
  refine mT ho _ ?_;rw[List.getD,Qd hi];exact List.getElem_mem hi
 exact⟨(jG h).2,(jG h).1⟩
theorem kR (ho:cz t os):(dH t os).length=os.length:=by rw[pW (mT ho)];simp
theorem eI (ho:cz t os) (hi:i<os.length):(dH t os).getD i bB=cC t os i:=by
 rw[pW (mT ho),List.getD,List.getElem?_map,List.getElem?_range hi];rfl
theorem G0 {x:ay} (h:bD x.mem=true) {p:List UInt8} (hp:dn p=true):bD (oI x p)=true:=by
 unfold bD at h⊢;simp only[Bool.and_eq_true]at h⊢;refine⟨⟨⟨⟨h.1.1.1.1,h.1.1.1.2⟩,decide_eq_true (Nat.zero_le _)⟩,by show((49:UInt8)==48||([]:List UInt8)==[])=true;decide⟩,?_⟩;show(if(49:UInt8)=48∨(49:UInt8)=53 then p==[]else if(49:UInt8)=49 then dn p else if(49:UInt8)=50 then _ else false)=true;rw[if_neg (by decide),if_pos rfl];exact hp
theorem tB (hg:bG t=true) (ho:cz t os) (hi:i<os.length):bD (cC t os i)=true:=by
 have B:=ej ho hi;unfold cC;split
 ·exact(eO hg B.1).2.1
 ·have A:=ej ho (show aK t os i<os.length from Nat.lt_of_le_of_lt (yG i) hi)
  refine G0 (eO hg B.1).2.1 ?_;rw[←A.2];exact CD (eO hg A.1).2.1
theorem tw (hg:bG t=true) (ho:cz t os):∀m∈dH t os,bD m=true:=fun m hm=>by
 rw[pW (mT ho)]at hm;obtain⟨i,hi,rfl⟩:=List.mem_map.1 hm;exact tB hg ho (List.mem_range.1 hi)
def Md (t:List ay) (os:List (List UInt8)) (k:Nat):St:=(List.range k).map fun i=>(os.getD i [],aK t os i)
theorem xe (hn:os.Nodup) (hk:k≤os.length):iW (Md t os k):=by
 unfold iW Md;rw[List.map_map];unfold List.Nodup;rw[List.pairwise_iff_getElem];intro i j hi A B;rw[Qi,List.length_range]at hi A;rw[List.getElem_map,List.getElem_map,List.getElem_range,List.getElem_range];have:=(List.pairwise_iff_getElem.1 hn) i j (by omega) (by omega) B;show os.getD i []≠os.getD j [];rw[List.getD,List.getD,Qd (by omega),Qd (by omega)];exact this
theorem FD (hn:os.Nodup) (hk:k<os.length):jr (Md t os k) (os.getD k []) (aK t os k)=Md t os (k+1):=by
 unfold jr Md;rw[List.range_succ,List.map_append]
 congr 1
 refine List.filter_eq_self.2 fun e he=>?_
 obtain⟨i,hi,rfl⟩:=List.mem_map.1 he;rw[List.mem_range]at hi;have:=(List.pairwise_iff_getElem.1 hn) i k (by omega) (by omega) hi
 have A:os.getD i []≠os.getD k []:=by
  rw[List.getD,List.getD,Qd (by omega),Qd (by omega)];exact this
 simpa using A
theorem tx (hg:bG t=true) (ho:cz t os):∀k,k≤os.length→eH (dH t os) k=.ok (Md t os k)
 |0,_=>rfl
 |k+1,hk=>by
  have D:=jJ hg ho;have A:k<os.length:=by omega
  have E:=ej ho A;refine tq (tx hg ho k (by omega)) ?_;unfold jY
  dsimp only
  rw[eI ho A]
  by_cases B:aK t os k=k
  ·have hm:cC t os k=(nodeAt t (os.getD k [])).mem:=by unfold cC;rw[if_pos B]
   rw[hm,if_neg (show ¬(nodeAt t (os.getD k [])).mem.kind=49 from(eO hg E.1).1)];have:=FD (t:=t) D A;rw[B]at this;show some (jr _ (nodeAt t (os.getD k [])).path k)=_;rw[E.2,this]
  ·have G:aK t os k<k:=by have:=yG (t:=t) (os:=os) k;omega
   have hm:cC t os k=oI (nodeAt t (os.getD k [])) (os.getD (aK t os k) []):=by unfold cC;rw[if_neg B]
   have I:(nodeAt t (os.getD k [])).kind=48:=by
    by_cases h:(nodeAt t (os.getD k [])).kind=48
    ·exact h
    ·exact absurd (eQ h) B
   rw[hm,if_pos (show(oI (nodeAt t (os.getD k [])) (os.getD (aK t os k) [])).kind=49 from rfl)]
   have hl:Tre.look (Md t os k) (oI (nodeAt t (os.getD k [])) (os.getD (aK t os k) [])).target=some (aK t os k):=by
    have J:(os.getD (aK t os k) [],aK t os (aK t os k))∈Md t os k:=List.mem_map.2 ⟨aK t os k,List.mem_range.2 G,rfl⟩;have:=Ao (xe D (by omega)) J;rw[pj]at this;exact this
   rw[hl]
   dsimp only
   have H:((dH t os).getD (aK t os k) bB).kind=48:=by
    rw[eI ho (by omega)];have:cC t os (aK t os k)=(nodeAt t (os.getD (aK t os k) [])).mem:=by unfold cC;rw[if_pos (pj k)]
    rw[this];exact(mq k).trans I
   rw[if_pos H];show some (jr _ (nodeAt t (os.getD k [])).path (aK t os k))=_;rw[E.2,FD D A]
theorem Ap {a b:List (List UInt8)} (ha:a.Pairwise fun x y=>dx x y=true) (hb:b.Pairwise fun x y=>dx x y=true) (h:a.Perm b):a=b:=
 List.Perm.eq_of_pairwise (fun x y _ _ (h1:dx x y=true) (h2:dx y x=true)=>by rw[oS h1]at h2;cases h2) ha hb h
theorem Dk (hg:bG t=true) (ho:cz t os):gR (dH t os)=(t,0,0):=by
 have hn:=jJ hg ho;have hS:=tx hg ho os.length (Qk _);have hA:=xe (t:=t) hn (Qk _);have e:=zJ (su (tw hg ho)) (by rw[kR ho];exact hS);rw[e]
 congr 1
 obtain⟨T,Z⟩:∃T,lf (Md t os os.length)=T:=⟨_,rfl⟩
 have Y:T.Perm (Md t os os.length):=by rw[←Z];exact nV _
 have D:Eu T:=by rw[←Z];exact ud hA
 have u:∀a∈T,∃i,i<os.length∧a=(os.getD i [],aK t os i):=fun a E=>by
  obtain⟨i,hi,rfl⟩:=List.mem_map.1 (Y.mem_iff.1 E);exact⟨i,List.mem_range.1 hi,rfl⟩
 have Uo:T.map (·.1)=t.map (·.path):=by
  refine Ap (List.pairwise_map.2 D) (List.pairwise_map.2 (cY hg)) ?_;refine(Y.map _).trans (List.Perm.trans (List.Perm.of_eq ?_) ho);unfold Md;rw[List.map_map];apply List.ext_getElem
  ·simp
  ·intro i h1 U
   simp only[List.getElem_map,List.getElem_range,Function.comp];rw[List.getD,Qd U];rfl
 have UF:∀a∈T,qN (dH t os) T a=nodeAt t a.1:=fun a E=>by
  obtain⟨i,hi,rfl⟩:=u a E;have N:aK t os i<os.length:=Nat.lt_of_le_of_lt (yG i) hi;have B:=ej ho hi;have hr:=ej ho N
  have hm:(dH t os).getD (aK t os i) bB=(nodeAt t (os.getD (aK t os i) [])).mem:=by
   rw[eI ho N];unfold cC;rw[if_pos (pj i)]
  unfold qN;rw[show((os.getD i [],aK t os i):List UInt8 × Nat).2=aK t os i from rfl,hm,show((os.getD i [],aK t os i):List UInt8 × Nat).1=os.getD i []from rfl]
  by_cases A:(nodeAt t (os.getD i [])).kind=48
  ·have X:(nodeAt t (os.getD (aK t os i) [])).kind=48:=(mq i).trans A
   have o:=gY (t:=t) (os:=os) A;have XX:=Ck hg B.1 hr.1 A X o.2.1.2.2;rw[if_pos (show(nodeAt t (os.getD (aK t os i) [])).mem.kind=48 from X)]
   have Uv:np T (aK t os i)=(nodeAt t (os.getD i [])).af:=by
    obtain⟨y,hy,g,y2,y3,_,_,_⟩:=kL hg B.1 A;have d:y.path∈os:=ho.mem_iff.2 (List.mem_map_of_mem hy);obtain⟨a,m,E⟩:=List.mem_iff_getElem.1 d;have I:os.getD a []=y.path:=by rw[List.getD,Qd m,Option.getD_some,E]
    have L:nodeAt t (os.getD a [])=y:=by rw[I];exact jH hg hy
    have YI:zf t os i a:=⟨by rw[L];exact y2,A,by rw[L,y3,g]⟩
    have V9:aK t os i=aK t os a:=tW YI;have NN:(y.path,aK t os i)∈T:=Y.mem_iff.2 (List.mem_map.2 ⟨a,List.mem_range.2 m,by rw[I,V9]⟩);obtain⟨f,hf,H⟩:=List.mem_iff_getElem.1 NN;have J:T.getD f ([],0)=(y.path,aK t os i):=by rw[List.getD,Qd hf,Option.getD_some,H]
    have:=De hf (fun j hj U=>by
     have l:j<T.length:=by omega
     have c:T.getD j ([],0)=T[j]:=by rw[List.getD,Qd l];rfl
     rw[J,c]at U;obtain⟨b,hb,G⟩:=u T[j] (List.getElem_mem l)
     have M:aK t os b=aK t os i:=by
      have:=congrArg Prod.snd G;rw[U]at this;exact this.symm
     have W:=ej ho hb
     have p:(nodeAt t (os.getD b [])).kind=48:=by
      rw[←mq (t:=t) (os:=os) b,M];exact X
     have jy:(nodeAt t (os.getD b [])).af=(nodeAt t (os.getD i [])).af:=by
      rw[←(gY (t:=t) (os:=os) p).2.1.2.2,M];exact o.2.1.2.2
     obtain⟨z,hz,z1,_,_,_,_,z6⟩:=kL hg W.1 p;have O:z.path=y.path:=by rw[z1,jy,g]
     have r:=(List.pairwise_iff_getElem.1 D) j f l hf hj;rw[H,G]at r;have V:dx (os.getD b []) y.path=true:=r;rcases z6 with z6|z6
     ·rw[←W.2,←z6,O,ji]at V
      cases V
     ·rw[O,W.2,oS V]at z6
      cases z6)
    rw[J]at this;exact this.trans g
   rw[Uv];have R:=B.2
   conv=>rhs;rw[XX,R]
  ·rw[if_neg (show ¬(nodeAt t (os.getD (aK t os i) [])).mem.kind=48 from fun h=>A ((mq i).symm.trans h)),eQ A]
   have q:=(eO hg B.1).2.2 A;have R:=B.2;obtain⟨x,UT⟩:∃x,nodeAt t (os.getD i [])=x:=⟨_,rfl⟩
   rw[UT]at R q⊢;rw[←R];exact Ol rfl q.symm
 unfold mC;rw[Z,List.map_congr_left UF];have:T.map (fun a=>nodeAt t a.1)=(T.map (·.1)).map (nodeAt t):=by rw[List.map_map];rfl
 rw[this,Uo,List.map_map]
 conv=>rhs;rw[←List.map_id t]
 exact List.map_congr_left fun x B=>jH hg B
end
def yI (ms:List aq) (i:Nat):Bool:=
 let m:=ms.getD i bB
 ((List.range i).all fun k=>!decide ((ms.getD k bB).path=m.path))&&((!decide (m.kind=49)||(List.range i).any fun k=>decide ((ms.getD k bB).path=m.target)&&decide ((ms.getD k bB).kind=48))&&bD m)
def ue (ms:List aq):Bool:=(List.range ms.length).all (yI ms)
section
variable {t:List ay} {os:List (List UInt8)}
theorem nR (i:Nat):(cC t os i).path=(nodeAt t (os.getD i [])).path:=by
 unfold cC;split<;>rfl
theorem H7 (i:Nat):cC t os (aK t os i)=(nodeAt t (os.getD (aK t os i) [])).mem:=by
 unfold cC;rw[if_pos (pj i)]
theorem EH (hi:i<os.length):os.getD i []=os[i]:=by rw[List.getD,Qd hi];rfl
theorem NI (hn:os.Nodup) (qD:i<j) (hj:j<os.length):os.getD i []≠os.getD j []:=by
 rw[EH (show i<os.length by omega),EH hj];exact(List.pairwise_iff_getElem.1 hn) i j (by omega) hj qD
theorem An (hg:bG t=true) (ho:cz t os):ue (dH t os)=true:=by
 unfold ue;rw[List.all_eq_true];intro i hi;rw[List.mem_range,kR ho]at hi;have B:=ej ho hi;unfold yI
 dsimp only
 rw[eI ho hi,Bool.and_eq_true,Bool.and_eq_true];refine⟨?_,?_,tB hg ho hi⟩
 ·rw[List.all_eq_true]
  intro k hk;rw[List.mem_range]at hk;rw[eI ho (by omega),nR,nR,B.2,(ej ho (show k<os.length by omega)).2];have:=NI (jJ hg ho) hk hi
  simpa using this
 ·rw[Bool.or_eq_true]
  by_cases A:aK t os i=i
  ·left
   have hm:cC t os i=(nodeAt t (os.getD i [])).mem:=by unfold cC;rw[if_pos A]
   have hk:¬(cC t os i).kind=49:=by rw[hm];exact(eO hg B.1).1
   simpa using hk
  ·right
   have D:aK t os i<i:=by have:=yG (t:=t) (os:=os) i;omega
   have hm:cC t os i=oI (nodeAt t (os.getD i [])) (os.getD (aK t os i) []):=by unfold cC;rw[if_neg A]
   have E:(nodeAt t (os.getD i [])).kind=48:=by
    by_cases h:(nodeAt t (os.getD i [])).kind=48
    ·exact h
    ·exact absurd (eQ h) A
   rw[List.any_eq_true];refine⟨aK t os i,List.mem_range.2 D,?_⟩;rw[eI ho (by omega),H7,Bool.and_eq_true];refine⟨decide_eq_true ?_,decide_eq_true ((mq i).trans E)⟩;rw[hm];exact(ej ho (show aK t os i<os.length by omega)).2
end
theorem nt:∀(a b:List (List UInt8)),a.Nodup→(∀x∈a,x∈b)→b.length≤a.length→a.Perm b
 |[],b,_,_,hl=>by
  have:b=[]:=List.eq_nil_of_length_eq_zero (Nat.le_zero.1 hl);rw[this]
 |x::a,b,hn,hs,hl=>by
  rw[List.nodup_cons]at hn;have D:x∈b:=hs x (List.mem_cons_self ..);have A:=List.perm_cons_erase D
  have hlen:(b.erase x).length≤a.length:=by
   have:=A.length_eq;simp only[List.length_cons]at this hl;omega
  refine List.Perm.trans (List.Perm.cons x (nt a (b.erase x) hn.2 (fun y hy=>?_) hlen)) A.symm;have B:y≠x:=fun e=>hn.1 (by rw[←e];exact hy)
  exact(List.mem_erase_of_ne B).2 (hs y (List.mem_cons_of_mem _ hy))
theorem mS {t:List ay} (hg:bG t=true) (os:List (List UInt8)):cz t os↔os.length=t.length∧(∀p∈os,(dD t p).isSome=true)∧os.Nodup:=by
 constructor
 ·intro h
  refine⟨by have:=h.length_eq;rwa [Qi]at this,fun p A=>?_,jJ hg h⟩;obtain⟨x,B,rfl⟩:=List.mem_map.1 (h.mem_iff.1 A);unfold dD;rw[List.find?_isSome];exact⟨x,B,by simp⟩
 ·rintro⟨h1,h2,h3⟩
  refine nt os _ h3 (fun p A=>?_) (by rw[Qi];omega);have:=h2 p A;unfold dD at this;rw[List.find?_isSome]at this;obtain⟨x,B,he⟩:=this;exact List.mem_map.2 ⟨x,B,by simpa using he⟩
end ni
namespace Bl
open Go.Lib Tre ni Rec Attr
variable {m:aq}
def fR (t:List ay):List (List UInt8):=t.map (·.path)
def dI (t:List ay):List aq:=dH t (fR t)
def jK (t:List ay):List UInt8:=vF (dI t)
def jQ (bs:List UInt8):List ay × Int × Nat:=
 if(cG bs).2.1=0 then gR (cG bs).1 else([],(cG bs).2.1,(cG bs).2.2)
def eR (ms:List aq):Bool:=(List.range ms.length).all fun i=>decide (i=0)||dx (ms.getD (i - 1) bB).path (ms.getD i bB).path
def ny (ms:List aq) (k:Nat):Bool:=(List.range k).all fun i=>decide (i=0)||dx (ms.getD (i - 1) bB).path (ms.getD i bB).path
theorem xa (ms:List aq):ny ms 1=true:=rfl
theorem tY (ms:List aq) (k:Nat) (hk:k≠0):ny ms (k+1)=(ny ms k&&dx (ms.getD (k - 1) bB).path (ms.getD k bB).path):=by
 unfold ny;rw[List.range_succ,List.all_append,List.all_cons,List.all_nil,Bool.and_true,decide_eq_false hk,Bool.false_or]
theorem wZ (ms:List aq):ny ms ms.length=eR ms:=rfl
theorem LY {ms:List aq} (h:eR ms=true) (k:Nat) (hk:k≤ms.length):ny ms k=true:=by
 unfold eR at h;unfold ny;rw[List.all_eq_true]at h⊢;intro i hi;exact h i (List.mem_range.2 (by have:=List.mem_range.1 hi;omega))
section
variable {t:List ay}
theorem eJ (t:List ay):cz t (fR t):=List.Perm.refl _
theorem jo (t:List ay):(fR t).length=t.length:=by unfold fR;rw[Qi]
theorem tO (hi:i<t.length):(fR t).getD i []=t[i].path:=by
 unfold fR;rw[List.getD,List.getElem?_map,Qd hi];rfl
theorem IL (hg:bG t=true) (hi:i<t.length) (hj:j<t.length) (h:t[i].path=t[j].path):i=j:=by
 have A:=List.pairwise_iff_getElem.1 (cY hg);rcases Nat.lt_trichotomy i j with h1|h1|h1
 ·exact absurd h (nQ (A i j hi hj h1))
 ·exact h1
 ·exact absurd h.symm (nQ (A j i hj hi h1))
theorem Lw (hg:bG t=true) (hi:i<t.length):nodeAt t ((fR t).getD i [])=t[i]:=by
 have h:=ej (eJ t) (i:=i) (by rw[jo];exact hi);obtain⟨j,B,e⟩:=List.mem_iff_getElem.1 h.1;have A:=h.2;rw[←e,tO hi]at A;rw[←e];have:=IL hg B hi A;subst this;rfl
theorem iK (t:List ay):(dI t).length=t.length:=by unfold dI;rw[kR (eJ t),jo]
theorem oW (hi:i<t.length):(dI t).getD i bB=cC t (fR t) i:=eI (eJ t) (by rw[jo];exact hi)
theorem ei (hg:bG t=true):∀m∈dI t,bD m=true:=tw hg (eJ t)
theorem fP (hg:bG t=true):(dI t).length≤4096:=by
 rw[iK];unfold bG at hg;simp only[Bool.and_eq_true,decide_eq_true_eq]at hg;exact hg.1
theorem Bf (hg:bG t=true):jQ (jK t)=(t,0,0):=by
 have h:=wR (fun m hm=>eF (ei hg m hm)) (fP hg) 0;rw[List.replicate_zero,List.append_nil]at h;unfold jQ jK;rw[h,if_pos rfl];exact Dk hg (eJ t)
theorem Iz (hg:bG t=true):cG (jK t)=(dI t,0,0):=by
 have h:=wR (fun m hm=>eF (ei hg m hm)) (fP hg) 0;rw[List.replicate_zero,List.append_nil]at h;exact h
theorem Kq (hg:bG t=true):t.length≤4096:=by
 have:=fP hg
 rwa [iK]at this
theorem wD (hg:bG t=true) (hi:i<t.length):(cC t (fR t) i).path=t[i].path:=by
 rw[nR,Lw hg hi]
theorem rz (hg:bG t=true):eR (dI t)=true:=by
 unfold eR;rw[List.all_eq_true];intro i hi;rw[List.mem_range,iK]at hi;rw[Bool.or_eq_true,decide_eq_true_eq];rcases Nat.eq_zero_or_pos i with h0|h0
 ·exact .inl h0
 ·right
  rw[oW hi,oW (show i - 1<t.length by omega),wD hg hi,wD hg (show i - 1<t.length by omega)];exact List.pairwise_iff_getElem.1 (cY hg) (i - 1) i (by omega) hi (by omega)
theorem ID (h:dd m):∀r∈aO m,r.1.length+r.2.length≤230:=by
 intro r hr;have hu:=h.uid;have A:=h.gid;have B:=h.time;have D:=h.tN;have E:=h.xk;simp only[aO,List.mem_append]at hr
 have d:∀(c:Prop) [Decidable c] (k v:List UInt8),r∈(if c then[(k,v)]else[])→r=(k,v):=fun c _ k v hr=>by
  split at hr
  ·exact List.mem_singleton.1 hr
  ·cases hr
 have hk:∀i,i<6→(aI i).length≤8:=fun i hi=>by
  obtain rfl|rfl|rfl|rfl|rfl|rfl:i=0∨i=1∨i=2∨i=3∨i=4∨i=5:=by omega
  all_goals decide
 rcases hr with(((hr|hr)|hr)|hr)|hr<;>(have e:=d _ _ _ hr;subst e)
 ·have:=hk 4 (by omega);show(aI 4).length+m.path.length≤230;omega
 ·have:=hk 5 (by omega);show(aI 5).length+m.target.length≤230;omega
 ·have h1:=hk 0 (by omega);have:=mJ hu.1 (by omega);show(aI 0).length+(aJ _).length≤230;omega
 ·have h1:=hk 1 (by omega);have:=mJ A.1 (by omega);show(aI 1).length+(aJ _).length≤230;omega
 ·have h1:=hk 2 (by omega);have:=mJ B.1 (by omega);show(aI 2).length+(aJ _).length≤230;omega
theorem Hv (h:dd m):(aN (aO m)).length≤1536:=by
 have h1:=gF h
 have B:(aO m).length≤5:=by
  have d:∀(c:Prop) [Decidable c] (k v:List UInt8),(if c then[(k,v)]else[]).length≤1:=fun c _ k v=>by split<;>simp
  unfold aO;simp only[Qf];have D:=d (ix m=true) (aI 4) m.path;have a2:=d (gh m=true) (aI 5) m.target;have a3:=d (2097151<m.uid) (aI 0) (aJ m.uid.toNat);have a4:=d (2097151<m.gid) (aI 1) (aJ m.gid.toNat);have a5:=d (8589934591<m.time) (aI 2) (aJ m.time.toNat);omega
 have E:=tv (n:=230) (l:=aO m) (fun r A=>⟨h1 r A,ID h r A⟩);have G:(aO m).length*(230+10)≤5*240:=Nat.mul_le_mul B (Qk _);omega
theorem AM (h:dd m):512+aV m.body.length≤(fY m).length∧(fY m).length≤512+aV m.body.length+2048∧(fY m).length % 512=0:=by
 have hl:=Hv h;have D:aV (aN (aO m)).length≤1536:=by unfold aV;omega
 have hm:=LL h;refine⟨hm.2,?_,hm.1⟩;obtain⟨H,_,A,_,(⟨_,e⟩|⟨X,_,B,_,e⟩)⟩:=kt h
 ·rw[e,Qf,bE,A];omega
 ·rw[e,Qf,Qf,Qf,bE,bE,A,B];omega
theorem nu:∀(ms:List aq),(∀m∈ms,dd m)→512*ms.length+(ms.map fun m=>aV m.body.length).sum≤(cA ms).length∧(cA ms).length≤512*ms.length+(ms.map fun m=>aV m.body.length).sum+2048*ms.length∧(cA ms).length % 512=0
 |[],_=>by simp[cA]
 |m::ms,h=>by
  obtain⟨B,a2,a3⟩:=nu ms fun x A=>h x (List.mem_cons_of_mem _ A)
  obtain⟨D,E,G⟩:=AM (h m (List.mem_cons_self ..));rw[fS,Qf,List.length_cons,List.map_cons,List.sum_cons];omega
end
end Bl
namespace ni
open Go.ChangeShapes Go.WideShapes Go.ChangeAt Go.RowKit Base bM cr Bk Rec Block Tre Go.Lib
def Dy (t:List ay) (os:List (List UInt8)):Bool:=decide (os.length=t.length)&&(os.all (fun p=>(dD t p).isSome)&&decide os.Nodup)
theorem tJ {t:List ay} (hg:bG t=true) (os:List (List UInt8)):Dy t os=true↔cz t os:=by
 rw[mS hg];simp only[Dy,Bool.and_eq_true,decide_eq_true_eq,List.all_eq_true]
def RJ (t:List ay) (os:List (List UInt8)):List aq × Int:=if Dy t os=true then(dH t os,0)else([],1)
def og (w:World) (r:List aq × Int) (e:Ending) (w':World):Prop:=
 ∃q d ys,e=.returned (.tuple #[.slice q r.1.length d,.int .i64 r.2])∧ys.map MP.m=r.1∧cN w' q r.1.length ys∧r.1.length≤d∧d≤maxLen∧Below w.heap.size w w'
def Qw (w:World) (q:Option Addr) (n:Nat) (cc:List (List (List UInt8))):Prop:=
 cc.length=n∧∃ps:List (Option Addr × Nat),ps.length=n∧(∀i,i<n→lE w (ps.getD i (none,0)).1 (cc.getD i []).length (cc.getD i []))∧
  (0<n→∃b o,q=some ⟨b,o,none⟩∧b<w.heap.size∧∀i,i<n→w.cell? ⟨b,o+i,none⟩=some (.slice (ps.getD i (none,0)).1 (cc.getD i []).length (ps.getD i (none,0)).2))
theorem Qw.below {q:Option Addr} {cc:List (List (List UInt8))} (h:Qw w q n cc) (hb:Below w.heap.size w w'):Qw w' q n cc:=by
 obtain⟨h1,ps,D,E,G⟩:=h;refine⟨h1,ps,D,fun i hi=>(E i hi).below hb,fun B=>?_⟩;obtain⟨b,o,rfl,A,hc⟩:=G B;refine⟨b,o,rfl,Nat.lt_of_lt_of_le A hb.size,fun i hi=>?_⟩;rw[hb.cell (p:=⟨b,o+i,none⟩) A];exact hc i hi
structure oh (w:World) (p:Option Addr) (n c:Nat) (xs:List NP):Prop where
 at_:aY w p n xs
 nc:n≤c
 cm:c≤maxLen
 few:n≤100000
 room:∀x∈xs,x.m.path.length≤140737488351232∧x.m.target.length≤140737488351232∧x.m.af.length≤140737488351232∧x.m.body.length≤140737488351232
 QI:bG (xs.map NP.m)=true
theorem oh.below {c:Nat} {xs:List NP} (h:oh w p n c xs) (hb:Below w.heap.size w w'):oh w' p n c xs:=⟨h.at_.below hb,h.nc,h.cm,h.few,h.room,h.QI⟩
structure Et (w:World) (p:Option Addr) (n c:Nat) (os:List (List UInt8)):Prop where
 at_:lE w p n os
 nc:n≤c
 cm:c≤maxLen
 few:n≤100000
 room:∀s∈os,s.length≤140737488351232
structure vC (w:World) (p:Option Addr) (n c:Nat) (xs:List MP):Prop where
 at_:cN w p n xs
 nc:n≤c
 cm:c≤maxLen
 few:n≤100000
 room:∀x∈xs,x.m.path.length≤140737488351232∧x.m.target.length≤140737488351232∧x.m.body.length≤140737488351232
end ni
namespace Bl
open Go.ChangeShapes Go.WideShapes Go.ChangeAt Go.RowKit Base bM cr Bk Rec Tre ni Go.Lib
structure sg (w:World) (p:Option Addr) (n c:Nat) (xs:List NP):Prop where
 at_:aY w p n xs
 nc:n≤c
 cm:c≤maxLen
 room:∀x∈xs,x.m.path.length≤140737488351232∧x.m.target.length≤140737488351232∧x.m.af.length≤140737488351232∧x.m.body.length≤140737488351232
theorem sg.below {c:Nat} {xs:List NP} (h:sg w p n c xs) (hb:Below w.heap.size w w'):sg w' p n c xs:=⟨h.at_.below hb,h.nc,h.cm,h.room⟩
def lB (w:World) (t:List ay) (e:Ending) (w':World):Prop:=
 (bG t=true∧∃p c,e=.returned (.tuple #[.slice p (jK t).length c,.int .i64 0])∧(jK t).length≤c∧c≤maxLen∧cD w' p (jK t).length (jK t)∧Below w.heap.size w w')∨
 (bG t=false∧∃p c,e=.returned (.tuple #[.slice p 0 c,.int .i64 1])∧Below w.heap.size w w')
def xA (w:World) (bs:List UInt8) (e:Ending) (w':World):Prop:=
 ∃q d zs,e=.returned (.tuple #[.slice q zs.length d,.agg #[.int .i64 (jQ bs).2.1,.int .i64 ((jQ bs).2.2:Nat)]])∧zs.map NP.m=(jQ bs).1∧aY w' q zs.length zs∧zs.length≤d∧d≤maxLen∧Below w.heap.size w w'
structure EmitC:Prop where
 pack:∀(w:World) (p:Option Addr) (n c:Nat) (xs:List NP),sg w p n c xs→Need w→Calls Tryz.prog 10 #[.slice p n c] w (lB w (xs.map NP.m))
 unpack:∀(w:World) (p:Option Addr) (n c:Nat) (bs:List UInt8) (q:Option Addr) (m d:Nat) (zs:List Int),cD w p n bs→bs.length=n→n≤140737488351232→FL w q m zs→zs.length=m→m*8≤140737488351232→Need w→Calls Tryz.prog 13 #[.slice p n c,.slice q m d] w (xA w bs)
 sorted:∀(w:World) (p:Option Addr) (n c:Nat) (xs:List MP),vC w p n c xs→Need w→Calls Tryz.prog 19 #[.slice p n c] w fun e w'=>e=.returned (.bool (eR (xs.map MP.m)))∧Below w.heap.size w w'
theorem zY (w:World):FL w none 0 []:=fun h=>by omega
theorem Oy {t:List ay} (hg:bG t=true):(jK t).length≤12289000000:=by
 have h1:=nu (dI t) fun m hm=>eF (ei hg m hm)
 have B:((dI t).map fun m=>aV m.body.length).sum≤(dI t).length*1048577*2:=by
  have:∀ms:List aq,(∀m∈ms,dd m)→(ms.map fun m=>aV m.body.length).sum≤ms.length*1048577*2:=fun ms=>by
   induction ms with
   |nil=>intro _;simp
   |cons m ms ih=>
    intro h;have a:=ih fun x A=>h x (List.mem_cons_of_mem _ A)
    have b:=(h m (List.mem_cons_self ..)).body;have c:=(j9 m.body.length).2;rw[List.map_cons,List.sum_cons,List.length_cons];omega
  exact this _ fun m hm=>eF (ei hg m hm)
 have D:=fP hg;unfold jK;rw[lH,Qf,List.length_replicate];omega
end Bl
namespace ni
open Tre
variable {f:Nat}
def la (xs:List NP) (p:List UInt8):Option NP:=xs.find? fun y=>decide (y.m.path=p)
def iw (xs:List NP) (os:List (List UInt8)) (k:Nat) (p:List UInt8):Option NP:=if p∈os.take k then none else la xs p
section
variable {xs:List NP} {os:List (List UInt8)} {k:Nat}
theorem pN (p:List UInt8):(la xs p).map NP.m=dD (xs.map NP.m) p:=by
 unfold la dD;rw[List.find?_map]
 congr 2
 funext y
 show decide (y.m.path=p)=(y.m.path==p)
 by_cases h:y.m.path=p<;>simp[h]
theorem rM (hk:k<xs.length):xs.getD k aH=xs[k]:=by rw[List.getD,Qd hk];rfl
theorem Ct (hr:eZ (xs.map NP.m)) (hk:k<xs.length):la (xs.take (k+1))=fun p=>if p=(xs.getD k aH).m.path then some (xs.getD k aH)else la (xs.take k) p:=by
 funext p
 unfold la;rw[List.take_succ_eq_append_getElem hk,List.find?_append,←rM hk,List.find?_cons]
 by_cases A:p=(xs.getD k aH).m.path
 ·rw[if_pos A,A,decide_eq_true rfl]
  have:(xs.take k).find? (fun y=>decide (y.m.path=(xs.getD k aH).m.path))=none:=by
   rw[List.find?_eq_none];intro x D;obtain⟨i,hi,rfl⟩:=List.mem_take_iff_getElem.1 D;have:=(List.pairwise_iff_getElem.1 hr) i k (by rw[Qi];omega) (by rw[Qi];exact hk) (by omega);rw[List.getElem_map,List.getElem_map]at this;have B:=nQ this;rw[rM hk]
   simpa using B
  rw[this];rfl
 ·rw[if_neg A,decide_eq_false (fun e=>A e.symm)]
  simp
theorem Di:iw xs os 0=la xs:=by
 funext p
 unfold iw;rw[List.take_zero,if_neg (List.not_mem_nil)]
theorem Dh (hk:k<os.length):iw xs os (k+1)=fun p=>if p=os.getD k []then none else iw xs os k p:=by
 funext p
 unfold iw;rw[List.take_succ_eq_append_getElem hk,List.getD,Qd hk,Option.getD_some]
 by_cases B:p=os[k]
 ·rw[if_pos B,if_pos (by rw[B];exact List.mem_append.2 (.inr (List.mem_singleton.2 rfl)))]
 ·rw[if_neg B]
  by_cases A:p∈os.take k
  ·rw[if_pos A,if_pos (by rw[List.mem_append];exact .inl A)]
  ·rw[if_neg A,if_neg (by rw[List.mem_append,List.mem_singleton];exact fun h=>h.elim A B)]
def FO (xs:List NP) (os:List (List UInt8)) (k:Nat) (zs:List NP):Prop:=∀i,i<k→iw xs os i (os.getD i [])=some (zs.getD i aH)
theorem qd {zs:List NP} (h:FO xs os k zs) (hi:i<k):la xs (os.getD i [])=some (zs.getD i aH):=by
 have:=h i hi;unfold iw at this;split at this
 ·cases this
 ·exact this
theorem D8 {zs:List NP} (hg:bG (xs.map NP.m)=true) (hl:os.length=xs.length) (h:FO xs os os.length zs):cz (xs.map NP.m) os:=by
 rw[mS hg];refine⟨by rw[Qi];exact hl,fun p B=>?_,?_⟩
 ·obtain⟨i,hi,rfl⟩:=List.mem_iff_getElem.1 B
  have:=qd h hi;rw[List.getD,Qd hi,Option.getD_some]at this;rw[←pN,this];rfl
 ·rw[List.nodup_iff_pairwise_ne,List.pairwise_iff_getElem]
  intro i j hi A D e;have:=h j A;unfold iw at this;rw[List.getD,Qd A,Option.getD_some,if_pos]at this
  ·cases this
  ·rw[←e]
   exact List.mem_take_iff_getElem.2 ⟨i,by omega,rfl⟩
theorem Ii (hg:bG (xs.map NP.m)=true) (hk:k<os.length) (h:iw xs os k (os.getD k [])=none):¬cz (xs.map NP.m) os:=fun E=>by
 obtain⟨_,B,D⟩:=(mS hg os).1 E;have A:os.getD k []=os[k]:=by rw[List.getD,Qd hk];rfl
 unfold iw at h;split at h
 ·next hm=>
  rw[A]at hm;obtain⟨i,hi,e⟩:=List.mem_take_iff_getElem.1 hm;exact(List.pairwise_iff_getElem.1 D) i k (by omega) hk (by omega) e
 ·have:=B (os.getD k []) (by rw[A];exact List.getElem_mem hk)
  rw[←pN,h]at this
  cases this
end
def cw (t:List ay) (os:List (List UInt8)) (k:Nat) (l:List UInt8):Option Nat:=
 (List.range k).find? fun j=>decide ((nodeAt t (os.getD j [])).kind=48)&&decide ((nodeAt t (os.getD j [])).af=l)
section
variable {t:List ay} {os:List (List UInt8)} {k:Nat}
theorem jD:cw t os (k+1)=fun l=>(cw t os k l).or (if(nodeAt t (os.getD k [])).kind=48∧(nodeAt t (os.getD k [])).af=l then some k else none):=by
 funext l
 unfold cw;rw[List.range_succ,List.find?_append,List.find?_cons]
 by_cases h:(nodeAt t (os.getD k [])).kind=48∧(nodeAt t (os.getD k [])).af=l
 ·rw[if_pos h,decide_eq_true h.1,decide_eq_true h.2];rfl
 ·rw[if_neg h]
  have:(decide ((nodeAt t (os.getD k [])).kind=48)&&decide ((nodeAt t (os.getD k [])).af=l))=false:=by
   simpa using fun h1 A=>h ⟨h1,A⟩
  rw[this];rfl
theorem zH (h:(nodeAt t (os.getD k [])).kind≠48):cw t os (k+1)=cw t os k:=by
 rw[jD]
 funext l
 rw[if_neg (fun A=>h A.1),Option.or_none]
theorem GN (h:(nodeAt t (os.getD k [])).kind=48) (hn:cw t os k (nodeAt t (os.getD k [])).af=none):cw t os (k+1)=fun l=>if l=(nodeAt t (os.getD k [])).af then some k else cw t os k l:=by
 rw[jD]
 funext l
 by_cases hl:l=(nodeAt t (os.getD k [])).af
 ·rw[if_pos hl,hl,hn,if_pos ⟨h,rfl⟩];rfl
 ·rw[if_neg hl,if_neg (fun A=>hl A.2.symm),Option.or_none]
theorem GO (hf:cw t os k (nodeAt t (os.getD k [])).af=some f):cw t os (k+1)=cw t os k:=by
 rw[jD]
 funext l
 by_cases hl:(nodeAt t (os.getD k [])).af=l
 ·rw[←hl,hf];rfl
 ·rw[if_neg (fun A=>hl A.2),Option.or_none]
theorem zG {l:List UInt8} (hf:cw t os k l=some f):f<k:=by
 unfold cw at hf;exact List.mem_range.1 (List.mem_of_find?_eq_some hf)
theorem wU (h:(nodeAt t (os.getD k [])).kind=48):aK t os k=(cw t os k (nodeAt t (os.getD k [])).af).getD k:=by
 have e:aK t os k=(cw t os (k+1) (nodeAt t (os.getD k [])).af).getD k:=by
  unfold aK cw;rw[if_pos h]
 rw[e,jD]
 dsimp only
 cases cw t os k (nodeAt t (os.getD k [])).af with
 |some f=>rfl
 |none=>rw[if_pos ⟨h,rfl⟩];rfl
theorem Ib (h:(nodeAt t (os.getD k [])).kind≠48):cC t os k=(nodeAt t (os.getD k [])).mem:=by
 unfold cC;rw[if_pos (eQ h)]
theorem Oh (h:(nodeAt t (os.getD k [])).kind=48) (hn:cw t os k (nodeAt t (os.getD k [])).af=none):cC t os k=(nodeAt t (os.getD k [])).mem:=by
 unfold cC;rw[if_pos (by rw[wU h,hn];rfl)]
theorem Oi (h:(nodeAt t (os.getD k [])).kind=48) (hf:cw t os k (nodeAt t (os.getD k [])).af=some f):cC t os k=oI (nodeAt t (os.getD k [])) (os.getD f []):=by
 unfold cC;have:=zG hf;rw[wU h,hf,Option.getD_some,if_neg (by omega)]
theorem Ce {x:ay} (h:bD x.mem=true) (hk:x.kind≠48):x.body=[]:=by
 unfold bD at h;simp only[Bool.and_eq_true,Bool.or_eq_true,beq_iff_eq]at h;rcases h.1.2 with h1|h1
 ·exact absurd h1 hk
 ·exact h1
end
end ni
namespace ni
open Go.ChangeShapes Go.WideShapes Go.ChangeAt Go.RowKit Base bM cr Bk Mk Tre Go.Lib
variable {os:List (List UInt8)} {xs zs:List NP}
def jm (f:List UInt8→Option NP):List UInt8→Option Value:=fun x=>(f x).map fun y=>.agg y.cs
theorem Lx (w:World):(zeroValue 52).run Tryz.prog w=.ok (.agg #[.string ⟨#[]⟩,.string ⟨#[]⟩,.string ⟨#[]⟩,.int .u8 0,.int .i64 0,.int .i64 0,.int .i64 0,.int .i64 0,.slice none 0 0]) w:=Tryz.zeroValue52 w
def Eo (w:World) (xs:List NP) (os:List (List UInt8)) (n:Nat) (e:Ending) (w':World):Prop:=
 (∃q zs,e=.returned (.tuple #[.slice q n n,.bool true])∧FO xs os n zs∧zs.length=n∧os.length=n∧aY w' q n zs∧cz (xs.map NP.m) os∧Below w.heap.size w w')∨
 (e=.returned (.tuple #[.slice none 0 0,.bool false])∧¬cz (xs.map NP.m) os∧Below w.heap.size w w')
structure Xb (w wr:World) (M:Nat) (xs:List NP) (k:Nat):Prop where
 bel:Below w.heap.size w wr
 map:cH im wr M (jm (la (xs.take k)))
 new:w.heap.size≤M
structure Sl (w wr:World) (M g:Nat) (xs:List NP) (os:List (List UInt8)) (n k:Nat) (zs:List NP):Prop where
 bel:Below w.heap.size w wr
 map:cH im wr M (jm (iw xs os k))
 new:w.heap.size≤M
 row:Rw wr g zs
 NK:w.heap.size≤g
 len:zs.length=n
 I5:FO xs os k zs
theorem Sl.below {wr:World} {M:Nat} (h:Sl w wr M g xs os n k zs) (hb:Below wr.heap.size wr w'):Sl w w' M g xs os n k zs:=
 ⟨h.bel.trans (hb.mono h.bel.size),h.map.kept (Kept.aR hb ag) (fun h=>h.elim),h.new,ao.below h.row hb (ao.lt h.row),h.NK,h.len,h.I5⟩
theorem Mm {y:NP} (h:FO xs os k zs) (hk:k<zs.length) (hy:iw xs os k (os.getD k [])=some y):FO xs os (k+1) (zs.set k y):=fun i hi=>by
 rw[getSet zs k i y hk]
 by_cases A:i=k
 ·rw[if_pos A,A];exact hy
 ·rw[if_neg A];exact h i (by omega)
theorem zZ (w:World) (p:Option Addr) (n c:Nat) (xs:List NP) (a:Option Addr) (m d:Nat) (os:List (List UInt8)) (hN:oh w p n c xs) (hO:Et w a m d os):
 Calls Tryz.prog 48 #[.slice p n c,.slice a m d] w (Eo w xs os n):=by
 obtain⟨i0,hi,fV,fb,fg⟩:=info_parts E8;have HI:=Qh hi;have lu:=Qh fV;have j5:=Qh fb;have lx:=Qh fg;have yU:=@run_makeMap Tryz.prog;have HM:=Qh hN.at_;have f:=Qh hN.at_.1;have Z:=Qh hN.QI;have Ue:=hN.few;have HO:=Qh hO.at_;have M:=Qh hO.at_.1;clear hi fV fb fg hN hO
 go_enter Tryz.func48,Tryz.ntmps48
 by_cases Pn:m=n
 ·subst Pn
  obtain⟨w1,US⟩:∃w1,w.alloc (.map #[] 0)=w1:=⟨_,rfl⟩
  have t:Hid (Xb w w1 w.heap.size xs 0):=Qh
   {bel:=by rw[←US];exact(Below.refl _ _).alloc (Qk _) _
    map:=by
     have e:jm (la (xs.take 0))=fun _=>none:=by funext l;rfl
     rw[e,←US];exact iU im w
    new:=Qk _}
  go_upto_region 4 with fail
  clear US yU;go_wp2_with fail
  go_loopw [8,22] (fun _ i wr=>∃(k:Nat),k≤m∧i=.int .i64 (k:Int)∧Hid (Xb w wr w.heap.size xs k)) (fun _ i _=>m - (RowKit.intOf i).toNat)
  case atStart=>exact⟨0,Nat.zero_le _,rfl,t⟩
  case round=>
   obtain⟨k,hk,rfl,L⟩:=hrel
   by_cases J:k<m
   ·obtain⟨b1,o1,rfl,cg,mN,hc⟩:=(HM.out.below L.out.bel).dV J
    obtain⟨y,hy⟩:∃y,xs.getD k aH=y:=⟨_,rfl⟩
    rw[hy]at hc mN;have HY:=Qh hy;obtain⟨c0,c1,c2,c3,c4,c5,c6,c7,c8⟩:=hc;obtain⟨W5,H⟩:∃W5,wr.alloc (.cells y.cs 52)=W5:=⟨_,rfl⟩
    have O:Below wr.heap.size wr W5:=by rw[←H];exact(Below.refl _ _).alloc (Qk _) _
    have A:ao W5 wr.heap.size 52 y.cs:=by rw[←H];exact ao.new wr _ _
    have xt:=Qh O;have iP:=Qh (L.out.map.kept (Kept.aR O ag) (fun h=>h.elim));have z0:=A.cell 0;have U:=A.cell 1;have z2:=A.cell 2;have z3:=A.cell 3;have z4:=A.cell 4;have z5:=A.cell 5;have V:=A.cell 6;have W:=A.cell 7;have X:=A.cell 8;unfold NP.cs fX at H;simp only[NP.cs,fX,Qc,Qa,Qb]at z0 U z2 z3 z4 z5 V W X;have kh:(k:Int)<(m:Int):=by omega
    clear hy cg mN A O;go_upto_region 7 with fail;clear H c0 c1 c2 c3 c4 c5 c6 c7 c8
    go_wp2_with (at_mapUpdate;refine cR (K:=im) rfl (.tmp 26) (.tmp 28) (.tmp 29) rfl Tryz.underlying138 Tryz.underlying9 w.heap.size iP.out rfl y.m.path rfl (.agg y.cs) rfl ?_)
    intro w7 T R Rr
    have u:Hid (Xb w w7 w.heap.size xs (k+1)):=by
     have I:=L.out.bel.trans (xt.out.mono L.out.bel.size);refine Qh ⟨I.trans (R.out.below I.size (fun b I=>by rw[show b=w.heap.size from I];exact Qk _)),?_,Qk _⟩
     have e:jm (la (xs.take (k+1)))=fun z=>if z=y.m.path then some (.agg y.cs)else jm (la (xs.take k)) z:=by
      funext z
      unfold jm;rw[Ct (cY Z.out) (show k<xs.length by rw[f.out];exact J),HY.out]
      by_cases h:z=y.m.path<;>simp[h]
     rw[e];exact T.out
    clear T R Rr z0 U z2 z3 z4 z5 V W X;go_wp2;go_roundw
    case rel=>exact⟨k+1,by omega,by go_num,u⟩
    case measure=>simp[RowKit.intOf];omega
   ·obtain rfl:k=m:=by omega
    have nj:¬((k:Int)<(k:Int)):=by omega
    have Jn:=L.out.bel;have NY:=L.out.map;rw[List.take_of_length_le (by rw[f.out];exact Qk _)]at NY;have Zw:=Qh NY;have q:=Qh Jn;clear L NY Jn
    go_wp2_with (at_make;refine wpList_make_full _ rfl _ _ 22 rfl wr.heap.size 52 i0 _ 9 Tryz.underlying22 HI.out lu.out j5.out .i64 .i64 _ _ k rfl rfl rfl rfl (by rw[lx.out];omega) (by unfold maxLen;omega) (Qk _) ?_)
    intro w3 lR bw
    have MU:=FC (B:=wr.heap.size) (w':=w3) (g:=wr.heap.size) (n:=k) (by
     have h9:=lR;rw[tA]at h9
     exact h9)
    have dv:Kept ag wr w3:=(Kept.refl ag wr).grown bw (fun k h=>by cases h);have o:Below wr.heap.size wr w3:=dv.below (Qk _) (fun _ h=>h.elim)
    have S2:Hid (Sl w w3 w.heap.size wr.heap.size xs os k 0 (List.replicate k aH)):=Qh
     {bel:=q.out.trans (o.mono q.out.size)
      map:=by rw[Di];exact Zw.out.kept dv (fun h=>h.elim)
      new:=Qk _
      row:=MU
      NK:=q.out.size
      len:=by simp
      I5:=fun i hi=>by omega}
    obtain⟨g,hg⟩:∃g,wr.heap.size=g:=⟨_,rfl⟩
    rw[hg]at S2⊢;clear lR bw MU dv o Zw q hg;go_wp2_with fail
    go_loopw [10,11,12,13,36] (fun _ _ _ _ i wr=>∃(j:Nat) (zs:List NP),j≤k∧i=.int .i64 (j:Int)∧Hid (Sl w wr w.heap.size g xs os k j zs)) (fun _ _ _ _ i _=>k - (RowKit.intOf i).toNat)
    case atStart=>exact⟨0,_,Nat.zero_le _,rfl,S2⟩
    case round=>
     obtain⟨j,zs,hj,rfl,G⟩:=hrel
     by_cases J:j<k
     ·obtain⟨b3,o3,rfl,o,vT⟩:=(HO.out.below G.out.bel).2 (by omega)
      have z0:=vT j J;obtain⟨x,hx⟩:∃x,os.getD j []=x:=⟨_,rfl⟩
      rw[hx]at z0;have HX:=Qh hx;have N:=G.out.map.look_ok (P:=Tryz.prog) Tryz.underlying138 Tryz.underlying9 Lx x;obtain⟨fo,uO⟩:∃fo,iw xs os j x=fo:=⟨_,rfl⟩
      have xw:=Qh uO;unfold jm at N;rw[uO]at N;have kh:(j:Int)<(k:Int):=by omega
      clear hx uO vT o
      cases fo with
      |none=>
       have RH:(Instr.lookup 138 (.map (some w.heap.size)) (.string (str x)) true).run Tryz.prog wr=.ok (.tuple #[.agg #[.string ⟨#[]⟩,.string ⟨#[]⟩,.string ⟨#[]⟩,.int .u8 0,.int .i64 0,.int .i64 0,.int .i64 0,.int .i64 0,.slice none 0 0],.bool false]) wr:=N;have E:Hid (¬cz (xs.map NP.m) os):=Qh (Ii Z.out (show j<os.length by rw[M.out];exact J) (by rw[HX.out];exact xw.out));have HB:=Qh G.out.bel;clear N;go_wp2;go_ret2;exact .inr ⟨rfl,E.out,HB.out.alloc HB.out.size _⟩
      |some y=>
       have RH:(Instr.lookup 138 (.map (some w.heap.size)) (.string (str x)) true).run Tryz.prog wr=.ok (.tuple #[.agg #[.string (str y.m.path),.string (str y.m.target),.string (str y.m.af),.int .u8 (y.m.kind.toNat:Int),.int .i64 y.m.mode,.int .i64 y.m.uid,.int .i64 y.m.gid,.int .i64 y.m.time,.slice y.p y.m.body.length y.c],.bool true]) wr:=N;obtain⟨W5,H⟩:∃W5,wr.alloc (.cells y.cs 52)=W5:=⟨_,rfl⟩
       have O:Below wr.heap.size wr W5:=by rw[←H];exact(Below.refl _ _).alloc (Qk _) _
       have A:ao W5 wr.heap.size 52 y.cs:=by rw[←H];exact ao.new wr _ _
       have D:=Qh (G.out.below O);have U:=A.cell 0;have z2:=A.cell 1;have z3:=A.cell 2;have z4:=A.cell 3;have z5:=A.cell 4;have V:=A.cell 5;have W:=A.cell 6;have X:=A.cell 7;have z9:=A.cell 8;unfold NP.cs fX at H;simp only[NP.cs,fX,Qc,Qa,Qb]at U z2 z3 z4 z5 V W X z9;have Yh:j<zs.length:=by rw[D.out.len];exact J
       obtain⟨r0,r1,r2,r3,r4,r5,r6,r7,r8⟩:=D.out.row.dV Yh;have f0:=ao.frozen D.out.row (j*9);have f1:=ao.frozen D.out.row (j*9+1);have f2:=ao.frozen D.out.row (j*9+2);have f3:=ao.frozen D.out.row (j*9+3);have f4:=ao.frozen D.out.row (j*9+4);have f5:=ao.frozen D.out.row (j*9+5);have f6:=ao.frozen D.out.row (j*9+6);have f7:=ao.frozen D.out.row (j*9+7);have f8:=ao.frozen D.out.row (j*9+8);have Zr:=Qh Yh;clear N Yh O A;go_upto_region 14 with fail;clear H RH z0;go_upto_region 17 with fail;obtain⟨W6,Y⟩:∃W6,(((((((((W5.setCell ⟨g,j*9,none⟩ (.string (str y.m.path))).setCell ⟨g,j*9+1,none⟩ (.string (str y.m.target))).setCell ⟨g,j*9+2,none⟩ (.string (str y.m.af))).setCell ⟨g,j*9+3,none⟩ (.int .u8 (y.m.kind.toNat:Int))).setCell ⟨g,j*9+4,none⟩ (.int .i64 y.m.mode)).setCell ⟨g,j*9+5,none⟩ (.int .i64 y.m.uid)).setCell ⟨g,j*9+6,none⟩ (.int .i64 y.m.gid)).setCell ⟨g,j*9+7,none⟩ (.int .i64 y.m.time)).setCell ⟨g,j*9+8,none⟩ (.slice y.p y.m.body.length y.c))=W6:=⟨_,rfl⟩
       have r:Kept (aA g) W5 W6:=by rw[←Y];exact FB (S:=aA g) rfl _ _ _ _ _ _ _ _ _
       have Pt:Rw W6 g (zs.set j y):=by rw[←Y];exact D.out.row.set Zr.out y
       have Q9:g≠w.heap.size:=lJ D.out.row D.out.map;have Pk:cH im W6 w.heap.size (jm (iw xs os j)):=D.out.map.kept r (fun e=>Q9 e.symm);rw[Y];have Na:=Qh r;have JD:=Qh Pt;have nB:=Qh Pk;have PZ:=Qh Q9;clear Y r Pt Pk Q9 r0 r1 r2 r3 r4 r5 r6 r7 r8 f0 f1 f2 f3 f4 f5 f6 f7 f8 U z2 z3 z4 z5 V W X z9
       go_wp2_with (at_delete;refine Bi (K:=im) rfl (.tmp 53) (.tmp 54) 138 9 rfl 52 Tryz.underlying138 Tryz.underlying9 w.heap.size nB.out rfl x rfl ?_)
       intro w7 T R Rr
       have u:Hid (Sl w w7 w.heap.size g xs os k (j+1) (zs.set j y)):=by
        have vS:Below w.heap.size w W6:=D.out.bel.trans (Na.out.below D.out.bel.size (fun b I=>by rw[show b=g from I];exact D.out.NK));refine Qh ⟨vS.trans (R.out.below vS.size (fun b I=>by rw[show b=w.heap.size from I];exact Qk _)),?_,Qk _,ao.bZ JD.out R.out PZ.out,D.out.NK,by rw[List.length_set];exact D.out.len,Mm D.out.I5 Zr.out (by rw[HX.out];exact xw.out)⟩
        have e:jm (iw xs os (j+1))=fun z=>if z=x then none else jm (iw xs os j) z:=by
         funext z
         unfold jm;rw[Dh (show j<os.length by rw[M.out];exact J),HX.out]
         by_cases h:z=x<;>simp[h]
        rw[e];exact T.out
       clear T R Rr;go_wp2;go_roundw
       case rel=>exact⟨j+1,_,by omega,by go_num,u⟩
       case measure=>simp[RowKit.intOf];omega
     ·obtain rfl:j=k:=by omega
      have nj:¬((j:Int)<(j:Int)):=by omega
      have KS:cz (xs.map NP.m) os:=D8 Z.out (by rw[M.out,f.out]) (by rw[M.out];exact G.out.I5)
      have ru:aY wr (some ⟨g,0,none⟩) j zs:=by
       have h1:=G.out.row.nodes (fun y hy=>by
        obtain⟨i,hi,rfl⟩:=List.mem_iff_getElem.1 hy;have h2:=qd G.out.I5 (show i<j by rw[←G.out.len];exact hi);rw[rM hi]at h2
        exact(HM.out.below G.out.bel).2.1 _ (List.mem_of_find?_eq_some h2))
       rw[G.out.len]at h1;exact h1
      have HF:=Qh (And.intro KS ru);clear KS ru;go_wp2;go_ret2;exact .inl ⟨_,zs,rfl,G.out.I5,G.out.len,M.out,HF.out.2,HF.out.1,G.out.bel⟩
 ·have E:Hid (¬cz (xs.map NP.m) os):=Qh (fun h=>Pn (by
   have h1:=((mS Z.out os).1 h).1;rw[Qi,f.out,M.out]at h1
   exact h1))
  have cX:¬((m:Int)=(n:Int)):=by omega
  go_wp2;go_ret2;exact .inr ⟨rfl,E.out,Below.refl _ _⟩
end ni
namespace ni
open Go.ChangeShapes Go.WideShapes Go.ChangeAt Go.RowKit Base bM cr Bk Rec Block Go.Proofs.YtdhibldkldlfpaaGreatDoor.Mp Tre Go.Lib
abbrev ZM:=List (List UInt8 × List UInt8)
theorem Fm {w:World} {B m:Nat} {v u:Value} {xs ys:List Value} (h1:w.ownsRow B 48 8 v n xs) (h2:w.ownsRow B 9 1 u m ys):∀k,u.ownBlock=some k→v.ownBlock≠some k:=fun k hu A=>by
 rcases h1.2 with⟨rfl,_⟩|⟨g,cap,cur,rfl,_,hg,_⟩
 ·cases A
 ·rcases h2.2 with⟨rfl,_⟩|⟨g',aa4,aa5,rfl,_,Q7,_⟩
  ·cases hu
  ·have D:g=k:=by simpa [Value.ownBlock]using A
   have E:g'=k:=by simpa [Value.ownBlock]using hu
   subst D;subst E;rw[hg]at Q7;simp only[Option.some.injEq,Obj.cells.injEq]at Q7;exact absurd Q7.2.1 (by decide)
structure O4 (w wr:World) (F:ZM) (ms:List aq) (vo v6 v7:Value) (ys:List MP):Prop where
 bel:Below w.heap.size w wr
 out:wr.ownsRow w.heap.size 48 8 vo ys.length (fK ys)
 same:ys.map MP.m=ms
 VD:∀y∈ys,cV w y
 Aj:wr.ownsRow w.heap.size 9 1 v6 F.length (EF (F.map (·.1)))
 fst:wr.ownsRow w.heap.size 9 1 v7 F.length (EF (F.map (·.2)))
 sep:∀k,v6.ownBlock=some k→v7.ownBlock≠some k
section
variable {w wr w':World} {F:ZM} {ms:List aq} {vo v6 v7:Value} {ys:List MP}
theorem O4.below (h:O4 w wr F ms vo v6 v7 ys) (hb:Below wr.heap.size wr w'):O4 w w' F ms vo v6 v7 ys where
 bel:=h.bel.trans (hb.mono h.bel.size)
 out:=cT h.out hb
 same:=h.same
 VD:=h.VD
 Aj:=cT h.Aj hb
 fst:=cT h.fst hb
 sep:=h.sep
theorem O4.add (h:O4 w wr F ms vo v6 v7 ys) {y:MP} {m:aq} (hy:y.m=m) (hb:cV w y) {v':Value} (cJ:w'.ownsRow w.heap.size 48 8 v' (ys++[y]).length (fK (ys++[y]))) (hg:wr.grownBy w' vo.ownBlock):O4 w w' F (ms++[m]) v' v6 v7 (ys++[y]):=by
 have A:Kept (fun b=>vo.ownBlock=some b) wr w':=(Kept.refl _ wr).grown hg (fun k hk=>.inr hk);exact
 {bel:=h.bel.trans (A.below h.bel.size (fun k hk=>(World.ownsRow.lt h.out _ hk).1))
  out:=cJ
  same:=by rw[List.map_append,h.same,←hy];rfl
  VD:=fun x hx=>by
   rcases List.mem_append.1 hx with hx|hx
   ·exact h.VD x hx
   ·rw[List.mem_singleton.1 hx];exact hb
  Aj:=bQ h.Aj A (fun k hk e=>Fm h.out h.Aj k hk e)
  fst:=bQ h.fst A (fun k hk e=>Fm h.out h.fst k hk e)
  sep:=h.sep}
theorem O4.off (h:O4 w wr F ms vo v6 v7 ys) {b:Nat} {t:TypeId} {cs:Array Value} (ht:t≠9) (hb:ao wr b t cs):¬Vl v6 v7 b:=fun e=>by
 have key:∀{v:Value} {n:Nat} {xs:List Value},wr.ownsRow w.heap.size 9 1 v n xs→v.ownBlock≠some b:=fun {v n xs} ho e=>by
  rcases ho.2 with⟨rfl,_⟩|⟨g,cap,cur,rfl,_,hg,_⟩
  ·cases e
  ·have A:g=b:=by simpa [Value.ownBlock]using e
   subst A;unfold ao at hb;rw[hg]at hb;simp only[Option.some.injEq,Obj.cells.injEq]at hb;exact ht hb.2.1.symm
 rcases e with e|e
 ·exact key h.Aj e
 ·exact key h.fst e
end
end ni
namespace ni
open Go.ChangeShapes Go.WideShapes Go.ChangeAt Go.RowKit Base bM cr Bk Rec Block Tre Go.Lib
def jb (ms:List aq) (k a:Nat):Bool:=!decide ((ms.getD k bB).kind=49)||(List.range a).any fun j=>decide ((ms.getD j bB).path=(ms.getD k bB).target)&&decide ((ms.getD j bB).kind=48)
theorem zM (ms:List aq) (k a:Nat):jb ms k (a+1)=(jb ms k a||(decide ((ms.getD a bB).path=(ms.getD k bB).target)&&decide ((ms.getD a bB).kind=48))):=by
 unfold jb;rw[List.range_succ,List.any_append,List.any_cons,List.any_nil,Bool.or_false,Bool.or_assoc]
end ni
end Go.Proofs.YtdhibldkldlfpaaGreatDoor
