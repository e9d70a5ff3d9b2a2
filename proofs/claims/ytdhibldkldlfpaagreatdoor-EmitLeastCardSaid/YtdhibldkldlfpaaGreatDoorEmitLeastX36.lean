/- Merged. -/
import Derived.Test.YtdhibldkldlfpaaGreatDoorEmitLeastX33
import Derived.Deep.RegionHeld3
namespace Go.Proofs.YtdhibldkldlfpaaGreatDoor
set_option linter.unusedVariables false
set_option maxHeartbeats 8000000
set_option maxRecDepth 100000
open Mem
variable {g i k n:Nat} {p:Option Addr} {w w':World}
namespace Tre
open Go.ChangeShapes Go.WideShapes Go.ChangeAt Go.RowKit Base bJ cn Bk Go.Lib
variable {b:List UInt8} {t:List aw} {y:NP}
theorem Hi (w:World) (g:Nat) (y:NP) (h:ao w g 52 y.cs):(loadVar 52 ⟨g,0,none⟩).run Tryz.prog w=.ok (.agg y.cs) w:=by
 obtain⟨c0,c1,c2,c3,c4,c5,c6,c7,A⟩:=aU h;simp only[Nat.zero_add]at c0 c1 c2 c3 c4 c5 c6 c7 A;unfold NP.cs fT;clear h
 go_simp
theorem AB {fn:Func} (hf:fn.results=#[.cell 4 52,.tmp 5]) (tmps:Array Value) (w:World) (g:Nat) (v:Value) (ht:tmps.getD 4 undef=.pointer (some ⟨g,0,none⟩)) (hv:tmps.getD 5 undef=v)
 (y:NP) (hb:ao w g 52 y.cs):(results fn tmps).run Tryz.prog w=.ok (.tuple #[.agg y.cs,v]) w:=by
 rw[results_cell_tmp hf,ht,hv];have hl:=Hi w g y hb;simp only[asAddr,Sem.run_pure,hl,Result.andThen]
theorem lG {x:NP} (hb:ao w g 52 x.cs) (a0 a1 a2 a3 a4 a5 a6 a7 a8:Value):
 ao (((((((((w.setCell ⟨g,0,none⟩ a0).setCell ⟨g,1,none⟩ a1).setCell ⟨g,2,none⟩ a2).setCell ⟨g,3,none⟩ a3).setCell ⟨g,4,none⟩ a4).setCell ⟨g,5,none⟩ a5).setCell ⟨g,6,none⟩ a6).setCell ⟨g,7,none⟩ a7).setCell ⟨g,8,none⟩ a8) g 52 #[a0,a1,a2,a3,a4,a5,a6,a7,a8]:=
 (((((((((hb.set 0 a0 (by show 0<9;decide)).set 1 a1 (by show 1<9;decide)).set 2 a2 (by show 2<9;decide)).set 3 a3 (by show 3<9;decide)).set 4 a4 (by show 4<9;decide)).set 5 a5 (by show 5<9;decide)).set 6 a6 (by show 6<9;decide)).set 7 a7 (by show 7<9;decide)).set 8 a8 (by show 8<9;decide))
theorem dC (hk:Below w.heap.size w w') (hg:w.heap.size≤g) (a0 a1 a2 a3 a4 a5 a6 a7 a8:Value):
 Below w.heap.size w (((((((((w'.setCell ⟨g,0,none⟩ a0).setCell ⟨g,1,none⟩ a1).setCell ⟨g,2,none⟩ a2).setCell ⟨g,3,none⟩ a3).setCell ⟨g,4,none⟩ a4).setCell ⟨g,5,none⟩ a5).setCell ⟨g,6,none⟩ a6).setCell ⟨g,7,none⟩ a7).setCell ⟨g,8,none⟩ a8):=
 (((((((((hk.setCell (p:=⟨g,0,none⟩) hg a0).setCell (p:=⟨g,1,none⟩) hg a1).setCell (p:=⟨g,2,none⟩) hg a2).setCell (p:=⟨g,3,none⟩) hg a3).setCell (p:=⟨g,4,none⟩) hg a4).setCell (p:=⟨g,5,none⟩) hg a5).setCell (p:=⟨g,6,none⟩) hg a6).setCell (p:=⟨g,7,none⟩) hg a7).setCell (p:=⟨g,8,none⟩) hg a8)
structure M5 (w wi:World) (g:Nat) (y:NP):Prop where
 bel:Below w.heap.size w wi
 ei:ao wi g 52 y.cs
 new:w.heap.size≤g
theorem M5.below {wi wj:World} (h:M5 w wi g y) (hb:Below wi.heap.size wi wj):M5 w wj g y:=
 ⟨h.bel.trans (hb.mono h.bel.size),h.ei.below hb h.ei.lt,h.new⟩
theorem sA (h:∀x∈t,x.path≠b):dE t b=none:=by
 unfold dE;rw[List.find?_eq_none];intro x A
 simpa using h x A
theorem sB (hk:k<t.length) (h:(t.getD k bT).path=b) (h0:∀x∈t.take k,x.path≠b):dE t b=some (t.getD k bT):=by
 unfold dE;rw[List.getD,Qd hk]at h⊢
 have e:t=t.take k++t[k]::t.drop (k+1):=by
  rw[←List.drop_eq_getElem_cons hk,List.take_append_drop]
 conv=>lhs;rw[e,List.find?_append]
 have A:(t.take k).find? (fun x=>x.path==b)=none:=by
  rw[List.find?_eq_none];intro x B
  simpa using h0 x B
 rw[A];simp only[Option.none_or];rw[List.find?_cons_of_pos (by simpa using h)];simp
def YL (r:Option aw):aw:=r.getD bT
def j3 (w:World) (xs:List NP) (b:List UInt8) (e:Ending) (w':World):Prop:=
 ∃y:NP,e=.returned (.tuple #[.agg y.cs,.bool (dE (xs.map NP.m) b).isSome])∧y.m=YL (dE (xs.map NP.m) b)∧(y=aG∨y∈xs)∧Below w.heap.size w w'
theorem Md:aG.cs=#[.string ⟨#[]⟩,.string ⟨#[]⟩,.string ⟨#[]⟩,.int .u8 0,.int .i64 0,.int .i64 0,.int .i64 0,.int .i64 0,.slice none 0 0]:=rfl
theorem AV (w:World):cT w aG:=⟨cB.none_ w none,Qk _,by decide⟩
theorem l9 {xs:List NP} (h:aY w p n xs) (hy:y=aG∨y∈xs):cT w y:=by
 rcases hy with rfl|hy
 ·exact AV w
 ·exact h.2.1 y hy
theorem DS (xs:List NP) (k:Nat) (h:k<xs.length):xs.take (k+1)=xs.take k++[xs.getD k aG]:=by
 rw[List.take_succ_eq_append_getElem h,List.getD,Qd h];rfl
theorem wJ (p:Option Addr) (n c:Nat) (xs:List NP) (b:List UInt8) (w:World) (h:aY w p n xs) (hn:n≤maxLen):
 Calls Tryz.prog 25 #[.slice p n c,.string (str b)] w (j3 w xs b):=by
 unfold maxLen at hn;have l:=Qh h;have B:=Qh h.1;have G:Hid (Below w.heap.size w (w.alloc (.cells aG.cs 52))):=Qh ((Below.refl _ _).alloc (Qk _) _);have Y:Hid (ao (w.alloc (.cells aG.cs 52)) w.heap.size 52 aG.cs):=Qh (ao.new w _ _);clear h
 go_enter Tryz.func25,Tryz.ntmps25
 obtain⟨W,J⟩:∃W,w.alloc (.cells aG.cs 52)=W:=⟨_,rfl⟩
 rw[J]at G Y;rw[Md]at J;have A:Hid (M5 w W w.heap.size aG):=Qh ⟨G.out,Y.out,Qk _⟩;have q:=Qh (l.out.below G.out);clear G Y;go_upto_region 1 with fail;clear J;go_wp2_with fail
 go_loop [6] (fun i=>∃(k:Nat),k≤n∧i=.int .i64 (k:Int)∧Hid (∀x∈(xs.map NP.m).take k,x.path≠b)) (fun i=>n - (RowKit.intOf i).toNat)
 case atStart=>exact⟨0,Nat.zero_le _,rfl,Qh (by simp)⟩
 case round=>
  obtain⟨k,hk,rfl,I⟩:=hrel
  by_cases D:k<n
  ·obtain⟨y,o1,rfl,r,Z,f⟩:=q.out.dD D
   obtain⟨u,hu⟩:∃u,xs.getD k aG=u:=⟨_,rfl⟩
   rw[hu]at Z f;have H:=Qh hu;have g:Hid (u∈xs):=Qh (by rw[←hu];exact oB xs k (by rw[B.out];exact D));obtain⟨c0,c1,c2,c3,c4,c5,c6,c7,z⟩:=f;have kK:(k:Int)<(n:Int):=by omega
   have d:((str u.m.path).toList==(str b).toList)=decide (u.m.path=b):=by
    rw[ay,ay]
    by_cases h:u.m.path=b<;>simp[h]
   clear Z hu r
   by_cases he:u.m.path=b
   ·rw[decide_eq_true he]at d
    have E:Hid (dE (xs.map NP.m) b=some u.m):=Qh (by
     have:=sB (t:=xs.map NP.m) (b:=b) (k:=k) (by rw[Qi,B.out];exact D) (by rw[fI,H.out];exact he) I.out
     rw[this,fI,H.out])
    obtain⟨L,M,N,O,R,T,U,V,X⟩:=aU A.out.ei;have f0:=A.out.ei.frozen 0;have f1:=A.out.ei.frozen 1;have f2:=A.out.ei.frozen 2;have f3:=A.out.ei.frozen 3;have f4:=A.out.ei.frozen 4;have f5:=A.out.ei.frozen 5;have f6:=A.out.ei.frozen 6;have f7:=A.out.ei.frozen 7;have f8:=A.out.ei.frozen 8;simp only[Nat.zero_add]at L M N O R T U V X;clear he;go_wp2;refine bodyPost_ret (AB rfl _ _ w.heap.size _ rfl rfl u (lG A.out.ei _ _ _ _ _ _ _ _ _)) rfl ?_;exact⟨u,by rw[E.out];rfl,by rw[E.out];rfl,Or.inr g.out,dC A.out.bel (Qk _) _ _ _ _ _ _ _ _ _⟩
   ·rw[decide_eq_false he]at d
    have o:Hid (∀x∈(xs.map NP.m).take (k+1),x.path≠b):=Qh (by
     intro x hx;have hl:k<xs.length:=by rw[B.out];exact D
     rw[←List.map_take,DS xs k hl,List.map_append,List.mem_append,H.out,List.map_take]at hx;rcases hx with hx|hx
     ·exact I.out x hx
     ·rw[List.mem_singleton.1 hx];exact he)
    clear he;go_wp2
    go_round
    case rel=>exact⟨k+1,by omega,by go_num,o⟩
    case measure=>simp[RowKit.intOf];omega
  ·have ng:¬((k:Int)<(n:Int)):=by omega
   have E:Hid (dE (xs.map NP.m) b=none):=Qh (sA (fun x hx=>I.out x (by rw[List.take_of_length_le (by rw[Qi,B.out];omega)];exact hx)));obtain⟨L,M,N,O,R,T,U,V,X⟩:=aU A.out.ei;have f0:=A.out.ei.frozen 0;have f1:=A.out.ei.frozen 1;have f2:=A.out.ei.frozen 2;have f3:=A.out.ei.frozen 3;have f4:=A.out.ei.frozen 4;have f5:=A.out.ei.frozen 5;have f6:=A.out.ei.frozen 6;have f7:=A.out.ei.frozen 7;have f8:=A.out.ei.frozen 8;simp only[Nat.zero_add]at L M N O R T U V X;go_wp2;refine bodyPost_ret (AB rfl _ _ w.heap.size _ rfl rfl aG (lG A.out.ei _ _ _ _ _ _ _ _ _)) rfl ?_;exact⟨aG,by rw[E.out];rfl,by rw[E.out];rfl,Or.inl rfl,dC A.out.bel (Qk _) _ _ _ _ _ _ _ _ _⟩
def Pv (x:NP):Prop:=x.m.path.length≤140737488351232∧x.m.target.length≤140737488351232
theorem xP (k:UInt8) (n:UInt8) (z:Int) (hz:(n.toNat:Int)=z):(((k.toNat:Int))==z)=decide (k=n):=by
 subst hz
 by_cases h:k=n
 ·simp[h]
 ·have:¬k.toNat=n.toNat:=fun A=>h (UInt8.toNat.inj A)
  simp only[h,decide_false,beq_eq_false_iff_ne,ne_eq];omega
theorem kM (k:UInt8) (n:UInt8) (z:Int) (hz:(n.toNat:Int)=z):(((k.toNat:Int)) != z)=!decide (k=n):=by
 rw[←xP k n z hz];rfl
theorem CJ (x:NP) (w:World) (hF:Pv x) (hT:Path.Tabs w):
 Calls Tryz.prog 46 #[.agg x.cs] w fun e w'=>e=.returned (.bool (eJ x.m))∧Below w.heap.size w w':=by
 obtain⟨W,D⟩:∃W,w.alloc (.cells x.cs 52)=W:=⟨_,rfl⟩
 have H:Below w.heap.size w W:=by rw[←D];exact(Below.refl _ _).alloc (Qk _) _
 have I:ao W w.heap.size 52 x.cs:=by rw[←D];exact ao.new w _ _
 have B:=lU x.m.mem x.p x.c W hF.1 hF.2 (hT.below H);have G:=kM x.m.kind 49 49 rfl;unfold eJ;obtain⟨g,L⟩:∃g,bC x.m.mem=g:=⟨_,rfl⟩
 rw[L]at B⊢;obtain⟨k,hk⟩:∃k:Int,(x.m.kind.toNat:Int)=k:=⟨_,rfl⟩
 obtain⟨c0,c1,c2,c3,c4,c5,c6,c7,N⟩:=aU I;simp only[Nat.zero_add]at c0 c1 c2 c3 c4 c5 c6 c7 N;unfold NP.cs fT at D⊢;unfold cO aw.mem at B;rw[hk]at D B c3 G⊢;have M:=Qh B;have E:=Qh H;clear B H I L hk hF hT
 go_enter Tryz.func46,Tryz.ntmps46
 by_cases A:x.m.kind=49
 ·rw[decide_eq_true A,Bool.not_true]at G
  have hd:decide (x.m.kind≠49)=false:=by simp[A]
  rw[hd];clear A hd;go_upto_region 1 with fail
  go_wp2;go_ret;exact⟨rfl,E.out⟩
 ·rw[decide_eq_false A,Bool.not_false]at G
  have hd:decide (x.m.kind≠49)=true:=by simp[A]
  rw[hd];clear A hd;go_upto_region 1 with fail;go_wp2_with fail
  refine M.out.mono ?_;rintro e O ⟨rfl,J⟩;have F:=Qh (E.out.trans (J.mono E.out.size));clear J;go_wp2;go_ret;exact⟨rfl,F.out⟩
theorem tT (hs:eS t) (hk:k<t.length) (h:(t.getD k bT).path=b):dE t b=some (t.getD k bT):=
 sB hk h (fun x A e=>by
  obtain⟨i,hi,rfl⟩:=List.mem_iff_getElem.1 A;rw[Qg]at hi;have:=gG hs (show i<k by omega) hk;rw[List.getD,Qd (show i<t.length by omega)]at this;rw[List.getElem_take]at e;simp only[Option.getD_some,e,h]at this;rw[fk]at this
  cases this)
theorem iJ (a b:List UInt8):((str a).toList==(str b).toList)=decide (a=b):=by
 rw[ay,ay]
 by_cases h:a=b<;>simp[h]
theorem vM (x:NP) (p:Option Addr) (n c:Nat) (xs:List NP) (w:World) (hx:cT w x) (h:aY w p n xs) (hn:n≤1000000000) (hs:eS (xs.map NP.m)):
 Calls Tryz.prog 47 #[.agg x.cs,.slice p n c] w fun e w'=>e=.returned (.bool (iH (xs.map NP.m) x.m))∧Below w.heap.size w w':=by
 obtain⟨W,H⟩:∃W,w.alloc (.cells x.cs 52)=W:=⟨_,rfl⟩
 have G:Below w.heap.size w W:=by rw[←H];exact(Below.refl _ _).alloc (Qk _) _
 have f:ao W w.heap.size 52 x.cs:=by rw[←H];exact ao.new w _ _
 have HP:=Qh (pS p n c xs x.m.af W (h.below G) hn);have Jm:=Qh (h.below G);have HL:=Qh h.1;have V:=Qh (hx.below G);have HS:=Qh hs;obtain⟨r,g⟩:∃r,iH (xs.map NP.m) x.m=r:=⟨_,rfl⟩
 rw[g];have N:=Qh g;have d:=kM x.m.kind 48 48 rfl;obtain⟨k,hk⟩:∃k:Int,(x.m.kind.toNat:Int)=k:=⟨_,rfl⟩
 have HX:=Qh f;have HK:=Qh hk;obtain⟨c0,c1,c2,c3,c4,c5,c6,c7,c8⟩:=aU f;simp only[Nat.zero_add]at c0 c1 c2 c3 c4 c5 c6 c7 c8;unfold NP.cs fT at H⊢;rw[hk]at H c3 d⊢;have U:=Qh G;clear G f hk hx h g hs
 go_enter Tryz.func47,Tryz.ntmps47
 by_cases A:x.m.kind=48
 ·rw[decide_eq_true A,Bool.not_true]at d
  have E:Hid (r=CW (dE (xs.map NP.m) x.m.af) x.m):=Qh (by
   rw[←N.out];unfold iH
   rw[if_pos A])
  clear N A;go_upto_region 1 with fail;clear H;go_wp2_with fail;refine HP.out.mono ?_;rintro e L ⟨a,there,rfl,ha,X,o,I⟩;have Z:=Qh (U.out.trans (I.mono U.out.size));have T:=HX.out.below I HX.out.lt;have fz:=Qh T;have eI:=Qh (Jm.out.below I);have Ww:=Qh (V.out.below I);obtain⟨d0,d1,d2,d3,d4,d5,d6,d7,d8⟩:=aU T;simp only[Nat.zero_add]at d0 d1 d2 d3 d4 d5 d6 d7 d8;clear I T c0 c1 c2 c3 c4 c5 c6 c7 c8
  cases there with
  |false=>
   have E2:Hid (r=false):=Qh (by rw[E.out,sA (o HS.out rfl)];rfl);clear X o ha d0 d1 d2 d3 d4 d5 d6 d7 d8;go_wp2;go_ret;exact⟨by rw[E2.out];rfl,Z.out⟩
  |true=>
   obtain⟨O,J⟩:=X rfl;have Xm:a<n:=by rw[Qi,HL.out]at O;exact O
   have hf:=tT HS.out O J;rw[fI]at hf;obtain⟨b1,o1,rfl,cf,Y,gR⟩:=eI.out.dD Xm;obtain⟨y,hy⟩:∃y,xs.getD a aG=y:=⟨_,rfl⟩
   rw[hy]at hf Y gR;have B:Hid (r=(decide (y.m.kind=48)&&(decide (y.m.af=y.m.path)&&(decide (y.m.mode=x.m.mode∧y.m.uid=x.m.uid∧y.m.gid=x.m.gid∧y.m.time=x.m.time)&&decide (y.m.body=x.m.body))))):=Qh (by rw[E.out,hf];rfl);obtain⟨W3,M⟩:∃W3,L.alloc (.cells y.cs 52)=W3:=⟨_,rfl⟩
   have D:Below L.heap.size L W3:=by rw[←M];exact(Below.refl _ _).alloc (Qk _) _
   have hY:ao W3 L.heap.size 52 y.cs:=by rw[←M];exact ao.new L _ _
   have AZ:=fz.out.below D fz.out.lt;have R:=Qh (Z.out.trans (D.mono Z.out.size));have Wx:=Qh (Ww.out.below D);have WA:=Qh (Y.below D);obtain⟨y0,y1,y2,y3,y4,y5,y6,y7,y8⟩:=aU hY;obtain⟨x0,x1,x2,x3,x4,x5,x6,x7,x8⟩:=aU AZ;obtain⟨z0,z1,z2,z3,z4,z5,z6,z7,z8⟩:=gR;have Eo:=xP y.m.kind 48 48 rfl;obtain⟨ky,EG⟩:∃k:Int,(y.m.kind.toNat:Int)=k:=⟨_,rfl⟩
   unfold NP.cs fT at M;rw[EG]at M Eo y3 z3;simp only[Nat.zero_add]at y0 y1 y2 y3 y4 y5 y6 y7 y8 x0 x1 x2 x3 x4 x5 x6 x7 x8;have b:=iJ y.m.af y.m.path;have e4:=fun w=>Qn y.m.mode y.m.uid y.m.gid y.m.time x.m.mode x.m.uid x.m.gid x.m.time w
   have HE:=Qh (Gr y.p x.p y.m.body.length y.c x.m.body.length x.c y.m.body x.m.body W3 rfl rfl WA.out.gZ Wx.out.gZ);obtain⟨q1,t⟩:∃q,decide (y.m.kind=48)=q:=⟨_,rfl⟩
   obtain⟨q2,l⟩:∃q,decide (y.m.af=y.m.path)=q:=⟨_,rfl⟩
   obtain⟨q3,u⟩:∃q,decide (y.m.mode=x.m.mode∧y.m.uid=x.m.uid∧y.m.gid=x.m.gid∧y.m.time=x.m.time)=q:=⟨_,rfl⟩
   obtain⟨q4,z⟩:∃q,decide (y.m.body=x.m.body)=q:=⟨_,rfl⟩
   rw[t]at Eo;rw[l]at b;simp only[u]at e4;rw[z]at HE;rw[t,l,u,z]at B;clear t l u z X o ha O J hf hy cf Y D hY AZ EG;have aa4:(a:Int)<(n:Int):=by omega
   go_upto_region 7 with fail
   clear M d0 d1 d2 d3 d4 d5 d6 d7 d8 z0 z1 z2 z3 z4 z5 z6 z7 z8
   cases q1 with
   |false=>
    go_wp2;go_ret;exact⟨by rw[B.out];rfl,R.out⟩
   |true=>
    cases q2 with
    |false=>
     go_wp2;go_ret;exact⟨by rw[B.out];rfl,R.out⟩
    |true=>
     cases q3 with
     |false=>
      go_wp2;go_ret;exact⟨by rw[B.out];rfl,R.out⟩
     |true=>
      go_wp2_with fail
      refine HE.out.mono ?_;rintro e w4 ⟨rfl,rfl⟩;go_wp2;go_ret;exact⟨by rw[B.out];rfl,R.out⟩
 ·rw[decide_eq_false A,Bool.not_false]at d
  have E:Hid (r=decide (x.m.af=[])):=Qh (by
   rw[←N.out];unfold iH
   rw[if_neg A])
  have b:=aV x.m.af;clear N A;go_upto_region 1 with fail
  go_wp2;go_ret;exact⟨by rw[E.out,←b];rfl,U.out⟩
end Tre
namespace Tre
open Go.ChangeShapes Go.WideShapes Go.ChangeAt Go.RowKit Base bJ cn Bk Go.Lib
variable {t:List aw}
attribute [local irreducible] wpQuiet
theorem mq (hk:k<t.length) (h:eS (t.take k)) (ax:k=0∨dI (t.getD (k - 1) bT).path (t.getD k bT).path=true):eS (t.take (k+1)):=by
 rw[List.take_succ_eq_append_getElem hk];refine List.pairwise_append.2 ⟨h,List.pairwise_singleton _ _,fun x A y hy=>?_⟩;rw[List.mem_singleton.1 hy];rcases ax with rfl|ax
 ·simp at A
 ·obtain⟨i,hi,rfl⟩:=qq A
  rw[Qg]at hi
  have e:(t.take k).getD i bT=t.getD i bT:=by
   rw[List.getD,List.getD,List.getElem?_take,if_pos (by omega)]
  have B:t.getD k bT=t[k]:=by rw[List.getD,Qd hk];rfl
  rw[e,←B];rcases Nat.lt_or_eq_of_le (show i≤k - 1 by omega)with h1|h1
  ·have:=gG h (i:=i) (j:=k - 1) h1 (by rw[Qg];omega)
   rw[e]at this
   have D:(t.take k).getD (k - 1) bT=t.getD (k - 1) bT:=by
    rw[List.getD,List.getD,List.getElem?_take,if_pos (by omega)]
   rw[D]at this;exact gv _ _ _ this ax
  ·rw[h1];exact ax
theorem aD (hk:k<t.length) (h:eo t k=false):bD t=false:=by
 rw[Bool.eq_false_iff];intro A;simp only[bD,Bool.and_eq_true,List.all_eq_true,List.mem_range]at A;have:=A.2 k hk;rw[h]at this
 cases this
theorem sF (hn:t.length≤4096) (h:∀k,k<t.length→eo t k=true):bD t=true:=by
 simp only[bD,Bool.and_eq_true,List.all_eq_true,List.mem_range,decide_eq_true_eq];exact⟨hn,h⟩
def stepT (t:List aw) (i:Nat):Bool:=eJ (t.getD i bT)&&(decide (i=0)||dI (t.getD (i - 1) bT).path (t.getD i bT).path)
theorem aB (t:List aw) (i:Nat):eo t i=(stepT t i&&iH (t.take (i+1)) (t.getD i bT)):=rfl
def ga (w:World) (b o:Nat) (y:NP):Prop:=∀p:fW w,eP p.w' b o y
theorem pW {b o:Nat} {y:NP} (h:eP w b o y) (hb:b<w.heap.size):ga w b o y:=fun p=>h.below hb p.bel
theorem IK (p:Option Addr) (n c:Nat) (xs:List NP) (w:World) (h:aY w p n xs) (hc:n≤c) (hm:c≤maxLen) (hF:∀x∈xs,Pv x) (hT:Path.Tabs w):
 Calls Tryz.prog 20 #[.slice p n c] w fun e w'=>e=.returned (.bool (bD (xs.map NP.m)))∧Below w.heap.size w w':=by
 unfold maxLen at hm;have HM:=Qh h;have G:=Qh h.1;have HF:=Qh hF;have HT:=Qh hT;obtain⟨r,hr⟩:∃r,bD (xs.map NP.m)=r:=⟨_,rfl⟩
 rw[hr];have V:=Qh hr;clear h hF hT hr
 go_enter Tryz.func20,Tryz.ntmps20
 by_cases Ke:n≤4096
 ·have Mt:¬((4096:Int)<(n:Int)):=by omega
  go_wp2_with fail
  go_loopw [3,4,10] (fun _ _ i wr=>∃(k:Nat),k≤n∧i=.int .i64 (k:Int)∧Hid (eS ((xs.map NP.m).take k))∧Hid (∀j,j<k→eo (xs.map NP.m) j=true)∧Hid (Below w.heap.size w wr)) (fun _ _ i _=>n - (RowKit.intOf i).toNat)
  case atStart=>exact⟨0,Nat.zero_le _,rfl,Qh List.Pairwise.nil,Qh (fun j R=>absurd R (by omega)),Qh (Below.refl _ _)⟩
  case round=>
   obtain⟨k,hk,rfl,hS,hG,o⟩:=hrel
   by_cases N:k<n
   ·obtain⟨d,o1,rfl,cf,b6,gR⟩:=(HM.out.below o.out).dD N
    obtain⟨u,hu⟩:∃u,xs.getD k aG=u:=⟨_,rfl⟩
    rw[hu]at b6 gR;have HU:=Qh hu;have Sa:Pv u:=HF.out u (by rw[←hu];exact oB xs k (by rw[G.out];exact N));obtain⟨W,t⟩:∃W,wr.alloc (.cells u.cs 52)=W:=⟨_,rfl⟩
    have I2:Below wr.heap.size wr W:=by rw[←t];exact(Below.refl _ _).alloc (Qk _) _
    have y:ao W wr.heap.size 52 u.cs:=by rw[←t];exact ao.new wr _ _
    have H:=Qh (o.out.trans (I2.mono o.out.size));have Z:Hid (∀p:fW W,Calls Tryz.prog 46 #[.agg u.cs] p.w' fun e w'=>e=.returned (.bool (eJ u.m))∧Below p.w'.heap.size p.w' w'):=Qh (fun p=>CJ u p.w' Sa ((HT.out.below H.out).below p.bel));have Y:ga W wr.heap.size 0 u:=pW (aU y) y.lt;have X:=Qh y;have b8:=Qh (b6.below I2);have Jm:=Qh (HM.out.below H.out);have M:Hid ((xs.map NP.m).getD k bT=u.m):=Qh (by rw[fI,hu]);unfold NP.cs fT at t Z;unfold ga eP at Y;simp only[Nat.zero_add]at Y;obtain⟨c0,c1,c2,c3,c4,c5,c6,c7,c8⟩:=gR;have kK:(k:Int)<(n:Int):=by omega
    obtain⟨q,hq⟩:∃q,eJ u.m=q:=⟨_,rfl⟩
    rw[hq]at Z;have l:=Qh hq;clear hu b6 I2 y hq Sa cf;go_upto_region 6 with fail;clear t c0 c1 c2 c3 c4 c5 c6 c7 c8
    cases q with
    |false=>
     have E:Hid (r=false):=Qh (by
      rw[←V.out];refine aD (k:=k) (by rw[Qi,G.out];exact N) ?_;rw[aB,stepT,M.out,l.out]
      rfl)
     refine aK (by kernel_rfl) (by kernel_rfl) ?_
     repeat (quiet_step (first|(go_at_call 46;exact Calls.cX (Z.out _))))
     refine wpQuiet_nil ?_;intro U A;have B:=cb A;clear A;have F:=Qh (H.out.trans (B.mono H.out.size));clear B Y;go_wp2;go_ret;exact⟨by rw[E.out];rfl,F.out⟩
    |true=>
     by_cases O:k=0
     ·have sa:Hid (stepT (xs.map NP.m) k=true):=Qh (by rw[stepT,M.out,l.out,decide_eq_true O];rfl)
      have oD:decide ((0:Int)<(k:Int))=false:=decide_eq_false (by omega);have bQ:decide (0<k)=false:=decide_eq_false (by omega);have g:Hid (eS ((xs.map NP.m).take (k+1))):=Qh (mq (by rw[Qi,G.out];exact N) hS.out (.inl O));clear O;refine aK (by kernel_rfl) (by kernel_rfl) ?_
      repeat (quiet_step (first
       |(go_at_call 46;exact Calls.cX (Z.out _))))
      refine wpQuiet_nil ?_;intro U A;have B:=cb A;clear A;have L:=Qh (H.out.trans (B.mono H.out.size))
      have I:Hid (∀p:fW U,Calls Tryz.prog 47 #[.agg u.cs,.slice (some ⟨d,o1,none⟩) (k+1) c] p.w' fun e w'=>e=.returned (.bool (iH ((xs.map NP.m).take (k+1)) u.m))∧Below p.w'.heap.size p.w' w'):=Qh (fun p=>by
       have f:=B.trans (p.bel.mono B.size);have hm:=(Jm.out.below f).drop (show k+1≤n by omega);have:=vM u (some ⟨d,o1,none⟩) (k+1) c (xs.take (k+1)) p.w' (b8.out.below f) hm (by omega) (by rw[List.map_take];exact g.out);rw[List.map_take]at this
       exact this)
      obtain⟨q2,T⟩:∃q,iH ((xs.map NP.m).take (k+1)) u.m=q:=⟨_,rfl⟩
      rw[T]at I;have b:=Qh T;have J:ga U wr.heap.size 0 u:=pW (aU (X.out.below B X.out.lt)) (Nat.lt_of_lt_of_le X.out.lt B.size);unfold NP.cs fT at I;unfold ga eP at J;simp only[Nat.zero_add]at J;have w1:IntKind.i64.wrap ((k:Int)+1)=(k:Int)+1:=by rw[IntKind.wrap_i64];omega
      have XT:(k:Int)+1≤(c:Int):=by omega
      have O:(0:Int)≤(k:Int)+1:=by omega
      have Nz:((k:Int)+1).toNat=k+1:=by omega
      clear B Y T
      cases q2 with
      |false=>
       have E:Hid (r=false):=Qh (by
        rw[←V.out];refine aD (k:=k) (by rw[Qi,G.out];exact N) ?_
        rw[aB,M.out,b.out,Bool.and_false])
       go_wp2_with fail
       refine aK (by kernel_rfl) (by kernel_rfl) ?_
       repeat (quiet_step (first
        |(go_at_call 47;exact Calls.cX (I.out _))))
       refine wpQuiet_nil ?_;intro wz A;have D:=cb A;clear A;have F:=Qh (L.out.trans (D.mono L.out.size));clear D J;go_wp2;go_ret;exact⟨by rw[E.out];rfl,F.out⟩
      |true=>
       have nX:Hid (∀j,j<k+1→eo (xs.map NP.m) j=true):=Qh (fun j R=>by
        rcases Nat.lt_succ_iff_lt_or_eq.1 R with h|rfl
        ·exact hG.out j h
        ·rw[aB,sa.out,M.out,b.out];rfl)
       go_wp2_with fail
       refine aK (by kernel_rfl) (by kernel_rfl) ?_
       repeat (quiet_step (first
        |(go_at_call 47;exact Calls.cX (I.out _))))
       refine wpQuiet_nil ?_;intro wz A;have D:=cb A;clear A;have F:=Qh (L.out.trans (D.mono L.out.size));clear D J;go_wp2;go_roundw
       case rel=>exact⟨k+1,by omega,by go_num,g,nX,F⟩
       case measure=>simp[RowKit.intOf];omega
     ·have dR:k - 1<n:=by omega
      obtain⟨b2,o2,zA,bZ,ej,kr⟩:=Jm.out.dD dR;simp only[Option.some.injEq,Addr.mk.injEq,and_true]at zA;obtain⟨rfl,rfl⟩:=zA;obtain⟨v,hv⟩:∃v,xs.getD (k - 1) aG=v:=⟨_,rfl⟩
      rw[hv]at kr;have RL:Hid ((xs.map NP.m).getD (k - 1) bT=v.m):=Qh (by rw[fI,hv]);have sV:ga W d (o1+(k - 1)*9) v:=pW kr bZ;unfold ga eP at sV;have Mg:Hid (∀p:fW W,Calls Tryz.prog 45 #[.string (str v.m.path),.string (str u.m.path)] p.w' fun e w'=>e=.returned (.bool (dI v.m.path u.m.path))∧p.w'=w'):=Qh (fun p=>Path.oL v.m.path u.m.path p.w');obtain⟨lt,Cw⟩:∃x,dI v.m.path u.m.path=x:=⟨_,rfl⟩
      rw[Cw]at Mg;have z:=Qh Cw;have oD:(0:Int)<(k:Int):=by omega
      have bQ:0<k:=by omega
      have TW:(1:Int)≤(k:Int):=by omega
      have wk:IntKind.i64.wrap ((k:Int) - 1)=(k:Int) - 1:=by rw[IntKind.wrap_i64];omega
      have wk0:(0:Int)≤(k:Int) - 1:=by omega
      have wk2:(k:Int) - 1<(n:Int):=by omega
      have wk3:((k:Int) - 1).toNat=k - 1:=by omega
      clear hv kr ej bZ Cw
      cases lt with
      |false=>
       have E:Hid (r=false):=Qh (by
        rw[←V.out];refine aD (k:=k) (by rw[Qi,G.out];exact N) ?_;rw[aB,stepT,M.out,RL.out,z.out,l.out,decide_eq_false O]
        rfl)
       refine aK (by kernel_rfl) (by kernel_rfl) ?_
       repeat (quiet_step (first
        |(go_at_call 46;exact Calls.cX (Z.out _))
        |(go_at_call 45;exact Calls.kV (Mg.out _))))
       refine wpQuiet_nil ?_;intro U A;have B:=cb A;clear A;have F:=Qh (H.out.trans (B.mono H.out.size));clear B Y sV;go_wp2;go_ret;exact⟨by rw[E.out];rfl,F.out⟩
      |true=>
       have sa:Hid (stepT (xs.map NP.m) k=true):=Qh (by rw[stepT,M.out,RL.out,z.out,l.out,Bool.or_true];rfl);have g:Hid (eS ((xs.map NP.m).take (k+1))):=Qh (mq (by rw[Qi,G.out];exact N) hS.out (.inr (by rw[M.out,RL.out];exact z.out)));refine aK (by kernel_rfl) (by kernel_rfl) ?_
       repeat (quiet_step (first
        |(go_at_call 46;exact Calls.cX (Z.out _))
        |(go_at_call 45;exact Calls.kV (Mg.out _))))
       refine wpQuiet_nil ?_;intro U A;have B:=cb A;clear A;clear sV O;have L:=Qh (H.out.trans (B.mono H.out.size))
       have I:Hid (∀p:fW U,Calls Tryz.prog 47 #[.agg u.cs,.slice (some ⟨d,o1,none⟩) (k+1) c] p.w' fun e w'=>e=.returned (.bool (iH ((xs.map NP.m).take (k+1)) u.m))∧Below p.w'.heap.size p.w' w'):=Qh (fun p=>by
        have f:=B.trans (p.bel.mono B.size);have hm:=(Jm.out.below f).drop (show k+1≤n by omega);have:=vM u (some ⟨d,o1,none⟩) (k+1) c (xs.take (k+1)) p.w' (b8.out.below f) hm (by omega) (by rw[List.map_take];exact g.out);rw[List.map_take]at this
        exact this)
       obtain⟨q2,T⟩:∃q,iH ((xs.map NP.m).take (k+1)) u.m=q:=⟨_,rfl⟩
       rw[T]at I;have b:=Qh T;have J:ga U wr.heap.size 0 u:=pW (aU (X.out.below B X.out.lt)) (Nat.lt_of_lt_of_le X.out.lt B.size);unfold NP.cs fT at I;unfold ga eP at J;simp only[Nat.zero_add]at J;have w1:IntKind.i64.wrap ((k:Int)+1)=(k:Int)+1:=by rw[IntKind.wrap_i64];omega
       have XT:(k:Int)+1≤(c:Int):=by omega
       have O:(0:Int)≤(k:Int)+1:=by omega
       have Nz:((k:Int)+1).toNat=k+1:=by omega
       clear B Y T
       cases q2 with
       |false=>
        have E:Hid (r=false):=Qh (by
         rw[←V.out];refine aD (k:=k) (by rw[Qi,G.out];exact N) ?_
         rw[aB,M.out,b.out,Bool.and_false])
        go_wp2_with fail
        refine aK (by kernel_rfl) (by kernel_rfl) ?_
        repeat (quiet_step (first
         |(go_at_call 47;exact Calls.cX (I.out _))))
        refine wpQuiet_nil ?_;intro wz A;have D:=cb A;clear A;have F:=Qh (L.out.trans (D.mono L.out.size));clear D J;go_wp2;go_ret;exact⟨by rw[E.out];rfl,F.out⟩
       |true=>
        have nX:Hid (∀j,j<k+1→eo (xs.map NP.m) j=true):=Qh (fun j R=>by
         rcases Nat.lt_succ_iff_lt_or_eq.1 R with h|rfl
         ·exact hG.out j h
         ·rw[aB,sa.out,M.out,b.out];rfl)
        go_wp2_with fail
        refine aK (by kernel_rfl) (by kernel_rfl) ?_
        repeat (quiet_step (first
         |(go_at_call 47;exact Calls.cX (I.out _))))
        refine wpQuiet_nil ?_;intro wz A;have D:=cb A;clear A;have F:=Qh (L.out.trans (D.mono L.out.size));clear D J;go_wp2;go_roundw
        case rel=>exact⟨k+1,by omega,by go_num,g,nX,F⟩
        case measure=>simp[RowKit.intOf];omega
   ·have ng:¬((k:Int)<(n:Int)):=by omega
    have E:Hid (r=true):=Qh (by
     rw[←V.out]
     exact sF (by rw[Qi,G.out];exact Ke) (fun j R=>hG.out j (by rw[Qi,G.out]at R;omega)))
    go_wp2;go_ret;exact⟨by rw[E.out];rfl,o.out⟩
 ·have Mt:(4096:Int)<(n:Int):=by omega
  have E:Hid (r=false):=Qh (by
   rw[←V.out];unfold bD
   rw[Qi,G.out,decide_eq_false Ke,Bool.false_and])
  go_wp2;go_ret;exact⟨by rw[E.out];rfl,Below.refl _ _⟩
end Tre
namespace Tre
theorem Cl {m:av} (h:bC m=true):di m.path=true:=by
 unfold bC at h;simp only[Bool.and_eq_true]at h;exact h.1.1.1.1
def WD (ms:List av) (S:St):Prop:=∀e∈S,e.2<ms.length∧(ms.getD e.2 cH).kind≠49∧di e.1=true
theorem WD.put {ms:List av} {S:St} (h:WD ms S) {p:List UInt8} (hn:n<ms.length) (hk:(ms.getD n cH).kind≠49) (hp:di p=true):WD ms (jm S p n):=by
 intro e he;unfold jm at he;rw[List.mem_append,List.mem_filter]at he;rcases he with he|he
 ·exact h e he.1
 ·rw[List.mem_singleton.1 he]
  exact⟨hn,hk,hp⟩
end Tre
namespace oa
open Tre
def qv (x:aw) (p:List UInt8):av:=⟨x.path,p,49,x.mode,x.uid,x.gid,x.time,[]⟩
def nodeAt (t:List aw) (p:List UInt8):aw:=(dE t p).getD bT
structure WC where
 zN:List (List UInt8 × List UInt8)
 out:List av
def C6 (t:List aw) (s:WC) (p:List UInt8):WC:=
 let x:=nodeAt t p
 if x.kind=48 then
  match s.zN.find? (fun e=>e.1==x.af)with
  |some e=>⟨s.zN,s.out++[qv x e.2]⟩
  |none=>⟨s.zN++[(x.af,x.path)],s.out++[x.mem]⟩
 else⟨s.zN,s.out++[x.mem]⟩
def K2 (t:List aw) (order:List (List UInt8)):WC:=order.foldl (C6 t) ⟨[],[]⟩
def dY (t:List aw) (order:List (List UInt8)):List av:=(K2 t order).out
theorem Hh (t:List aw) (os:List (List UInt8)) (p:List UInt8):K2 t (os++[p])=C6 t (K2 t os) p:=by
 unfold K2;rw[List.foldl_append];rfl
def cC (t:List aw) (os:List (List UInt8)):Prop:=os.Perm (t.map (·.path))
def aM (t:List aw) (os:List (List UInt8)) (i:Nat):Nat:=
 if(nodeAt t (os.getD i [])).kind=48 then
  ((List.range (i+1)).find? fun j=>decide ((nodeAt t (os.getD j [])).kind=48)&&decide ((nodeAt t (os.getD j [])).af=(nodeAt t (os.getD i [])).af)).getD i
 else i
section
variable {t:List aw} {os:List (List UInt8)}
def yL (t:List aw) (os:List (List UInt8)) (i j:Nat):Prop:=(nodeAt t (os.getD j [])).kind=48∧(nodeAt t (os.getD i [])).kind=48∧(nodeAt t (os.getD j [])).af=(nodeAt t (os.getD i [])).af
theorem fc (h:(nodeAt t (os.getD i [])).kind=48):aM t os i≤i∧yL t os i (aM t os i)∧∀j,j<aM t os i→¬yL t os i j:=by
 unfold aM;rw[if_pos h]
 cases hf:(List.range (i+1)).find? (fun j=>decide ((nodeAt t (os.getD j [])).kind=48)&&decide ((nodeAt t (os.getD j [])).af=(nodeAt t (os.getD i [])).af))with
 |none=>
  have:=List.find?_eq_none.1 hf i (List.mem_range.2 (Nat.lt_succ_self _));rw[decide_eq_true h,decide_eq_true rfl]at this;exact absurd rfl this
 |some j=>
  obtain⟨h1,k,hk,e,B⟩:=List.find?_eq_some_iff_getElem.1 hf;rw[List.getElem_range]at e;rw[List.length_range]at hk;subst e;simp only[Bool.and_eq_true,decide_eq_true_eq]at h1;refine⟨by rw[Option.getD_some];omega,⟨by rw[Option.getD_some];exact h1.1,h,by rw[Option.getD_some];exact h1.2⟩,fun j A hs=>?_⟩;rw[Option.getD_some]at A;have:=B j A;rw[List.getElem_range]at this;simp only[Bool.not_eq_true',Bool.and_eq_false_iff,decide_eq_false_iff_not]at this;rcases this with h|h
  ·exact h hs.1
  ·exact h hs.2.2
theorem eL (h:(nodeAt t (os.getD i [])).kind≠48):aM t os i=i:=by
 unfold aM;rw[if_neg h]
theorem DE (i:Nat):aM t os i≤i:=by
 by_cases h:(nodeAt t (os.getD i [])).kind=48
 ·exact(fc h).1
 ·rw[eL h];exact Qk _
theorem tP {j:Nat} (h:yL t os i j):aM t os i=aM t os j:=by
 obtain⟨D,a2,a3⟩:=fc (t:=t) (os:=os) (i:=i) h.2.1;obtain⟨E,A,B⟩:=fc (t:=t) (os:=os) (i:=j) h.1;rcases Nat.lt_trichotomy (aM t os i) (aM t os j)with ax|he|ax
 ·exact absurd ⟨a2.1,h.1,a2.2.2.trans h.2.2.symm⟩ (B _ ax)
 ·exact he
 ·exact absurd ⟨A.1,h.2.1,A.2.2.trans h.2.2⟩ (a3 _ ax)
theorem rQ (i:Nat):aM t os (aM t os i)=aM t os i:=by
 by_cases h:(nodeAt t (os.getD i [])).kind=48
 ·exact(tP (fc h).2.1).symm
 ·rw[eL h,eL h]
theorem o7 (i:Nat):(nodeAt t (os.getD (aM t os i) [])).kind=(nodeAt t (os.getD i [])).kind:=by
 by_cases h:(nodeAt t (os.getD i [])).kind=48
 ·rw[(fc h).2.1.1,h]
 ·rw[eL h]
def cW (t:List aw) (os:List (List UInt8)) (i:Nat):av:=
 if aM t os i=i then(nodeAt t (os.getD i [])).mem else qv (nodeAt t (os.getD i [])) (os.getD (aM t os i) [])
end
section
variable {t:List aw} {os:List (List UInt8)}
theorem jA {p:List UInt8} (h:p∈t.map (·.path)):(nodeAt t p).path=p∧nodeAt t p∈t:=by
 obtain⟨x,B,rfl⟩:=List.mem_map.1 h;unfold nodeAt
 cases hf:dE t x.path with
 |none=>
  unfold dE at hf;have:=List.find?_eq_none.1 hf x B;simp at this
 |some y=>
  unfold dE at hf;have D:=List.find?_some hf;have A:(y.path==x.path)=true:=D;exact⟨by simpa using A,List.mem_of_find?_eq_some hf⟩
def Ep (t:List aw) (os:List (List UInt8)) (n:Nat):List (List UInt8 × List UInt8):=
 ((List.range n).filter fun i=>decide ((nodeAt t (os.getD i [])).kind=48)&&decide (aM t os i=i)).map fun i=>((nodeAt t (os.getD i [])).af,(nodeAt t (os.getD i [])).path)
theorem EV (hp:∀p∈os,p∈t.map (·.path)):∀n,n≤os.length→K2 t (os.take n)=⟨Ep t os n,(List.range n).map (cW t os)⟩
 |0,_=>rfl
 |n+1,h=>by
  have W:=EV hp n (by omega);have H:n<os.length:=by omega
  have I:os.getD n []=os[n]:=by rw[List.getD,Qd H];rfl
  have T:(nodeAt t (os.getD n [])).path=os.getD n []:=(jA (hp _ (by rw[I];exact List.getElem_mem H))).1;rw[List.take_succ_eq_append_getElem H,Hh,W,←I];unfold C6
  dsimp only
  rw[List.range_succ,List.map_append];unfold Ep;rw[List.range_succ,List.filter_append,List.map_append]
  by_cases hk:(nodeAt t (os.getD n [])).kind=48
  ·rw[if_pos hk]
   obtain⟨c,J,b⟩:=fc (t:=t) (os:=os) (i:=n) hk
   by_cases D:aM t os n=n
   ·have M:(((List.range n).filter fun i=>decide ((nodeAt t (os.getD i [])).kind=48)&&decide (aM t os i=i)).map fun i=>((nodeAt t (os.getD i [])).af,(nodeAt t (os.getD i [])).path)).find? (fun e=>e.1==(nodeAt t (os.getD n [])).af)=none:=by
     rw[List.find?_eq_none];intro e he;obtain⟨i,hi,rfl⟩:=List.mem_map.1 he;rw[List.mem_filter,List.mem_range]at hi;obtain⟨R,A⟩:=hi;simp only[Bool.and_eq_true,decide_eq_true_eq]at A;intro hc;have L:(nodeAt t (os.getD i [])).af=(nodeAt t (os.getD n [])).af:=by simpa using hc
     exact b i (by omega) ⟨A.1,hk,L⟩
    rw[M]
    dsimp only
    have hm:cW t os n=(nodeAt t (os.getD n [])).mem:=by unfold cW;rw[if_pos D]
    have B:[n].filter (fun i=>decide ((nodeAt t (os.getD i [])).kind=48)&&decide (aM t os i=i))=[n]:=by
     rw[List.filter_cons_of_pos (by rw[decide_eq_true hk,decide_eq_true D];rfl),List.filter_nil]
    rw[B,List.map_cons,List.map_nil,List.map_cons,List.map_nil,hm]
   ·have U:aM t os n<n:=by omega
    have N:∃e,(((List.range n).filter fun i=>decide ((nodeAt t (os.getD i [])).kind=48)&&decide (aM t os i=i)).map fun i=>((nodeAt t (os.getD i [])).af,(nodeAt t (os.getD i [])).path)).find? (fun e=>e.1==(nodeAt t (os.getD n [])).af)=some e∧e.2=os.getD (aM t os n) []:=by
     cases hf:(((List.range n).filter fun i=>decide ((nodeAt t (os.getD i [])).kind=48)&&decide (aM t os i=i)).map fun i=>((nodeAt t (os.getD i [])).af,(nodeAt t (os.getD i [])).path)).find? (fun e=>e.1==(nodeAt t (os.getD n [])).af)with
     |none=>
      exfalso
      have Y:((nodeAt t (os.getD (aM t os n) [])).af,(nodeAt t (os.getD (aM t os n) [])).path)∈(((List.range n).filter fun i=>decide ((nodeAt t (os.getD i [])).kind=48)&&decide (aM t os i=i)).map fun i=>((nodeAt t (os.getD i [])).af,(nodeAt t (os.getD i [])).path)):=
       List.mem_map.2 ⟨aM t os n,List.mem_filter.2 ⟨List.mem_range.2 U,by rw[decide_eq_true J.1,decide_eq_true (rQ n)];rfl⟩,rfl⟩
      have:=List.find?_eq_none.1 hf _ Y;apply this;show((nodeAt t (os.getD (aM t os n) [])).af==(nodeAt t (os.getD n [])).af)=true;rw[J.2.2];exact beq_self_eq_true _
     |some e=>
      have h1:=List.mem_of_find?_eq_some hf;have Z:=List.find?_some hf;have V:(e.1==(nodeAt t (os.getD n [])).af)=true:=Z;obtain⟨i,hi,rfl⟩:=List.mem_map.1 h1;rw[List.mem_filter,List.mem_range]at hi;obtain⟨R,A⟩:=hi;simp only[Bool.and_eq_true,decide_eq_true_eq]at A;have hl:(nodeAt t (os.getD i [])).af=(nodeAt t (os.getD n [])).af:=by simpa using V
      have hs:yL t os n i:=⟨A.1,hk,hl⟩
      refine⟨_,rfl,?_⟩;show(nodeAt t (os.getD i [])).path=_;have X:aM t os n=i:=(tP hs).trans A.2;rw[X];have G:os.getD i []=os[i]'(by omega):=by rw[List.getD,Qd (by omega)];rfl
      exact(jA (hp _ (by rw[G];exact List.getElem_mem _))).1
    obtain⟨e,O,E⟩:=N;rw[O]
    dsimp only
    have hm:cW t os n=qv (nodeAt t (os.getD n [])) e.2:=by unfold cW;rw[if_neg D,E]
    have B:[n].filter (fun i=>decide ((nodeAt t (os.getD i [])).kind=48)&&decide (aM t os i=i))=[]:=by
     rw[List.filter_cons_of_neg (by rw[decide_eq_false D];simp),List.filter_nil]
    rw[B,List.map_nil,List.append_nil,List.map_cons,List.map_nil,hm]
  ·rw[if_neg hk]
   have hm:cW t os n=(nodeAt t (os.getD n [])).mem:=by unfold cW;rw[if_pos (eL hk)]
   have B:[n].filter (fun i=>decide ((nodeAt t (os.getD i [])).kind=48)&&decide (aM t os i=i))=[]:=by
    rw[List.filter_cons_of_neg (by rw[decide_eq_false hk];simp),List.filter_nil]
   rw[B,List.map_nil,List.append_nil,List.map_cons,List.map_nil,hm]
theorem pN (hp:∀p∈os,p∈t.map (·.path)):dY t os=(List.range os.length).map (cW t os):=by
 have:=EV hp os.length (Qk _);rw[List.take_of_length_le (Qk _)]at this;unfold dY;rw[this]
end
end oa
namespace Tre
open Go.ChangeShapes Go.WideShapes Go.ChangeAt Go.RowKit Base bJ cn Bk Block Go.Lib
def iM (w:World) (n:Nat) (bs:List UInt8) (e:Ending) (w':World):Prop:=
 ∃p c,e=.returned (.slice p n c)∧n≤c∧c≤maxLen∧cB w' p n bs∧(∀x,p=some x→w.heap.size≤x.block)∧Below w.heap.size w w'
theorem j6 (p:Option Addr) (n c:Nat) (bs:List UInt8) (w:World) (h:cB w p n bs) (hl:bs.length=n) (hn:n≤140737488351232):
 Calls Tryz.prog 49 #[.slice p n c] w (iM w n bs):=by
 obtain⟨i0,hi,T,O,R⟩:=info_parts lR;have U:=Qh hi;have Y:=Qh T;have X:=Qh O;have Z:=Qh R;have A:=Qh h;have B:=Qh hl;have d:∀w,(binOp .eql 26 (.slice p n c) (.slice none 0 0)).run Tryz.prog w=.ok (.bool p.isNone) w:=fun w=>Lib.run_eql_slice_nil w 26 5 p n c 0 0 Tryz.underlying26
 clear hi T O R h hl
 go_enter Tryz.func49,Tryz.ntmps49
 cases p with
 |none=>
  have h0:n=0:=by
   rcases Nat.eq_zero_or_pos n with h0|h0
   ·exact h0
   ·obtain⟨_,_,he,_⟩:=A.out h0
    cases he
  subst h0;go_wp2;go_ret;have V:bs=[]:=List.eq_nil_of_length_eq_zero B.out;subst V;exact⟨none,0,rfl,Qk _,by decide,cB.none_ _ _,(fun x h=>by cases h),Below.refl _ _⟩
 |some a=>
  go_wp2_with (at_builtin;refine kt rfl _ _ 26 rfl w.heap.size 5 i0 Tryz.underlying26 U.out Y.out X.out Z.out _ 0 [] rfl (World.ownsRow_made w #[] 0 (Qk _) (by decide) rfl) (some a) n c bs rfl (A.out.alloc _) B.out ?d2 ?d3 ?_)
  case d2=>omega
  case d3=>simp
  intro v2 w2 L M;have D:eR w2 w.heap.size v2 n bs:=by simpa [eR]using L
  have N:Kept ag w w2:=(((Kept.refl ag w).alloc _)).grown M (by intro k hk;simp[Value.ownBlock]at hk;omega);have E:Below w.heap.size w w2:=N.below (Qk _) (fun _ h=>h.elim);obtain⟨b,c2,rfl,G,I,J,_,H⟩:=D.slice;have P:=Qh (And.intro G (And.intro I (And.intro J (And.intro H E))));clear L M D N E G I J H;go_wp2;go_ret;exact⟨b,c2,rfl,P.out.1,P.out.2.1,P.out.2.2.1,fun x W=>(P.out.2.2.2.1 x W).1,P.out.2.2.2.2⟩
theorem cE {t:List aw} (h:bD t=true):eS t:=by
 simp only[bD,Bool.and_eq_true,List.all_eq_true,List.mem_range]at h
 have key:∀k,k≤t.length→eS (t.take k):=fun k=>by
  induction k with
  |zero=>exact fun _=>List.Pairwise.nil
  |succ k ih=>
   intro hk;have:=h.2 k (by omega);rw[aB,Bool.and_eq_true,stepT,Bool.and_eq_true,Bool.or_eq_true]at this;refine mq (by omega) (ih (by omega)) ?_;rcases this.1.2 with h1|h1
   ·exact .inl (of_decide_eq_true h1)
   ·exact .inr h1
 have:=key t.length (Qk _)
 rwa [List.take_length]at this
end Tre
namespace oa
open Tre
section
variable {t:List aw} {os:List (List UInt8)}
theorem qu (hg:bD t=true) (hk:k<t.length):eo t k=true:=by
 unfold bD at hg;simp only[Bool.and_eq_true,List.all_eq_true,List.mem_range]at hg;exact hg.2 k hk
theorem mJ (hk:k<t.length):t.getD k bT=t[k]:=by rw[List.getD,Qd hk];rfl
theorem dJ (hg:bD t=true) {x:aw} (hx:x∈t):x.kind≠49∧bC x.mem=true∧(x.kind≠48→x.af=[]):=by
 obtain⟨k,hk,rfl⟩:=List.mem_iff_getElem.1 hx;have h:=qu hg hk;unfold eo eJ at h
 dsimp only at h
 rw[mJ hk]at h;simp only[Bool.and_eq_true,decide_eq_true_eq]at h;refine⟨h.1.1.1,h.1.1.2,fun B=>?_⟩;have A:=h.2;unfold iH at A;rw[if_neg B]at A;exact of_decide_eq_true A
theorem jB (hg:bD t=true) {x:aw} (hx:x∈t):nodeAt t x.path=x:=by
 obtain⟨k,hk,rfl⟩:=List.mem_iff_getElem.1 hx;unfold nodeAt;rw[tT (cE hg) hk (by rw[mJ hk]),Option.getD_some,mJ hk]
theorem gq (hg:bD t=true) {x:aw} (hx:x∈t) (ee:x.kind=48):∃y∈t,y.path=x.af∧y.kind=48∧y.af=y.path∧(y.mode=x.mode∧y.uid=x.uid∧y.gid=x.gid∧y.time=x.time)∧y.body=x.body∧(y=x∨dI y.path x.path=true):=by
 obtain⟨k,hk,rfl⟩:=List.mem_iff_getElem.1 hx;have h:=qu hg hk;unfold eo at h
 dsimp only at h
 rw[mJ hk]at h;rw[Bool.and_eq_true]at h;have A:=h.2;unfold iH at A;rw[if_pos ee]at A
 cases hf:dE (t.take (k+1)) t[k].af with
 |none=>rw[hf]at A;cases A
 |some y=>
  rw[hf]at A;unfold CW at A;simp only[Bool.and_eq_true,decide_eq_true_eq]at A;unfold dE at hf;have hy:=List.mem_of_find?_eq_some hf;have B:=List.find?_some hf;have H:(y.path==t[k].af)=true:=B;obtain⟨j,G,e⟩:=List.mem_iff_getElem.1 hy;rw[Qg]at G;rw[List.getElem_take]at e;refine⟨y,List.mem_of_mem_take hy,by simpa using H,A.1,A.2.1,A.2.2.1,A.2.2.2,?_⟩;rcases Nat.lt_or_ge j k with E|Mu
  ·right
   have:=gG (cE hg) E hk;rw[mJ hk,mJ (show j<t.length by omega),e]at this;exact this
  ·left
   have D:j=k:=by omega
   subst D;exact e.symm
theorem qp {m:av} (h:bC m=true) (hk:m.kind=48):m.target=[]:=by
 unfold bC at h;simp only[Bool.and_eq_true]at h;have A:=h.2;rw[if_pos (.inl hk)]at A
 simpa using A
theorem B2 (hg:bD t=true) {x y:aw} (hx:x∈t) (hy:y∈t) (h1:x.kind=48) (h2:y.kind=48) (hl:y.af=x.af):x=gU x.path y.mem x.af:=by
 obtain⟨a,H,D,a2,a3,a4,a5,_⟩:=gq hg hx h1;obtain⟨b,I,E,J,L,A,G,_⟩:=gq hg hy h2;have B:a=b:=by rw[←jB hg H,←jB hg I,D,E,hl]
 subst B;have t1:=qp (dJ hg hx).2.1 h1;have t2:=qp (dJ hg hy).2.1 h2
 cases x
 cases y
 simp only[aw.mem]at*;simp only[gU,aw.mk.injEq];refine⟨trivial,t1.trans t2.symm,trivial,h1.trans h2.symm,?_,?_,?_,?_,?_⟩
 ·exact a4.1.symm.trans A.1
 ·exact a4.2.1.symm.trans A.2.1
 ·exact a4.2.2.1.symm.trans A.2.2.1
 ·exact a4.2.2.2.symm.trans A.2.2.2
 ·exact a5.symm.trans G
theorem ma (hg:bD t=true) (ho:cC t os):os.Nodup:=by
 refine ho.nodup_iff.2 ?_;unfold List.Nodup;rw[List.pairwise_map];exact(cE hg).imp fun h=>nM h
theorem mS (ho:cC t os):∀p∈os,p∈t.map (·.path):=fun p A=>ho.mem_iff.1 A
theorem gz (ho:cC t os) (hi:i<os.length):nodeAt t (os.getD i [])∈t∧(nodeAt t (os.getD i [])).path=os.getD i []:=by
 have h:os.getD i []∈t.map (·.path):=by
  refine mS ho _ ?_;rw[List.getD,Qd hi];exact List.getElem_mem hi
 exact⟨(jA h).2,(jA h).1⟩
theorem nL (ho:cC t os):(dY t os).length=os.length:=by rw[pN (mS ho)];simp
theorem jf (ho:cC t os) (hi:i<os.length):(dY t os).getD i cH=cW t os i:=by
 rw[pN (mS ho),List.getD,List.getElem?_map,List.getElem?_range hi];rfl
theorem GK {x:aw} (h:bC x.mem=true) {p:List UInt8} (hp:di p=true):bC (qv x p)=true:=by
 unfold bC at h⊢;simp only[Bool.and_eq_true]at h⊢;refine⟨⟨⟨⟨h.1.1.1.1,h.1.1.1.2⟩,decide_eq_true (Nat.zero_le _)⟩,by show((49:UInt8)==48||([]:List UInt8)==[])=true;decide⟩,?_⟩;show(if(49:UInt8)=48∨(49:UInt8)=53 then p==[]else if(49:UInt8)=49 then di p else if(49:UInt8)=50 then _ else false)=true;rw[if_neg (by decide),if_pos rfl];exact hp
theorem C7 (hg:bD t=true) (ho:cC t os) (hi:i<os.length):bC (cW t os i)=true:=by
 have B:=gz ho hi;unfold cW;split
 ·exact(dJ hg B.1).2.1
 ·have A:=gz ho (show aM t os i<os.length from Nat.lt_of_le_of_lt (DE i) hi)
  refine GK (dJ hg B.1).2.1 ?_;rw[←A.2];exact Cl (dJ hg A.1).2.1
theorem tn (hg:bD t=true) (ho:cC t os):∀m∈dY t os,bC m=true:=fun m hm=>by
 rw[pN (mS ho)]at hm;obtain⟨i,hi,rfl⟩:=List.mem_map.1 hm;exact C7 hg ho (List.mem_range.1 hi)
def LR (t:List aw) (os:List (List UInt8)) (k:Nat):St:=(List.range k).map fun i=>(os.getD i [],aM t os i)
theorem wP (hn:os.Nodup) (hk:k≤os.length):iU (LR t os k):=by
 unfold iU LR;rw[List.map_map];unfold List.Nodup;rw[List.pairwise_iff_getElem];intro i j hi A B;rw[Qi,List.length_range]at hi A;rw[List.getElem_map,List.getElem_map,List.getElem_range,List.getElem_range];have:=(List.pairwise_iff_getElem.1 hn) i j (by omega) (by omega) B;show os.getD i []≠os.getD j [];rw[List.getD,List.getD,Qd (by omega),Qd (by omega)];exact this
theorem Fo (hn:os.Nodup) (hk:k<os.length):jm (LR t os k) (os.getD k []) (aM t os k)=LR t os (k+1):=by
 unfold jm LR;rw[List.range_succ,List.map_append]
 congr 1
 refine List.filter_eq_self.2 fun e he=>?_
 obtain⟨i,hi,rfl⟩:=List.mem_map.1 he;rw[List.mem_range]at hi;have:=(List.pairwise_iff_getElem.1 hn) i k (by omega) (by omega) hi
 have A:os.getD i []≠os.getD k []:=by
  rw[List.getD,List.getD,Qd (by omega),Qd (by omega)];exact this
 simpa using A
theorem tq (hg:bD t=true) (ho:cC t os):∀k,k≤os.length→eF (dY t os) k=.ok (LR t os k)
 |0,_=>rfl
 |k+1,hk=>by
  have D:=ma hg ho;have A:k<os.length:=by omega
  have E:=gz ho A;refine tf (tq hg ho k (by omega)) ?_;unfold jS
  dsimp only
  rw[jf ho A]
  by_cases B:aM t os k=k
  ·have hm:cW t os k=(nodeAt t (os.getD k [])).mem:=by unfold cW;rw[if_pos B]
   rw[hm,if_neg (show ¬(nodeAt t (os.getD k [])).mem.kind=49 from(dJ hg E.1).1)];have:=Fo (t:=t) D A;rw[B]at this;show some (jm _ (nodeAt t (os.getD k [])).path k)=_;rw[E.2,this]
  ·have G:aM t os k<k:=by have:=DE (t:=t) (os:=os) k;omega
   have hm:cW t os k=qv (nodeAt t (os.getD k [])) (os.getD (aM t os k) []):=by unfold cW;rw[if_neg B]
   have I:(nodeAt t (os.getD k [])).kind=48:=by
    by_cases h:(nodeAt t (os.getD k [])).kind=48
    ·exact h
    ·exact absurd (eL h) B
   rw[hm,if_pos (show(qv (nodeAt t (os.getD k [])) (os.getD (aM t os k) [])).kind=49 from rfl)]
   have hl:Tre.look (LR t os k) (qv (nodeAt t (os.getD k [])) (os.getD (aM t os k) [])).target=some (aM t os k):=by
    have J:(os.getD (aM t os k) [],aM t os (aM t os k))∈LR t os k:=List.mem_map.2 ⟨aM t os k,List.mem_range.2 G,rfl⟩;have:=zR (wP D (by omega)) J;rw[rQ]at this;exact this
   rw[hl]
   dsimp only
   have H:((dY t os).getD (aM t os k) cH).kind=48:=by
    rw[jf ho (by omega)];have:cW t os (aM t os k)=(nodeAt t (os.getD (aM t os k) [])).mem:=by unfold cW;rw[if_pos (rQ k)]
    rw[this];exact(o7 k).trans I
   rw[if_pos H];show some (jm _ (nodeAt t (os.getD k [])).path (aM t os k))=_;rw[E.2,Fo D A]
theorem zS {a b:List (List UInt8)} (ha:a.Pairwise fun x y=>dI x y=true) (hb:b.Pairwise fun x y=>dI x y=true) (h:a.Perm b):a=b:=
 List.Perm.eq_of_pairwise (fun x y _ _ (h1:dI x y=true) (h2:dI y x=true)=>by rw[kf h1]at h2;cases h2) ha hb h
theorem C0 (hg:bD t=true) (ho:cC t os):gQ (dY t os)=(t,0,0):=by
 have hn:=ma hg ho;have hS:=tq hg ho os.length (Qk _);have hA:=wP (t:=t) hn (Qk _);have e:=zl (si (tn hg ho)) (by rw[nL ho];exact hS);rw[e]
 congr 1
 obtain⟨T,U⟩:∃T,k8 (LR t os os.length)=T:=⟨_,rfl⟩
 have R:T.Perm (LR t os os.length):=by rw[←U];exact nP _
 have l:Eg T:=by rw[←U];exact tV hA
 have u:∀a∈T,∃i,i<os.length∧a=(os.getD i [],aM t os i):=fun a D=>by
  obtain⟨i,hi,rfl⟩:=List.mem_map.1 (R.mem_iff.1 D);exact⟨i,List.mem_range.1 hi,rfl⟩
 have TZ:T.map (·.1)=t.map (·.path):=by
  refine zS (List.pairwise_map.2 l) (List.pairwise_map.2 (cE hg)) ?_;refine(R.map _).trans (List.Perm.trans (List.Perm.of_eq ?_) ho);unfold LR;rw[List.map_map];apply List.ext_getElem
  ·simp
  ·intro i h1 L
   simp only[List.getElem_map,List.getElem_range,Function.comp];rw[List.getD,Qd L];rfl
 have Ug:∀a∈T,qG (dY t os) T a=nodeAt t a.1:=fun a D=>by
  obtain⟨i,hi,rfl⟩:=u a D;have H:aM t os i<os.length:=Nat.lt_of_le_of_lt (DE i) hi;have B:=gz ho hi;have hr:=gz ho H
  have hm:(dY t os).getD (aM t os i) cH=(nodeAt t (os.getD (aM t os i) [])).mem:=by
   rw[jf ho H];unfold cW;rw[if_pos (rQ i)]
  unfold qG;rw[show((os.getD i [],aM t os i):List UInt8 × Nat).2=aM t os i from rfl,hm,show((os.getD i [],aM t os i):List UInt8 × Nat).1=os.getD i []from rfl]
  by_cases A:(nodeAt t (os.getD i [])).kind=48
  ·have O:(nodeAt t (os.getD (aM t os i) [])).kind=48:=(o7 i).trans A
   have d:=fc (t:=t) (os:=os) A;have Xz:=B2 hg B.1 hr.1 A O d.2.1.2.2;rw[if_pos (show(nodeAt t (os.getD (aM t os i) [])).mem.kind=48 from O)]
   have T5:ni T (aM t os i)=(nodeAt t (os.getD i [])).af:=by
    obtain⟨y,hy,X,y2,y3,_,_,_⟩:=gq hg B.1 A;have W:y.path∈os:=ho.mem_iff.2 (List.mem_map_of_mem hy);obtain⟨a,Z,D⟩:=List.mem_iff_getElem.1 W;have p:os.getD a []=y.path:=by rw[List.getD,Qd Z,Option.getD_some,D]
    have E:nodeAt t (os.getD a [])=y:=by rw[p];exact jB hg hy
    have Yi:yL t os i a:=⟨by rw[E];exact y2,A,by rw[E,y3,X]⟩
    have VI:aM t os i=aM t os a:=tP Yi;have Nt:(y.path,aM t os i)∈T:=R.mem_iff.2 (List.mem_map.2 ⟨a,List.mem_range.2 Z,by rw[p,VI]⟩);obtain⟨f,hf,o⟩:=List.mem_iff_getElem.1 Nt;have q:T.getD f ([],0)=(y.path,aM t os i):=by rw[List.getD,Qd hf,Option.getD_some,o]
    have:=CT hf (fun j hj L=>by
     have Y:j<T.length:=by omega
     have V:T.getD j ([],0)=T[j]:=by rw[List.getD,Qd Y];rfl
     rw[q,V]at L;obtain⟨b,hb,m⟩:=u T[j] (List.getElem_mem Y)
     have G:aM t os b=aM t os i:=by
      have:=congrArg Prod.snd m;rw[L]at this;exact this.symm
     have N:=gz ho hb
     have g:(nodeAt t (os.getD b [])).kind=48:=by
      rw[←o7 (t:=t) (os:=os) b,G];exact O
     have iE:(nodeAt t (os.getD b [])).af=(nodeAt t (os.getD i [])).af:=by
      rw[←(fc (t:=t) (os:=os) g).2.1.2.2,G];exact d.2.1.2.2
     obtain⟨z,hz,z1,_,_,_,_,z6⟩:=gq hg N.1 g;have I:z.path=y.path:=by rw[z1,iE,X]
     have r:=(List.pairwise_iff_getElem.1 l) j f Y hf hj;rw[o,m]at r;have M:dI (os.getD b []) y.path=true:=r;rcases z6 with z6|z6
     ·rw[←N.2,←z6,I,fk]at M
      cases M
     ·rw[I,N.2,kf M]at z6
      cases z6)
    rw[q]at this;exact this.trans X
   rw[T5];have J:=B.2
   conv=>rhs;rw[Xz,J]
  ·rw[if_neg (show ¬(nodeAt t (os.getD (aM t os i) [])).mem.kind=48 from fun h=>A ((o7 i).symm.trans h)),eL A]
   have c:=(dJ hg B.1).2.2 A;have J:=B.2;obtain⟨x,Uu⟩:∃x,nodeAt t (os.getD i [])=x:=⟨_,rfl⟩
   rw[Uu]at J c⊢;rw[←J];exact NY rfl c.symm
 unfold mA;rw[U,List.map_congr_left Ug];have:T.map (fun a=>nodeAt t a.1)=(T.map (·.1)).map (nodeAt t):=by rw[List.map_map];rfl
 rw[this,TZ,List.map_map]
 conv=>rhs;rw[←List.map_id t]
 exact List.map_congr_left fun x B=>jB hg B
end
section
variable {t:List aw} {os:List (List UInt8)}
end
theorem nk:∀(a b:List (List UInt8)),a.Nodup→(∀x∈a,x∈b)→b.length≤a.length→a.Perm b
 |[],b,_,_,hl=>by
  have:b=[]:=List.eq_nil_of_length_eq_zero (Nat.le_zero.1 hl);rw[this]
 |x::a,b,hn,hs,hl=>by
  rw[List.nodup_cons]at hn;have D:x∈b:=hs x (List.mem_cons_self ..);have A:=List.perm_cons_erase D
  have hlen:(b.erase x).length≤a.length:=by
   have:=A.length_eq;simp only[List.length_cons]at this hl;omega
  refine List.Perm.trans (List.Perm.cons x (nk a (b.erase x) hn.2 (fun y hy=>?_) hlen)) A.symm;have B:y≠x:=fun e=>hn.1 (by rw[←e];exact hy)
  exact(List.mem_erase_of_ne B).2 (hs y (List.mem_cons_of_mem _ hy))
theorem mR {t:List aw} (hg:bD t=true) (os:List (List UInt8)):cC t os↔os.length=t.length∧(∀p∈os,(dE t p).isSome=true)∧os.Nodup:=by
 constructor
 ·intro h
  refine⟨by have:=h.length_eq;rwa [Qi]at this,fun p A=>?_,ma hg h⟩;obtain⟨x,B,rfl⟩:=List.mem_map.1 (h.mem_iff.1 A);unfold dE;rw[List.find?_isSome];exact⟨x,B,by simp⟩
 ·rintro⟨h1,h2,h3⟩
  refine nk os _ h3 (fun p A=>?_) (by rw[Qi];omega);have:=h2 p A;unfold dE at this;rw[List.find?_isSome]at this;obtain⟨x,B,he⟩:=this;exact List.mem_map.2 ⟨x,B,by simpa using he⟩
end oa
namespace D3
open Go.Lib Tre oa Rec Attr
variable {m:av}
def dK (t:List aw):List (List UInt8):=t.map (·.path)
def eY (t:List aw):List av:=dY t (dK t)
def jD (t:List aw):List UInt8:=vm (eY t)
def jJ (bs:List UInt8):List aw × Int × Nat:=
 if(cK bs).2.1=0 then gQ (cK bs).1 else([],(cK bs).2.1,(cK bs).2.2)
def kU (ms:List av):Bool:=(List.range ms.length).all fun i=>decide (i=0)||dI (ms.getD (i - 1) cH).path (ms.getD i cH).path
def qP (ms:List av) (k:Nat):Bool:=(List.range k).all fun i=>decide (i=0)||dI (ms.getD (i - 1) cH).path (ms.getD i cH).path
theorem Iq (ms:List av):qP ms 1=true:=rfl
theorem DG (ms:List av) (k:Nat) (hk:k≠0):qP ms (k+1)=(qP ms k&&dI (ms.getD (k - 1) cH).path (ms.getD k cH).path):=by
 unfold qP;rw[List.range_succ,List.all_append,List.all_cons,List.all_nil,Bool.and_true,decide_eq_false hk,Bool.false_or]
theorem Ip (ms:List av):qP ms ms.length=kU ms:=rfl
theorem LD {ms:List av} (h:kU ms=true) (k:Nat) (hk:k≤ms.length):qP ms k=true:=by
 unfold kU at h;unfold qP;rw[List.all_eq_true]at h⊢;intro i hi;exact h i (List.mem_range.2 (by have:=List.mem_range.1 hi;omega))
section
variable {t:List aw}
theorem fx (t:List aw):cC t (dK t):=List.Perm.refl _
theorem jj (t:List aw):(dK t).length=t.length:=by unfold dK;rw[Qi]
theorem tH (hi:i<t.length):(dK t).getD i []=t[i].path:=by
 unfold dK;rw[List.getD,List.getElem?_map,Qd hi];rfl
theorem wM (hg:bD t=true) {j:Nat} (hi:i<t.length) (hj:j<t.length) (h:t[i].path=t[j].path):i=j:=by
 have A:=List.pairwise_iff_getElem.1 (cE hg);rcases Nat.lt_trichotomy i j with h1|h1|h1
 ·exact absurd h (nM (A i j hi hj h1))
 ·exact h1
 ·exact absurd h.symm (nM (A j i hj hi h1))
theorem lW (hg:bD t=true) (hi:i<t.length):nodeAt t ((dK t).getD i [])=t[i]:=by
 have h:=gz (fx t) (i:=i) (by rw[jj];exact hi);obtain⟨j,B,e⟩:=List.mem_iff_getElem.1 h.1;have A:=h.2;rw[←e,tH hi]at A;rw[←e];have:=wM hg B hi A;subst this;rfl
theorem iI (t:List aw):(eY t).length=t.length:=by unfold eY;rw[nL (fx t),jj]
theorem yc (hi:i<t.length):(eY t).getD i cH=cW t (dK t) i:=jf (fx t) (by rw[jj];exact hi)
theorem jU (hg:bD t=true):∀m∈eY t,bC m=true:=tn hg (fx t)
theorem kO (hg:bD t=true):(eY t).length≤4096:=by
 rw[iI];unfold bD at hg;simp only[Bool.and_eq_true,decide_eq_true_eq]at hg;exact hg.1
theorem AO (hg:bD t=true):jJ (jD t)=(t,0,0):=by
 have h:=Ih (fun m hm=>eE (jU hg m hm)) (kO hg) 0;rw[List.replicate_zero,List.append_nil]at h;unfold jJ jD;rw[h,if_pos rfl];exact C0 hg (fx t)
theorem J8 (hg:bD t=true):t.length≤4096:=by
 have:=kO hg
 rwa [iI]at this
theorem LA (hg:bD t=true) (hi:i<t.length) (hk:t[i].kind=48) (hl:t[i].af=t[i].path):aM t (dK t) i=i:=by
 have G:=lW hg hi;obtain⟨I,H,L⟩:=fc (t:=t) (os:=dK t) (i:=i) (by rw[G];exact hk);have A:aM t (dK t) i<t.length:=by omega
 have D:=lW hg A;have hs:=H.2.2;have E:=H.1;rw[G,D,hl]at hs;rw[D]at E;obtain⟨z,J,B,_,_,_,_,z6⟩:=gq hg (List.getElem_mem A) E;rw[hs]at B;rcases z6 with rfl|z6
 ·exact wM hg A hi B
 ·exfalso
  rw[B]at z6;rcases Nat.lt_or_eq_of_le I with h1|h1
  ·have:=List.pairwise_iff_getElem.1 (cE hg) _ i A hi h1
   rw[kf this]at z6
   cases z6
  ·simp only[h1]at z6
   rw[fk]at z6
   cases z6
theorem Og (hg:bD t=true) (hi:i<t.length) (hk:t[i].kind=48) (hl:t[i].af≠t[i].path):aM t (dK t) i<i:=by
 have A:=lW hg hi;obtain⟨I,J,G⟩:=fc (t:=t) (os:=dK t) (i:=i) (by rw[A];exact hk);obtain⟨z,E,H,z2,z3,_,_,z6⟩:=gq hg (List.getElem_mem hi) hk;rcases z6 with rfl|z6
 ·exact absurd z3 hl
 ·obtain⟨j,D,rfl⟩:=List.mem_iff_getElem.1 E
  have L:j<i:=by
   rcases Nat.lt_trichotomy j i with h|h|h
   ·exact h
   ·subst h;rw[fk]at z6;cases z6
   ·have:=List.pairwise_iff_getElem.1 (cE hg) i j hi D h
    rw[kf this]at z6;cases z6
  rcases Nat.lt_or_ge (aM t (dK t) i) i with h|h
  ·exact h
  ·exfalso
   have B:=lW hg D;exact G j (by omega) ⟨by rw[B];exact z2,by rw[A];exact hk,by rw[A,B,z3];exact H⟩
def k5 (x:aw):Nat:=if x.kind=48∧x.af=x.path then aR x.body.length else 0
theorem Hn (hg:bD t=true) (hi:i<t.length):aR (cW t (dK t) i).body.length=k5 t[i]:=by
 have A:=lW hg hi;have B:=dJ hg (List.getElem_mem hi);unfold k5
 by_cases hk:t[i].kind=48
 ·by_cases hl:t[i].af=t[i].path
  ·rw[if_pos ⟨hk,hl⟩]
   unfold cW;rw[if_pos (LA hg hi hk hl),A];rfl
  ·rw[if_neg (fun h=>hl h.2)]
   unfold cW;rw[if_neg (Nat.ne_of_lt (Og hg hi hk hl))];show aR 0=0;decide
 ·rw[if_neg (fun h=>hk h.1)]
  unfold cW;rw[if_pos (eL (by rw[A];exact hk)),A];have:t[i].mem.body=[]:=(eE B.2.1).file hk;rw[this];rfl
theorem Il (h:dh m):∀r∈aO m,r.1.length+r.2.length≤230:=by
 intro r hr;have hu:=h.uid;have A:=h.gid;have B:=h.time;have D:=h.wC;have E:=h.AK;simp only[aO,List.mem_append]at hr
 have d:∀(c:Prop) [Decidable c] (k v:List UInt8),r∈(if c then[(k,v)]else[])→r=(k,v):=fun c _ k v hr=>by
  split at hr
  ·exact List.mem_singleton.1 hr
  ·cases hr
 have hk:∀i,i<6→(aI i).length≤8:=fun i hi=>by
  obtain rfl|rfl|rfl|rfl|rfl|rfl:i=0∨i=1∨i=2∨i=3∨i=4∨i=5:=by omega
  all_goals decide
 rcases hr with(((hr|hr)|hr)|hr)|hr<;>(have e:=d _ _ _ hr;subst e)
 ·have:=hk 4 (by omega);show(aI 4).length+m.path.length≤230;omega
 ·have:=hk 5 (by omega);show(aI 5).length+m.target.length≤230;omega
 ·have h1:=hk 0 (by omega);have:=mI hu.1 (by omega);show(aI 0).length+(aJ _).length≤230;omega
 ·have h1:=hk 1 (by omega);have:=mI A.1 (by omega);show(aI 1).length+(aJ _).length≤230;omega
 ·have h1:=hk 2 (by omega);have:=mI B.1 (by omega);show(aI 2).length+(aJ _).length≤230;omega
theorem Hf (h:dh m):(aN (aO m)).length≤1536:=by
 have h1:=gE h
 have B:(aO m).length≤5:=by
  have d:∀(c:Prop) [Decidable c] (k v:List UInt8),(if c then[(k,v)]else[]).length≤1:=fun c _ k v=>by split<;>simp
  unfold aO;simp only[Qf];have D:=d (iv m=true) (aI 4) m.path;have a2:=d (fY m=true) (aI 5) m.target;have a3:=d (2097151<m.uid) (aI 0) (aJ m.uid.toNat);have a4:=d (2097151<m.gid) (aI 1) (aJ m.gid.toNat);have a5:=d (8589934591<m.time) (aI 2) (aJ m.time.toNat);omega
 have E:=tk (n:=230) (l:=aO m) (fun r A=>⟨h1 r A,Il h r A⟩);have G:(aO m).length*(230+10)≤5*240:=Nat.mul_le_mul B (Qk _);omega
theorem Ao (h:dh m):512+aR m.body.length≤(fU m).length∧(fU m).length≤512+aR m.body.length+2048∧(fU m).length % 512=0:=by
 have hl:=Hf h;have D:aR (aN (aO m)).length≤1536:=by unfold aR;omega
 have hm:=Lr h;refine⟨hm.2,?_,hm.1⟩;obtain⟨H,_,A,_,(⟨_,e⟩|⟨X,_,B,_,e⟩)⟩:=kj h
 ·rw[e,Qf,bB,A];omega
 ·rw[e,Qf,Qf,Qf,bB,bB,A,B];omega
theorem np:∀(ms:List av),(∀m∈ms,dh m)→512*ms.length+(ms.map fun m=>aR m.body.length).sum≤(cw ms).length∧(cw ms).length≤512*ms.length+(ms.map fun m=>aR m.body.length).sum+2048*ms.length∧(cw ms).length % 512=0
 |[],_=>by simp[cw]
 |m::ms,h=>by
  obtain⟨B,a2,a3⟩:=np ms fun x A=>h x (List.mem_cons_of_mem _ A)
  obtain⟨D,E,G⟩:=Ao (h m (List.mem_cons_self ..));rw[fN,Qf,List.length_cons,List.map_cons,List.sum_cons];omega
theorem Lk (hg:bD t=true):((eY t).map fun m=>aR m.body.length)=t.map k5:=by
 apply List.ext_getElem
 ·rw[Qi,Qi,iI]
 ·intro i h1 A
  rw[Qi]at h1 A;rw[List.getElem_map,List.getElem_map];have:=Hn hg A;rw[←yc A,List.getD,Qd h1]at this;exact this
theorem Ae (hg:bD t=true):(jD t).length % 512=0∧1024+(512*t.length+(t.map k5).sum)≤(jD t).length∧(jD t).length≤1024+(512*t.length+(t.map k5).sum)+2048*t.length:=by
 obtain⟨A,a2,a3⟩:=np (eY t) fun m hm=>eE (jU hg m hm)
 rw[Lk hg,iI]at A a2;unfold jD;rw[lF,Qf,List.length_replicate];omega
end
end D3
namespace oa
open Go.ChangeShapes Go.WideShapes Go.ChangeAt Go.RowKit Base bJ cn Bk Rec Block Tre Go.Lib
def Dj (t:List aw) (os:List (List UInt8)):Bool:=decide (os.length=t.length)&&(os.all (fun p=>(dE t p).isSome)&&decide os.Nodup)
theorem tD {t:List aw} (hg:bD t=true) (os:List (List UInt8)):Dj t os=true↔cC t os:=by
 rw[mR hg];simp only[Dj,Bool.and_eq_true,decide_eq_true_eq,List.all_eq_true]
def Rh (t:List aw) (os:List (List UInt8)):List av × Int:=if Dj t os=true then(dY t os,0)else([],1)
def nZ (w:World) (r:List av × Int) (e:Ending) (w':World):Prop:=
 ∃q d ys,e=.returned (.tuple #[.slice q r.1.length d,.int .i64 r.2])∧ys.map MP.m=r.1∧dr w' q r.1.length ys∧r.1.length≤d∧d≤maxLen∧Below w.heap.size w w'
def P2 (w:World) (q:Option Addr) (n:Nat) (cc:List (List (List UInt8))):Prop:=
 cc.length=n∧∃ps:List (Option Addr × Nat),ps.length=n∧(∀i,i<n→lC w (ps.getD i (none,0)).1 (cc.getD i []).length (cc.getD i []))∧
  (0<n→∃b o,q=some ⟨b,o,none⟩∧b<w.heap.size∧∀i,i<n→w.cell? ⟨b,o+i,none⟩=some (.slice (ps.getD i (none,0)).1 (cc.getD i []).length (ps.getD i (none,0)).2))
theorem P2.below {q:Option Addr} {cc:List (List (List UInt8))} (h:P2 w q n cc) (hb:Below w.heap.size w w'):P2 w' q n cc:=by
 obtain⟨h1,ps,D,E,G⟩:=h;refine⟨h1,ps,D,fun i hi=>(E i hi).below hb,fun B=>?_⟩;obtain⟨b,o,rfl,A,hc⟩:=G B;refine⟨b,o,rfl,Nat.lt_of_lt_of_le A hb.size,fun i hi=>?_⟩;rw[hb.cell (p:=⟨b,o+i,none⟩) A];exact hc i hi
structure ob (w:World) (p:Option Addr) (n c:Nat) (xs:List NP):Prop where
 at_:aY w p n xs
 nc:n≤c
 cm:c≤maxLen
 few:n≤100000
 room:∀x∈xs,x.m.path.length≤140737488351232∧x.m.target.length≤140737488351232∧x.m.af.length≤140737488351232∧x.m.body.length≤140737488351232
 Qt:bD (xs.map NP.m)=true
theorem ob.below {c:Nat} {xs:List NP} (h:ob w p n c xs) (hb:Below w.heap.size w w'):ob w' p n c xs:=⟨h.at_.below hb,h.nc,h.cm,h.few,h.room,h.Qt⟩
structure Ef (w:World) (p:Option Addr) (n c:Nat) (os:List (List UInt8)):Prop where
 at_:lC w p n os
 nc:n≤c
 cm:c≤maxLen
 few:n≤100000
 room:∀s∈os,s.length≤140737488351232
structure vg (w:World) (p:Option Addr) (n c:Nat) (xs:List MP):Prop where
 at_:dr w p n xs
 nc:n≤c
 cm:c≤maxLen
 few:n≤100000
 room:∀x∈xs,x.m.path.length≤140737488351232∧x.m.target.length≤140737488351232∧x.m.body.length≤140737488351232
end oa
namespace D3
open Go.ChangeShapes Go.WideShapes Go.ChangeAt Go.RowKit Base bJ cn Bk Rec Tre oa Go.Lib
structure sb (w:World) (p:Option Addr) (n c:Nat) (xs:List NP):Prop where
 at_:aY w p n xs
 nc:n≤c
 cm:c≤maxLen
 room:∀x∈xs,x.m.path.length≤140737488351232∧x.m.target.length≤140737488351232∧x.m.af.length≤140737488351232∧x.m.body.length≤140737488351232
theorem sb.below {c:Nat} {xs:List NP} (h:sb w p n c xs) (hb:Below w.heap.size w w'):sb w' p n c xs:=⟨h.at_.below hb,h.nc,h.cm,h.room⟩
def lz (w:World) (t:List aw) (e:Ending) (w':World):Prop:=
 (bD t=true∧∃p c,e=.returned (.tuple #[.slice p (jD t).length c,.int .i64 0])∧(jD t).length≤c∧c≤maxLen∧cB w' p (jD t).length (jD t)∧Below w.heap.size w w')∨
 (bD t=false∧∃p c,e=.returned (.tuple #[.slice p 0 c,.int .i64 1])∧Below w.heap.size w w')
def xh (w:World) (bs:List UInt8) (e:Ending) (w':World):Prop:=
 ∃q d zs,e=.returned (.tuple #[.slice q zs.length d,.agg #[.int .i64 (jJ bs).2.1,.int .i64 ((jJ bs).2.2:Nat)]])∧zs.map NP.m=(jJ bs).1∧aY w' q zs.length zs∧zs.length≤d∧d≤maxLen∧Below w.heap.size w w'
structure EmitC:Prop where
 pack:∀(w:World) (p:Option Addr) (n c:Nat) (xs:List NP),sb w p n c xs→Need w→Calls Tryz.prog 10 #[.slice p n c] w (lz w (xs.map NP.m))
 unpack:∀(w:World) (p:Option Addr) (n c:Nat) (bs:List UInt8) (q:Option Addr) (m d:Nat) (zs:List Int),cB w p n bs→bs.length=n→n≤140737488351232→Fx w q m zs→zs.length=m→m*8≤140737488351232→Need w→Calls Tryz.prog 13 #[.slice p n c,.slice q m d] w (xh w bs)
 sorted:∀(w:World) (p:Option Addr) (n c:Nat) (xs:List MP),vg w p n c xs→Need w→Calls Tryz.prog 19 #[.slice p n c] w fun e w'=>e=.returned (.bool (kU (xs.map MP.m)))∧Below w.heap.size w w'
theorem KL (w:World):Fx w none 0 []:=fun h=>by omega
end D3
namespace oa
open Tre
variable {f:Nat}
def kZ (xs:List NP) (p:List UInt8):Option NP:=xs.find? fun y=>decide (y.m.path=p)
def iu (xs:List NP) (os:List (List UInt8)) (k:Nat) (p:List UInt8):Option NP:=if p∈os.take k then none else kZ xs p
section
variable {xs:List NP} {os:List (List UInt8)} {k:Nat}
theorem pE (p:List UInt8):(kZ xs p).map NP.m=dE (xs.map NP.m) p:=by
 unfold kZ dE;rw[List.find?_map]
 congr 2
 funext y
 show decide (y.m.path=p)=(y.m.path==p)
 by_cases h:y.m.path=p<;>simp[h]
theorem rF (hk:k<xs.length):xs.getD k aG=xs[k]:=by rw[List.getD,Qd hk];rfl
theorem Cc (hr:eS (xs.map NP.m)) (hk:k<xs.length):kZ (xs.take (k+1))=fun p=>if p=(xs.getD k aG).m.path then some (xs.getD k aG)else kZ (xs.take k) p:=by
 funext p
 unfold kZ;rw[List.take_succ_eq_append_getElem hk,List.find?_append,←rF hk,List.find?_cons]
 by_cases A:p=(xs.getD k aG).m.path
 ·rw[if_pos A,A,decide_eq_true rfl]
  have:(xs.take k).find? (fun y=>decide (y.m.path=(xs.getD k aG).m.path))=none:=by
   rw[List.find?_eq_none];intro x D;obtain⟨i,hi,rfl⟩:=List.mem_take_iff_getElem.1 D;have:=(List.pairwise_iff_getElem.1 hr) i k (by rw[Qi];omega) (by rw[Qi];exact hk) (by omega);rw[List.getElem_map,List.getElem_map]at this;have B:=nM this;rw[rF hk]
   simpa using B
  rw[this];rfl
 ·rw[if_neg A,decide_eq_false (fun e=>A e.symm)]
  simp
theorem CY:iu xs os 0=kZ xs:=by
 funext p
 unfold iu;rw[List.take_zero,if_neg (List.not_mem_nil)]
theorem CX (hk:k<os.length):iu xs os (k+1)=fun p=>if p=os.getD k []then none else iu xs os k p:=by
 funext p
 unfold iu;rw[List.take_succ_eq_append_getElem hk,List.getD,Qd hk,Option.getD_some]
 by_cases B:p=os[k]
 ·rw[if_pos B,if_pos (by rw[B];exact List.mem_append.2 (.inr (List.mem_singleton.2 rfl)))]
 ·rw[if_neg B]
  by_cases A:p∈os.take k
  ·rw[if_pos A,if_pos (by rw[List.mem_append];exact .inl A)]
  ·rw[if_neg A,if_neg (by rw[List.mem_append,List.mem_singleton];exact fun h=>h.elim A B)]
def FA (xs:List NP) (os:List (List UInt8)) (k:Nat) (zs:List NP):Prop:=∀i,i<k→iu xs os i (os.getD i [])=some (zs.getD i aG)
theorem pZ {zs:List NP} (h:FA xs os k zs) (hi:i<k):kZ xs (os.getD i [])=some (zs.getD i aG):=by
 have:=h i hi;unfold iu at this;split at this
 ·cases this
 ·exact this
theorem DV {zs:List NP} (hg:bD (xs.map NP.m)=true) (hl:os.length=xs.length) (h:FA xs os os.length zs):cC (xs.map NP.m) os:=by
 rw[mR hg];refine⟨by rw[Qi];exact hl,fun p B=>?_,?_⟩
 ·obtain⟨i,hi,rfl⟩:=List.mem_iff_getElem.1 B
  have:=pZ h hi;rw[List.getD,Qd hi,Option.getD_some]at this;rw[←pE,this];rfl
 ·rw[List.nodup_iff_pairwise_ne,List.pairwise_iff_getElem]
  intro i j hi A D e;have:=h j A;unfold iu at this;rw[List.getD,Qd A,Option.getD_some,if_pos]at this
  ·cases this
  ·rw[←e]
   exact List.mem_take_iff_getElem.2 ⟨i,by omega,rfl⟩
theorem Hu (hg:bD (xs.map NP.m)=true) (hk:k<os.length) (h:iu xs os k (os.getD k [])=none):¬cC (xs.map NP.m) os:=fun E=>by
 obtain⟨_,B,D⟩:=(mR hg os).1 E;have A:os.getD k []=os[k]:=by rw[List.getD,Qd hk];rfl
 unfold iu at h;split at h
 ·next hm=>
  rw[A]at hm;obtain⟨i,hi,e⟩:=List.mem_take_iff_getElem.1 hm;exact(List.pairwise_iff_getElem.1 D) i k (by omega) hk (by omega) e
 ·have:=B (os.getD k []) (by rw[A];exact List.getElem_mem hk)
  rw[←pE,h]at this
  cases this
end
def cu (t:List aw) (os:List (List UInt8)) (k:Nat) (l:List UInt8):Option Nat:=
 (List.range k).find? fun j=>decide ((nodeAt t (os.getD j [])).kind=48)&&decide ((nodeAt t (os.getD j [])).af=l)
section
variable {t:List aw} {os:List (List UInt8)} {k:Nat}
theorem jx:cu t os (k+1)=fun l=>(cu t os k l).or (if(nodeAt t (os.getD k [])).kind=48∧(nodeAt t (os.getD k [])).af=l then some k else none):=by
 funext l
 unfold cu;rw[List.range_succ,List.find?_append,List.find?_cons]
 by_cases h:(nodeAt t (os.getD k [])).kind=48∧(nodeAt t (os.getD k [])).af=l
 ·rw[if_pos h,decide_eq_true h.1,decide_eq_true h.2];rfl
 ·rw[if_neg h]
  have:(decide ((nodeAt t (os.getD k [])).kind=48)&&decide ((nodeAt t (os.getD k [])).af=l))=false:=by
   simpa using fun h1 A=>h ⟨h1,A⟩
  rw[this];rfl
theorem zj (h:(nodeAt t (os.getD k [])).kind≠48):cu t os (k+1)=cu t os k:=by
 rw[jx]
 funext l
 rw[if_neg (fun A=>h A.1),Option.or_none]
theorem Gy (h:(nodeAt t (os.getD k [])).kind=48) (hn:cu t os k (nodeAt t (os.getD k [])).af=none):cu t os (k+1)=fun l=>if l=(nodeAt t (os.getD k [])).af then some k else cu t os k l:=by
 rw[jx]
 funext l
 by_cases hl:l=(nodeAt t (os.getD k [])).af
 ·rw[if_pos hl,hl,hn,if_pos ⟨h,rfl⟩];rfl
 ·rw[if_neg hl,if_neg (fun A=>hl A.2.symm),Option.or_none]
theorem Gz (hf:cu t os k (nodeAt t (os.getD k [])).af=some f):cu t os (k+1)=cu t os k:=by
 rw[jx]
 funext l
 by_cases hl:(nodeAt t (os.getD k [])).af=l
 ·rw[←hl,hf];rfl
 ·rw[if_neg (fun A=>hl A.2),Option.or_none]
theorem zi {l:List UInt8} (hf:cu t os k l=some f):f<k:=by
 unfold cu at hf;exact List.mem_range.1 (List.mem_of_find?_eq_some hf)
theorem wG (h:(nodeAt t (os.getD k [])).kind=48):aM t os k=(cu t os k (nodeAt t (os.getD k [])).af).getD k:=by
 have e:aM t os k=(cu t os (k+1) (nodeAt t (os.getD k [])).af).getD k:=by
  unfold aM cu;rw[if_pos h]
 rw[e,jx]
 dsimp only
 cases cu t os k (nodeAt t (os.getD k [])).af with
 |some f=>rfl
 |none=>rw[if_pos ⟨h,rfl⟩];rfl
theorem Ho (h:(nodeAt t (os.getD k [])).kind≠48):cW t os k=(nodeAt t (os.getD k [])).mem:=by
 unfold cW;rw[if_pos (eL h)]
theorem NU (h:(nodeAt t (os.getD k [])).kind=48) (hn:cu t os k (nodeAt t (os.getD k [])).af=none):cW t os k=(nodeAt t (os.getD k [])).mem:=by
 unfold cW;rw[if_pos (by rw[wG h,hn];rfl)]
theorem NV (h:(nodeAt t (os.getD k [])).kind=48) (hf:cu t os k (nodeAt t (os.getD k [])).af=some f):cW t os k=qv (nodeAt t (os.getD k [])) (os.getD f []):=by
 unfold cW;have:=zi hf;rw[wG h,hf,Option.getD_some,if_neg (by omega)]
theorem BT {x:aw} (h:bC x.mem=true) (hk:x.kind≠48):x.body=[]:=by
 unfold bC at h;simp only[Bool.and_eq_true,Bool.or_eq_true,beq_iff_eq]at h;rcases h.1.2 with h1|h1
 ·exact absurd h1 hk
 ·exact h1
end
end oa
namespace oa
open Go.ChangeShapes Go.WideShapes Go.ChangeAt Go.RowKit Base bJ cn Bk Mk Tre Go.Lib
variable {os:List (List UInt8)} {xs zs:List NP}
def ji (f:List UInt8→Option NP):List UInt8→Option Value:=fun x=>(f x).map fun y=>.agg y.cs
theorem Ld (w:World):(zeroValue 52).run Tryz.prog w=.ok (.agg #[.string ⟨#[]⟩,.string ⟨#[]⟩,.string ⟨#[]⟩,.int .u8 0,.int .i64 0,.int .i64 0,.int .i64 0,.int .i64 0,.slice none 0 0]) w:=Tryz.zeroValue52 w
def Ec (w:World) (xs:List NP) (os:List (List UInt8)) (n:Nat) (e:Ending) (w':World):Prop:=
 (∃q zs,e=.returned (.tuple #[.slice q n n,.bool true])∧FA xs os n zs∧zs.length=n∧os.length=n∧aY w' q n zs∧cC (xs.map NP.m) os∧Below w.heap.size w w')∨
 (e=.returned (.tuple #[.slice none 0 0,.bool false])∧¬cC (xs.map NP.m) os∧Below w.heap.size w w')
structure WB (w wr:World) (M:Nat) (xs:List NP) (k:Nat):Prop where
 bel:Below w.heap.size w wr
 map:cF ik wr M (ji (kZ (xs.take k)))
 new:w.heap.size≤M
structure RT (w wr:World) (M g:Nat) (xs:List NP) (os:List (List UInt8)) (n k:Nat) (zs:List NP):Prop where
 bel:Below w.heap.size w wr
 map:cF ik wr M (ji (iu xs os k))
 new:w.heap.size≤M
 row:Rw wr g zs
 Nq:w.heap.size≤g
 len:zs.length=n
 IL:FA xs os k zs
theorem RT.below {wr:World} {M:Nat} (h:RT w wr M g xs os n k zs) (hb:Below wr.heap.size wr w'):RT w w' M g xs os n k zs:=
 ⟨h.bel.trans (hb.mono h.bel.size),h.map.kept (Kept.aS hb ag) (fun h=>h.elim),h.new,ao.below h.row hb (ao.lt h.row),h.Nq,h.len,h.IL⟩
theorem L0 {y:NP} (h:FA xs os k zs) (hk:k<zs.length) (hy:iu xs os k (os.getD k [])=some y):FA xs os (k+1) (zs.set k y):=fun i hi=>by
 rw[getSet zs k i y hk]
 by_cases A:i=k
 ·rw[if_pos A,A];exact hy
 ·rw[if_neg A];exact h i (by omega)
theorem zC (w:World) (p:Option Addr) (n c:Nat) (xs:List NP) (a:Option Addr) (m d:Nat) (os:List (List UInt8)) (hN:ob w p n c xs) (hO:Ef w a m d os):
 Calls Tryz.prog 48 #[.slice p n c,.slice a m d] w (Ec w xs os n):=by
 obtain⟨i0,hi,fQ,eU,eX⟩:=info_parts EN;have HI:=Qh hi;have lr:=Qh fQ;have jZ:=Qh eU;have lu:=Qh eX;have Cx:=@run_makeMap Tryz.prog;have HM:=Qh hN.at_;have f:=Qh hN.at_.1;have Z:=Qh hN.Qt;have TN:=hN.few;have HO:=Qh hO.at_;have M:=Qh hO.at_.1;clear hi fQ eU eX hN hO
 go_enter Tryz.func48,Tryz.ntmps48
 by_cases Ub:m=n
 ·subst Ub
  obtain⟨w1,Ut⟩:∃w1,w.alloc (.map #[] 0)=w1:=⟨_,rfl⟩
  have t:Hid (WB w w1 w.heap.size xs 0):=Qh
   {bel:=by rw[←Ut];exact(Below.refl _ _).alloc (Qk _) _
    map:=by
     have e:ji (kZ (xs.take 0))=fun _=>none:=by funext l;rfl
     rw[e,←Ut];exact iR ik w
    new:=Qk _}
  go_upto_region 4 with fail
  clear Ut Cx;go_wp2_with fail
  go_loopw [8,22] (fun _ i wr=>∃(k:Nat),k≤m∧i=.int .i64 (k:Int)∧Hid (WB w wr w.heap.size xs k)) (fun _ i _=>m - (RowKit.intOf i).toNat)
  case atStart=>exact⟨0,Nat.zero_le _,rfl,t⟩
  case round=>
   obtain⟨k,hk,rfl,L⟩:=hrel
   by_cases J:k<m
   ·obtain⟨b1,o1,rfl,cf,mM,hc⟩:=(HM.out.below L.out.bel).dD J
    obtain⟨y,hy⟩:∃y,xs.getD k aG=y:=⟨_,rfl⟩
    rw[hy]at hc mM;have HY:=Qh hy;obtain⟨c0,c1,c2,c3,c4,c5,c6,c7,c8⟩:=hc;obtain⟨W5,H⟩:∃W5,wr.alloc (.cells y.cs 52)=W5:=⟨_,rfl⟩
    have O:Below wr.heap.size wr W5:=by rw[←H];exact(Below.refl _ _).alloc (Qk _) _
    have A:ao W5 wr.heap.size 52 y.cs:=by rw[←H];exact ao.new wr _ _
    have xb:=Qh O;have iN:=Qh (L.out.map.kept (Kept.aS O ag) (fun h=>h.elim));have z0:=A.cell 0;have U:=A.cell 1;have z2:=A.cell 2;have z3:=A.cell 3;have z4:=A.cell 4;have z5:=A.cell 5;have V:=A.cell 6;have W:=A.cell 7;have X:=A.cell 8;unfold NP.cs fT at H;simp only[NP.cs,fT,Qc,Qa,Qb]at z0 U z2 z3 z4 z5 V W X;have kK:(k:Int)<(m:Int):=by omega
    clear hy cf mM A O;go_upto_region 7 with fail;clear H c0 c1 c2 c3 c4 c5 c6 c7 c8
    go_wp2_with (at_mapUpdate;refine cQ (K:=ik) rfl (.tmp 26) (.tmp 28) (.tmp 29) rfl Tryz.underlying138 Tryz.underlying9 w.heap.size iN.out rfl y.m.path rfl (.agg y.cs) rfl ?_)
    intro w7 T R Q1
    have u:Hid (WB w w7 w.heap.size xs (k+1)):=by
     have I:=L.out.bel.trans (xb.out.mono L.out.bel.size);refine Qh ⟨I.trans (R.out.below I.size (fun b I=>by rw[show b=w.heap.size from I];exact Qk _)),?_,Qk _⟩
     have e:ji (kZ (xs.take (k+1)))=fun z=>if z=y.m.path then some (.agg y.cs)else ji (kZ (xs.take k)) z:=by
      funext z
      unfold ji;rw[Cc (cE Z.out) (show k<xs.length by rw[f.out];exact J),HY.out]
      by_cases h:z=y.m.path<;>simp[h]
     rw[e];exact T.out
    clear T R Q1 z0 U z2 z3 z4 z5 V W X;go_wp2;go_roundw
    case rel=>exact⟨k+1,by omega,by go_num,u⟩
    case measure=>simp[RowKit.intOf];omega
   ·obtain rfl:k=m:=by omega
    have ng:¬((k:Int)<(k:Int)):=by omega
    have I7:=L.out.bel;have NC:=L.out.map;rw[List.take_of_length_le (by rw[f.out];exact Qk _)]at NC;have Y2:=Qh NC;have q:=Qh I7;clear L NC I7
    go_wp2_with (at_make;refine wpList_make_full _ rfl _ _ 22 rfl wr.heap.size 52 i0 _ 9 Tryz.underlying22 HI.out lr.out jZ.out .i64 .i64 _ _ k rfl rfl rfl rfl (by rw[lu.out];omega) (by unfold maxLen;omega) (Qk _) ?_)
    intro w3 lO bw
    have Mz:=Fm (B:=wr.heap.size) (w':=w3) (g:=wr.heap.size) (n:=k) (by
     have h9:=lO;rw[tt]at h9
     exact h9)
    have dw:Kept ag wr w3:=(Kept.refl ag wr).grown bw (fun k h=>by cases h);have o:Below wr.heap.size wr w3:=dw.below (Qk _) (fun _ h=>h.elim)
    have Sz:Hid (RT w w3 w.heap.size wr.heap.size xs os k 0 (List.replicate k aG)):=Qh
     {bel:=q.out.trans (o.mono q.out.size)
      map:=by rw[CY];exact Y2.out.kept dw (fun h=>h.elim)
      new:=Qk _
      row:=Mz
      Nq:=q.out.size
      len:=by simp
      IL:=fun i hi=>by omega}
    obtain⟨g,hg⟩:∃g,wr.heap.size=g:=⟨_,rfl⟩
    rw[hg]at Sz⊢;clear lO bw Mz dw o Y2 q hg;go_wp2_with fail
    go_loopw [10,11,12,13,36] (fun _ _ _ _ i wr=>∃(j:Nat) (zs:List NP),j≤k∧i=.int .i64 (j:Int)∧Hid (RT w wr w.heap.size g xs os k j zs)) (fun _ _ _ _ i _=>k - (RowKit.intOf i).toNat)
    case atStart=>exact⟨0,_,Nat.zero_le _,rfl,Sz⟩
    case round=>
     obtain⟨j,zs,hj,rfl,G⟩:=hrel
     by_cases J:j<k
     ·obtain⟨b3,o3,rfl,o,zp⟩:=(HO.out.below G.out.bel).2 (by omega)
      have z0:=zp j J;obtain⟨x,hx⟩:∃x,os.getD j []=x:=⟨_,rfl⟩
      rw[hx]at z0;have HX:=Qh hx;have N:=G.out.map.look_ok (P:=Tryz.prog) Tryz.underlying138 Tryz.underlying9 Ld x;obtain⟨fo,uC⟩:∃fo,iu xs os j x=fo:=⟨_,rfl⟩
      have xd:=Qh uC;unfold ji at N;rw[uC]at N;have kK:(j:Int)<(k:Int):=by omega
      clear hx uC zp o
      cases fo with
      |none=>
       have Rg:(Instr.lookup 138 (.map (some w.heap.size)) (.string (str x)) true).run Tryz.prog wr=.ok (.tuple #[.agg #[.string ⟨#[]⟩,.string ⟨#[]⟩,.string ⟨#[]⟩,.int .u8 0,.int .i64 0,.int .i64 0,.int .i64 0,.int .i64 0,.slice none 0 0],.bool false]) wr:=N;have E:Hid (¬cC (xs.map NP.m) os):=Qh (Hu Z.out (show j<os.length by rw[M.out];exact J) (by rw[HX.out];exact xd.out));have HB:=Qh G.out.bel;clear N;go_wp2;go_ret2;exact .inr ⟨rfl,E.out,HB.out.alloc HB.out.size _⟩
      |some y=>
       have Rg:(Instr.lookup 138 (.map (some w.heap.size)) (.string (str x)) true).run Tryz.prog wr=.ok (.tuple #[.agg #[.string (str y.m.path),.string (str y.m.target),.string (str y.m.af),.int .u8 (y.m.kind.toNat:Int),.int .i64 y.m.mode,.int .i64 y.m.uid,.int .i64 y.m.gid,.int .i64 y.m.time,.slice y.p y.m.body.length y.c],.bool true]) wr:=N;obtain⟨W5,H⟩:∃W5,wr.alloc (.cells y.cs 52)=W5:=⟨_,rfl⟩
       have O:Below wr.heap.size wr W5:=by rw[←H];exact(Below.refl _ _).alloc (Qk _) _
       have A:ao W5 wr.heap.size 52 y.cs:=by rw[←H];exact ao.new wr _ _
       have D:=Qh (G.out.below O);have U:=A.cell 0;have z2:=A.cell 1;have z3:=A.cell 2;have z4:=A.cell 3;have z5:=A.cell 4;have V:=A.cell 5;have W:=A.cell 6;have X:=A.cell 7;have z9:=A.cell 8;unfold NP.cs fT at H;simp only[NP.cs,fT,Qc,Qa,Qb]at U z2 z3 z4 z5 V W X z9;have XR:j<zs.length:=by rw[D.out.len];exact J
       obtain⟨r0,r1,r2,r3,r4,r5,r6,r7,r8⟩:=D.out.row.dD XR;have f0:=ao.frozen D.out.row (j*9);have f1:=ao.frozen D.out.row (j*9+1);have f2:=ao.frozen D.out.row (j*9+2);have f3:=ao.frozen D.out.row (j*9+3);have f4:=ao.frozen D.out.row (j*9+4);have f5:=ao.frozen D.out.row (j*9+5);have f6:=ao.frozen D.out.row (j*9+6);have f7:=ao.frozen D.out.row (j*9+7);have f8:=ao.frozen D.out.row (j*9+8);have YY:=Qh XR;clear N XR O A;go_upto_region 14 with fail;clear H Rg z0;go_upto_region 17 with fail;obtain⟨W6,Y⟩:∃W6,(((((((((W5.setCell ⟨g,j*9,none⟩ (.string (str y.m.path))).setCell ⟨g,j*9+1,none⟩ (.string (str y.m.target))).setCell ⟨g,j*9+2,none⟩ (.string (str y.m.af))).setCell ⟨g,j*9+3,none⟩ (.int .u8 (y.m.kind.toNat:Int))).setCell ⟨g,j*9+4,none⟩ (.int .i64 y.m.mode)).setCell ⟨g,j*9+5,none⟩ (.int .i64 y.m.uid)).setCell ⟨g,j*9+6,none⟩ (.int .i64 y.m.gid)).setCell ⟨g,j*9+7,none⟩ (.int .i64 y.m.time)).setCell ⟨g,j*9+8,none⟩ (.slice y.p y.m.body.length y.c))=W6:=⟨_,rfl⟩
       have r:Kept (aA g) W5 W6:=by rw[←Y];exact Fl (S:=aA g) rfl _ _ _ _ _ _ _ _ _
       have Pa:Rw W6 g (zs.set j y):=by rw[←Y];exact D.out.row.set YY.out y
       have QP:g≠w.heap.size:=lH D.out.row D.out.map;have O3:cF ik W6 w.heap.size (ji (iu xs os j)):=D.out.map.kept r (fun e=>QP e.symm);rw[Y];have MO:=Qh r;have Jo:=Qh Pa;have nu:=Qh O3;have PF:=Qh QP;clear Y r Pa O3 QP r0 r1 r2 r3 r4 r5 r6 r7 r8 f0 f1 f2 f3 f4 f5 f6 f7 f8 U z2 z3 z4 z5 V W X z9
       go_wp2_with (at_delete;refine AU (K:=ik) rfl (.tmp 53) (.tmp 54) 138 9 rfl 52 Tryz.underlying138 Tryz.underlying9 w.heap.size nu.out rfl x rfl ?_)
       intro w7 T R Q1
       have u:Hid (RT w w7 w.heap.size g xs os k (j+1) (zs.set j y)):=by
        have vD:Below w.heap.size w W6:=D.out.bel.trans (MO.out.below D.out.bel.size (fun b I=>by rw[show b=g from I];exact D.out.Nq));refine Qh ⟨vD.trans (R.out.below vD.size (fun b I=>by rw[show b=w.heap.size from I];exact Qk _)),?_,Qk _,ao.bW Jo.out R.out PF.out,D.out.Nq,by rw[List.length_set];exact D.out.len,L0 D.out.IL YY.out (by rw[HX.out];exact xd.out)⟩
        have e:ji (iu xs os (j+1))=fun z=>if z=x then none else ji (iu xs os j) z:=by
         funext z
         unfold ji;rw[CX (show j<os.length by rw[M.out];exact J),HX.out]
         by_cases h:z=x<;>simp[h]
        rw[e];exact T.out
       clear T R Q1;go_wp2;go_roundw
       case rel=>exact⟨j+1,_,by omega,by go_num,u⟩
       case measure=>simp[RowKit.intOf];omega
     ·obtain rfl:j=k:=by omega
      have ng:¬((j:Int)<(j:Int)):=by omega
      have Kz:cC (xs.map NP.m) os:=DV Z.out (by rw[M.out,f.out]) (by rw[M.out];exact G.out.IL)
      have ri:aY wr (some ⟨g,0,none⟩) j zs:=by
       have h1:=G.out.row.nodes (fun y hy=>by
        obtain⟨i,hi,rfl⟩:=List.mem_iff_getElem.1 hy;have h2:=pZ G.out.IL (show i<j by rw[←G.out.len];exact hi);rw[rF hi]at h2
        exact(HM.out.below G.out.bel).2.1 _ (List.mem_of_find?_eq_some h2))
       rw[G.out.len]at h1;exact h1
      have HF:=Qh (And.intro Kz ri);clear Kz ri;go_wp2;go_ret2;exact .inl ⟨_,zs,rfl,G.out.IL,G.out.len,M.out,HF.out.2,HF.out.1,G.out.bel⟩
 ·have E:Hid (¬cC (xs.map NP.m) os):=Qh (fun h=>Ub (by
   have h1:=((mR Z.out os).1 h).1;rw[Qi,f.out,M.out]at h1
   exact h1))
  have cV:¬((m:Int)=(n:Int)):=by omega
  go_wp2;go_ret2;exact .inr ⟨rfl,E.out,Below.refl _ _⟩
end oa
namespace oa
open Go.ChangeShapes Go.WideShapes Go.ChangeAt Go.RowKit Base bJ cn Bk Rec Block Go.Proofs.YtdhibldkldlfpaaGreatDoor.Mp Tre Go.Lib
abbrev Zh:=List (List UInt8 × List UInt8)
theorem E8 {w:World} {B m:Nat} {v u:Value} {xs ys:List Value} (h1:w.ownsRow B 48 8 v n xs) (h2:w.ownsRow B 9 1 u m ys):∀k,u.ownBlock=some k→v.ownBlock≠some k:=fun k hu A=>by
 rcases h1.2 with⟨rfl,_⟩|⟨g,cap,cur,rfl,_,hg,_⟩
 ·cases A
 ·rcases h2.2 with⟨rfl,_⟩|⟨g',aa2,aa3,rfl,_,QO,_⟩
  ·cases hu
  ·have D:g=k:=by simpa [Value.ownBlock]using A
   have E:g'=k:=by simpa [Value.ownBlock]using hu
   subst D;subst E;rw[hg]at QO;simp only[Option.some.injEq,Obj.cells.injEq]at QO;exact absurd QO.2.1 (by decide)
structure OI (w wr:World) (F:Zh) (ms:List av) (vo v6 v7:Value) (ys:List MP):Prop where
 bel:Below w.heap.size w wr
 out:wr.ownsRow w.heap.size 48 8 vo ys.length (fH ys)
 same:ys.map MP.m=ms
 Vd:∀y∈ys,dq w y
 zN:wr.ownsRow w.heap.size 9 1 v6 F.length (Er (F.map (·.1)))
 fst:wr.ownsRow w.heap.size 9 1 v7 F.length (Er (F.map (·.2)))
 sep:∀k,v6.ownBlock=some k→v7.ownBlock≠some k
section
variable {w wr w':World} {F:Zh} {ms:List av} {vo v6 v7:Value} {ys:List MP}
theorem OI.below (h:OI w wr F ms vo v6 v7 ys) (hb:Below wr.heap.size wr w'):OI w w' F ms vo v6 v7 ys where
 bel:=h.bel.trans (hb.mono h.bel.size)
 out:=cR h.out hb
 same:=h.same
 Vd:=h.Vd
 zN:=cR h.zN hb
 fst:=cR h.fst hb
 sep:=h.sep
theorem OI.add (h:OI w wr F ms vo v6 v7 ys) {y:MP} {m:av} (hy:y.m=m) (hb:dq w y) {v':Value} (cN:w'.ownsRow w.heap.size 48 8 v' (ys++[y]).length (fH (ys++[y]))) (hg:wr.grownBy w' vo.ownBlock):OI w w' F (ms++[m]) v' v6 v7 (ys++[y]):=by
 have A:Kept (fun b=>vo.ownBlock=some b) wr w':=(Kept.refl _ wr).grown hg (fun k hk=>.inr hk);exact
 {bel:=h.bel.trans (A.below h.bel.size (fun k hk=>(World.ownsRow.lt h.out _ hk).1))
  out:=cN
  same:=by rw[List.map_append,h.same,←hy];rfl
  Vd:=fun x hx=>by
   rcases List.mem_append.1 hx with hx|hx
   ·exact h.Vd x hx
   ·rw[List.mem_singleton.1 hx];exact hb
  zN:=bN h.zN A (fun k hk e=>E8 h.out h.zN k hk e)
  fst:=bN h.fst A (fun k hk e=>E8 h.out h.fst k hk e)
  sep:=h.sep}
theorem OI.off (h:OI w wr F ms vo v6 v7 ys) {b:Nat} {t:TypeId} {cs:Array Value} (ht:t≠9) (hb:ao wr b t cs):¬UW v6 v7 b:=fun e=>by
 have key:∀{v:Value} {n:Nat} {xs:List Value},wr.ownsRow w.heap.size 9 1 v n xs→v.ownBlock≠some b:=fun {v n xs} ho e=>by
  rcases ho.2 with⟨rfl,_⟩|⟨g,cap,cur,rfl,_,hg,_⟩
  ·cases e
  ·have A:g=b:=by simpa [Value.ownBlock]using e
   subst A;unfold ao at hb;rw[hg]at hb;simp only[Option.some.injEq,Obj.cells.injEq]at hb;exact ht hb.2.1.symm
 rcases e with e|e
 ·exact key h.zN e
 ·exact key h.fst e
end
end oa
end Go.Proofs.YtdhibldkldlfpaaGreatDoor
