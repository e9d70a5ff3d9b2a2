/- Merged. -/
import Derived.Test.YtdhibldkldlfpaaGreatDoorEmitUnpacksX34
import Derived.Deep.RegionHeld3
import Derived.Test.YtdhibldkldlfpaaGreatDoorEmitUnpacksX37
namespace Go.Proofs.YtdhibldkldlfpaaGreatDoor
set_option linter.unusedVariables false
set_option maxHeartbeats 8000000
set_option maxRecDepth 100000
open Mem
variable {b p:List UInt8} {f g i k n:Nat} {w w':World}
namespace kY
open Go.ChangeShapes Go.WideShapes Go.ChangeAt Go.RowKit Base cb iK Bk Go.Lib
variable {t:List aC}
theorem Nn (p q:Option Addr) (n m c d:Nat) (xs ys:List NP) (w:World) (hn:n≤maxLen) (h1:bU w p n xs) (h2:bU w q m ys):
 Calls Tryz.prog 15 #[.slice p n c,.slice q m d] w fun e w'=>e=.returned (.bool (decide (xs.map NP.m=ys.map NP.m)))∧Below w.heap.size w w':=by
 unfold maxLen at hn;have H1:=Qh h1;have t:=Qh h2;have J:=Qh h1.1;have O:=Qh h2.1;clear h1 h2
 go_enter Tryz.func15,Tryz.ntmps15
 by_cases l:n=m
 ·subst l
  have hb:(((n:Int)) != (n:Int))=false:=by simp
  go_wp2_with fail
  go_loopw [5] (fun i wr=>∃(k:Nat),k≤n∧i=.int .i64 (k:Int)∧Hid (∀j,j<k→(xs.getD j aT).m=(ys.getD j aT).m)∧Hid (Below w.heap.size w wr)) (fun i _=>n - (RowKit.intOf i).toNat)
  case atStart=>exact⟨0,Nat.zero_le _,rfl,Qh (fun j L=>absurd L (by omega)),Qh (Below.refl _ _)⟩
  case round=>
   obtain⟨k,hk,rfl,hd,E⟩:=hrel
   by_cases I:k<n
   ·obtain⟨b1,o1,rfl,X,R,U⟩:=(H1.out.below E.out).kZ I
    obtain⟨B,D,rfl,Y,T,V⟩:=(t.out.below E.out).kZ I;obtain⟨u,hu⟩:∃u,xs.getD k aT=u:=⟨_,rfl⟩
    obtain⟨v,M⟩:∃v,ys.getD k aT=v:=⟨_,rfl⟩
    rw[hu]at R U;rw[M]at T V;have b:=Qh hu;have f:=Qh M;have y:=Qh R;have z:=Qh T;have o:Hid (∀w',Below wr.heap.size wr w'→kX w' b1 (o1+k*9) u∧kX w' B (D+k*9) v):=Qh (fun w' h=>⟨U.below X h,V.below Y h⟩);have G:Hid (Below wr.heap.size wr wr.drew):=Qh (below_drewN (Below.refl wr.heap.size wr) 1);unfold kX at o;have qX:(k:Int)<(n:Int):=by omega
    have r:((str u.m.ao).toList==(str v.m.ao).toList)=decide (u.m.ao=v.m.ao):=by
     rw[ak,ak]
     by_cases h:u.m.ao=v.m.ao<;>simp[h]
    by_cases hl:u.m.ao=v.m.ao
    ·rw[decide_eq_true hl]at r
     have W:=Qh hl;clear R T U V hu M X Y hl;go_wp2_with fail
     go_region_held3 (fun w'=>(w'.cell? ⟨b1,o1+k*9,none⟩=some (.string (str u.m.path))∧w'.cell? ⟨b1,o1+k*9+1,none⟩=some (.string (str u.m.target))∧w'.cell? ⟨b1,o1+k*9+2,none⟩=some (.string (str u.m.ao))∧w'.cell? ⟨b1,o1+k*9+3,none⟩=some (.int .u8 (u.m.kind.toNat:Int))∧w'.cell? ⟨b1,o1+k*9+4,none⟩=some (.int .i64 u.m.mode)∧w'.cell? ⟨b1,o1+k*9+5,none⟩=some (.int .i64 u.m.uid)∧w'.cell? ⟨b1,o1+k*9+6,none⟩=some (.int .i64 u.m.gid)∧w'.cell? ⟨b1,o1+k*9+7,none⟩=some (.int .i64 u.m.time)∧w'.cell? ⟨b1,o1+k*9+8,none⟩=some (.slice u.p u.m.body.length u.c))∧(w'.cell? ⟨B,D+k*9,none⟩=some (.string (str v.m.path))∧w'.cell? ⟨B,D+k*9+1,none⟩=some (.string (str v.m.target))∧w'.cell? ⟨B,D+k*9+2,none⟩=some (.string (str v.m.ao))∧w'.cell? ⟨B,D+k*9+3,none⟩=some (.int .u8 (v.m.kind.toNat:Int))∧w'.cell? ⟨B,D+k*9+4,none⟩=some (.int .i64 v.m.mode)∧w'.cell? ⟨B,D+k*9+5,none⟩=some (.int .i64 v.m.uid)∧w'.cell? ⟨B,D+k*9+6,none⟩=some (.int .i64 v.m.gid)∧w'.cell? ⟨B,D+k*9+7,none⟩=some (.int .i64 v.m.time)∧w'.cell? ⟨B,D+k*9+8,none⟩=some (.slice v.p v.m.body.length v.c))) (exact o.out _ G.out) (first
      |(go_at_call 30
        refine(Kj u v _ (y.out.below G.out) (z.out.below G.out)).mono ?_;rintro e wa ⟨rfl,g⟩;have G:=Qh (G.out.trans (g.mono G.out.size))
        clear g))
     all_goals
      by_cases A:u.m=v.m
      ·have H:eqN u.m v.m=true:=by rw[A];simp[eqN]
       have HD:Hid (∀j,j<k+1→(xs.getD j aT).m=(ys.getD j aT).m):=Qh (fun j L=>by
        rcases Nat.lt_succ_iff_lt_or_eq.1 L with h|rfl
        ·exact hd.out j h
        ·rw[b.out,f.out,A])
       clear A;have Z:=Qh (E.out.trans (G.out.mono E.out.size));rw[H];go_wp2;go_roundw
       case rel=>exact⟨k+1,by omega,by go_num,HD,Z⟩
       case measure=>simp[RowKit.intOf];omega
      ·have H:eqN u.m v.m=false:=by
        rw[Bool.eq_false_iff];intro h;exact A (O0 (of_decide_eq_true h) W.out)
       have N:Hid (decide (xs.map NP.m=ys.map NP.m)=false):=Qh (decide_eq_false (yq xs ys k (by rw[J.out];exact I) (by rw[O.out];exact I) (by rw[b.out,f.out];exact A)));clear A;have Z:=Qh (E.out.trans (G.out.mono E.out.size));rw[H];go_wp2;go_ret;exact⟨by rw[N.out];rfl,Z.out⟩
    ·rw[decide_eq_false hl]at r
     have N:Hid (decide (xs.map NP.m=ys.map NP.m)=false):=Qh (decide_eq_false (yq xs ys k (by rw[J.out];exact I) (by rw[O.out];exact I) (by rw[hu,M];exact fun h=>hl (by rw[h]))));obtain⟨c0,c1,c2,c3,c4,c5,c6,c7,c8⟩:=U;obtain⟨d0,d1,d2,d3,d4,d5,d6,d7,d8⟩:=V;clear R T hu M X Y hl;go_wp2_with fail
     go_quiet (fail)
     go_wp2;go_ret;exact⟨by rw[N.out];rfl,below_drewN E.out _⟩
   ·have uh:¬((k:Int)<(n:Int)):=by omega
    have HE:Hid (decide (xs.map NP.m=ys.map NP.m)=true):=Qh (decide_eq_true (MS xs ys (by rw[J.out,O.out]) (fun j L=>hd.out j (by rw[J.out]at L;omega))));go_wp2;go_ret;exact⟨by rw[HE.out];rfl,E.out⟩
 ·have hb:(((n:Int)) != (m:Int))=true:=by simp;omega
  have N:Hid (decide (xs.map NP.m=ys.map NP.m)=false):=Qh (decide_eq_false (fun h=>l (by
   have:=congrArg List.length h;rw[Qi,Qi,J.out,O.out]at this
   exact this)))
  go_wp2;go_ret;exact⟨by rw[N.out];rfl,Below.refl _ _⟩
theorem uy {x:NP} (hb:au w g 52 x.cs) (a0 a1 a2 a3 a4 a5 a6 a7 a8:Value):
 au (((((((((w.setCell ⟨g,0,none⟩ a0).setCell ⟨g,1,none⟩ a1).setCell ⟨g,2,none⟩ a2).setCell ⟨g,3,none⟩ a3).setCell ⟨g,4,none⟩ a4).setCell ⟨g,5,none⟩ a5).setCell ⟨g,6,none⟩ a6).setCell ⟨g,7,none⟩ a7).setCell ⟨g,8,none⟩ a8) g 52 #[a0,a1,a2,a3,a4,a5,a6,a7,a8]:=
 (((((((((hb.set 0 a0 (by show 0<9;decide)).set 1 a1 (by show 1<9;decide)).set 2 a2 (by show 2<9;decide)).set 3 a3 (by show 3<9;decide)).set 4 a4 (by show 4<9;decide)).set 5 a5 (by show 5<9;decide)).set 6 a6 (by show 6<9;decide)).set 7 a7 (by show 7<9;decide)).set 8 a8 (by show 8<9;decide))
theorem o5 (hk:Below w.heap.size w w') (hg:w.heap.size≤g) (a0 a1 a2 a3 a4 a5 a6 a7 a8:Value):
 Below w.heap.size w (((((((((w'.setCell ⟨g,0,none⟩ a0).setCell ⟨g,1,none⟩ a1).setCell ⟨g,2,none⟩ a2).setCell ⟨g,3,none⟩ a3).setCell ⟨g,4,none⟩ a4).setCell ⟨g,5,none⟩ a5).setCell ⟨g,6,none⟩ a6).setCell ⟨g,7,none⟩ a7).setCell ⟨g,8,none⟩ a8):=
 (((((((((hk.setCell (p:=⟨g,0,none⟩) hg a0).setCell (p:=⟨g,1,none⟩) hg a1).setCell (p:=⟨g,2,none⟩) hg a2).setCell (p:=⟨g,3,none⟩) hg a3).setCell (p:=⟨g,4,none⟩) hg a4).setCell (p:=⟨g,5,none⟩) hg a5).setCell (p:=⟨g,6,none⟩) hg a6).setCell (p:=⟨g,7,none⟩) hg a7).setCell (p:=⟨g,8,none⟩) hg a8)
structure ac0 (w wi:World) (g:Nat) (y:NP):Prop where
 bel:Below w.heap.size w wi
 pE:au wi g 52 y.cs
 new:w.heap.size≤g
theorem ac0.below {wi wj:World} {y:NP} (h:ac0 w wi g y) (hb:Below wi.heap.size wi wj):ac0 w wj g y:=
 ⟨h.bel.trans (hb.mono h.bel.size),h.pE.below hb h.pE.lt,h.new⟩
theorem LL (h:∀x∈t,x.path≠b):oB t b=none:=by
 unfold oB;rw[List.find?_eq_none];intro x A
 simpa using h x A
theorem LM (hk:k<t.length) (h:(t.getD k iO).path=b) (h0:∀x∈t.take k,x.path≠b):oB t b=some (t.getD k iO):=by
 unfold oB;rw[List.getD,Qd hk]at h⊢
 have e:t=t.take k++t[k]::t.drop (k+1):=by
  rw[←List.drop_eq_getElem_cons hk,List.take_append_drop]
 conv=>lhs;rw[e,List.find?_append]
 have A:(t.take k).find? (fun x=>x.path==b)=none:=by
  rw[List.find?_eq_none];intro x B
  simpa using h0 x B
 rw[A];simp only[Option.none_or];rw[List.find?_cons_of_pos (by simpa using h)];simp
theorem Wu (w:World):je w aT:=⟨iC.none_ w none,Qk _,by decide⟩
def aa5 (x:NP):Prop:=x.m.path.length≤140737488351232∧x.m.target.length≤140737488351232
theorem OQ (k:UInt8) (n:UInt8) (z:Int) (hz:(n.toNat:Int)=z):(((k.toNat:Int))==z)=decide (k=n):=by
 subst hz
 by_cases h:k=n
 ·simp[h]
 ·have:¬k.toNat=n.toNat:=fun A=>h (UInt8.toNat.inj A)
  simp only[h,decide_false,beq_eq_false_iff_ne,ne_eq];omega
theorem OS (k:UInt8) (n:UInt8) (z:Int) (hz:(n.toNat:Int)=z):(((k.toNat:Int)) != z)=!decide (k=n):=by
 rw[←OQ k n z hz];rfl
theorem Mo (x:NP) (w:World) (hF:aa5 x) (hT:Path.Tabs w):
 Calls Tryz.prog 46 #[.agg x.cs] w fun e w'=>e=.returned (.bool (tB x.m))∧Below w.heap.size w w':=by
 obtain⟨W,D⟩:∃W,w.alloc (.cells x.cs 52)=W:=⟨_,rfl⟩
 have H:Below w.heap.size w W:=by rw[←D];exact(Below.refl _ _).alloc (Qk _) _
 have I:au W w.heap.size 52 x.cs:=by rw[←D];exact au.new w _ _
 have B:=uM x.m.mem x.p x.c W hF.1 hF.2 (hT.below H);have G:=OS x.m.kind 49 49 rfl;unfold tB;obtain⟨g,L⟩:∃g,cf x.m.mem=g:=⟨_,rfl⟩
 rw[L]at B⊢;obtain⟨k,hk⟩:∃k:Int,(x.m.kind.toNat:Int)=k:=⟨_,rfl⟩
 obtain⟨c0,c1,c2,c3,N,c5,c6,c7,O⟩:=nW I;simp only[Nat.zero_add]at c0 c1 c2 c3 N c5 c6 c7 O;unfold NP.cs tH at D⊢;unfold jB aC.mem at B;rw[hk]at D B c3 G⊢;have M:=Qh B;have E:=Qh H;clear B H I L hk hF hT
 go_enter Tryz.func46,Tryz.ntmps46
 by_cases A:x.m.kind=49
 ·rw[decide_eq_true A,Bool.not_true]at G
  have hd:decide (x.m.kind≠49)=false:=by simp[A]
  rw[hd];clear A hd;go_upto_region 1 with fail
  go_wp2;go_ret;exact⟨rfl,E.out⟩
 ·rw[decide_eq_false A,Bool.not_false]at G
  have hd:decide (x.m.kind≠49)=true:=by simp[A]
  rw[hd];clear A hd;go_upto_region 1 with fail;go_wp2_with fail
  refine M.out.mono ?_;rintro e R ⟨rfl,J⟩;have F:=Qh (E.out.trans (J.mono E.out.size));clear J;go_wp2;go_ret;exact⟨rfl,F.out⟩
theorem Dv (hs:nz t) (hk:k<t.length) (h:(t.getD k iO).path=b):oB t b=some (t.getD k iO):=
 LM hk h (fun x A e=>by
  obtain⟨i,hi,rfl⟩:=List.mem_iff_getElem.1 A;rw[Qg]at hi;have:=pz hs (show i<k by omega) hk;rw[List.getD,Qd (show i<t.length by omega)]at this;rw[List.getElem_take]at e;simp only[Option.getD_some,e,h]at this;rw[re]at this
  cases this)
theorem Y8 (a b:List UInt8):((str a).toList==(str b).toList)=decide (a=b):=by
 rw[ak,ak]
 by_cases h:a=b<;>simp[h]
theorem Fa (x:NP) (p:Option Addr) (n c:Nat) (xs:List NP) (w:World) (hx:je w x) (h:bU w p n xs) (hn:n≤1000000000) (hs:nz (xs.map NP.m)):
 Calls Tryz.prog 47 #[.agg x.cs,.slice p n c] w fun e w'=>e=.returned (.bool (Bb (xs.map NP.m) x.m))∧Below w.heap.size w w':=by
 obtain⟨W,O⟩:∃W,w.alloc (.cells x.cs 52)=W:=⟨_,rfl⟩
 have N:Below w.heap.size w W:=by rw[←O];exact(Below.refl _ _).alloc (Qk _) _
 have hX:au W w.heap.size 52 x.cs:=by rw[←O];exact au.new w _ _
 have HP:=Qh (zw p n c xs x.m.ao W (h.below N) hn);have d:=Qh (h.below N);have HL:=Qh h.1;have f:=Qh (hx.below N);have HS:=Qh hs;obtain⟨r,hr⟩:∃r,Bb (xs.map NP.m) x.m=r:=⟨_,rfl⟩
 rw[hr];have X:=Qh hr;have ek:=OS x.m.kind 48 48 rfl;obtain⟨k,hk⟩:∃k:Int,(x.m.kind.toNat:Int)=k:=⟨_,rfl⟩
 have HX:=Qh hX;have HK:=Qh hk;obtain⟨c0,c1,c2,c3,c4,c5,c6,c7,c8⟩:=nW hX;simp only[Nat.zero_add]at c0 c1 c2 c3 c4 c5 c6 c7 c8;unfold NP.cs tH at O⊢;rw[hk]at O c3 ek⊢;have b:=Qh N;clear N hX hk hx h hr hs
 go_enter Tryz.func47,Tryz.ntmps47
 by_cases H:x.m.kind=48
 ·rw[decide_eq_true H,Bool.not_true]at ek
  have E:Hid (r=ag9 (oB (xs.map NP.m) x.m.ao) x.m):=Qh (by
   rw[←X.out];unfold Bb
   rw[if_pos H])
  clear X H;go_upto_region 1 with fail;clear O;go_wp2_with fail;refine HP.out.mono ?_;rintro e V ⟨a,there,rfl,ha,A,oH,R⟩;have z:=Qh (b.out.trans (R.mono b.out.size));have g:=HX.out.below R HX.out.lt;have pH:=Qh g;have kr:=Qh (d.out.below R);have o:=Qh (f.out.below R);obtain⟨d0,d1,d2,d3,d4,d5,d6,d7,d8⟩:=nW g;simp only[Nat.zero_add]at d0 d1 d2 d3 d4 d5 d6 d7 d8;clear R g c0 c1 c2 c3 c4 c5 c6 c7 c8
  cases there with
  |false=>
   have E2:Hid (r=false):=Qh (by rw[E.out,LL (oH HS.out rfl)];rfl);clear A oH ha d0 d1 d2 d3 d4 d5 d6 d7 d8;go_wp2;go_ret;exact⟨by rw[E2.out];rfl,z.out⟩
  |true=>
   obtain⟨Y,U⟩:=A rfl;have han:a<n:=by rw[Qi,HL.out]at Y;exact Y
   have hf:=Dv HS.out Y U;rw[uE]at hf;obtain⟨b1,o1,rfl,ch,iB,nI⟩:=kr.out.kZ han;obtain⟨y,hy⟩:∃y,xs.getD a aT=y:=⟨_,rfl⟩
   rw[hy]at hf iB nI;have I:Hid (r=(decide (y.m.kind=48)&&(decide (y.m.ao=y.m.path)&&(decide (y.m.mode=x.m.mode∧y.m.uid=x.m.uid∧y.m.gid=x.m.gid∧y.m.time=x.m.time)&&decide (y.m.body=x.m.body))))):=Qh (by rw[E.out,hf];rfl);obtain⟨W3,J⟩:∃W3,V.alloc (.cells y.cs 52)=W3:=⟨_,rfl⟩
   have L:Below V.heap.size V W3:=by rw[←J];exact(Below.refl _ _).alloc (Qk _) _
   have hY:au W3 V.heap.size 52 y.cs:=by rw[←J];exact au.new V _ _
   have Cl:=pH.out.below L pH.out.lt;have Z:=Qh (z.out.trans (L.mono z.out.size));have t:=Qh (o.out.below L);have u:=Qh (iB.below L);obtain⟨y0,y1,y2,y3,y4,y5,y6,y7,y8⟩:=nW hY;obtain⟨x0,x1,x2,x3,x4,x5,x6,x7,x8⟩:=nW Cl;obtain⟨z0,z1,z2,z3,z4,z5,z6,z7,z8⟩:=nI;have M:=OQ y.m.kind 48 48 rfl;obtain⟨ky,T⟩:∃k:Int,(y.m.kind.toNat:Int)=k:=⟨_,rfl⟩
   unfold NP.cs tH at J;rw[T]at J M y3 z3;simp only[Nat.zero_add]at y0 y1 y2 y3 y4 y5 y6 y7 y8 x0 x1 x2 x3 x4 x5 x6 x7 x8;have e2:=Y8 y.m.ao y.m.path;have e4:=fun w=>T2 y.m.mode y.m.uid y.m.gid y.m.time x.m.mode x.m.uid x.m.gid x.m.time w
   have HE:=Qh (Qw y.p x.p y.m.body.length y.c x.m.body.length x.c y.m.body x.m.body W3 rfl rfl u.out.nB t.out.nB);obtain⟨q1,B⟩:∃q,decide (y.m.kind=48)=q:=⟨_,rfl⟩
   obtain⟨q2,l⟩:∃q,decide (y.m.ao=y.m.path)=q:=⟨_,rfl⟩
   obtain⟨q3,D⟩:∃q,decide (y.m.mode=x.m.mode∧y.m.uid=x.m.uid∧y.m.gid=x.m.gid∧y.m.time=x.m.time)=q:=⟨_,rfl⟩
   obtain⟨q4,G⟩:∃q,decide (y.m.body=x.m.body)=q:=⟨_,rfl⟩
   rw[B]at M;rw[l]at e2;simp only[D]at e4;rw[G]at HE;rw[B,l,D,G]at I;clear B l D G A oH ha Y U hf hy ch iB L hY Cl T;have aJ1:(a:Int)<(n:Int):=by omega
   go_upto_region 7 with fail
   clear J d0 d1 d2 d3 d4 d5 d6 d7 d8 z0 z1 z2 z3 z4 z5 z6 z7 z8
   cases q1 with
   |false=>
    go_wp2;go_ret;exact⟨by rw[I.out];rfl,Z.out⟩
   |true=>
    cases q2 with
    |false=>
     go_wp2;go_ret;exact⟨by rw[I.out];rfl,Z.out⟩
    |true=>
     cases q3 with
     |false=>
      go_wp2;go_ret;exact⟨by rw[I.out];rfl,Z.out⟩
     |true=>
      go_wp2_with fail
      refine HE.out.mono ?_;rintro e w4 ⟨rfl,rfl⟩;go_wp2;go_ret;exact⟨by rw[I.out];rfl,Z.out⟩
 ·rw[decide_eq_false H,Bool.not_false]at ek
  have E:Hid (r=decide (x.m.ao=[])):=Qh (by
   rw[←X.out];unfold Bb
   rw[if_neg H])
  have e2:=bh x.m.ao;clear X H;go_upto_region 1 with fail
  go_wp2;go_ret;exact⟨by rw[E.out,←e2];rfl,b.out⟩
end kY
namespace kY
open Go.ChangeShapes Go.WideShapes Go.ChangeAt Go.RowKit Base cb iK Bk Go.Lib
variable {t:List aC}
attribute [local irreducible] wpQuiet
theorem vd (hk:k<t.length) (h:nz (t.take k)) (ay:k=0∨j1 (t.getD (k - 1) iO).path (t.getD k iO).path=true):nz (t.take (k+1)):=by
 rw[List.take_succ_eq_append_getElem hk];refine List.pairwise_append.2 ⟨h,List.pairwise_singleton _ _,fun x A y hy=>?_⟩;rw[List.mem_singleton.1 hy];rcases ay with rfl|ay
 ·simp at A
 ·obtain⟨i,hi,rfl⟩:=Al A
  rw[Qg]at hi
  have e:(t.take k).getD i iO=t.getD i iO:=by
   rw[List.getD,List.getD,List.getElem?_take,if_pos (by omega)]
  have B:t.getD k iO=t[k]:=by rw[List.getD,Qd hk];rfl
  rw[e,←B];rcases Nat.lt_or_eq_of_le (show i≤k - 1 by omega)with h1|h1
  ·have:=pz h (i:=i) (j:=k - 1) h1 (by rw[Qg];omega)
   rw[e]at this
   have D:(t.take k).getD (k - 1) iO=t.getD (k - 1) iO:=by
    rw[List.getD,List.getD,List.getElem?_take,if_pos (by omega)]
   rw[D]at this;exact nY _ _ _ this ay
  ·rw[h1];exact ay
theorem rL (hk:k<t.length) (h:rZ t k=false):ja t=false:=by
 rw[Bool.eq_false_iff];intro A;simp only[ja,Bool.and_eq_true,List.all_eq_true,List.mem_range]at A;have:=A.2 k hk;rw[h]at this
 cases this
theorem LY (hn:t.length≤4096) (h:∀k,k<t.length→rZ t k=true):ja t=true:=by
 simp only[ja,Bool.and_eq_true,List.all_eq_true,List.mem_range,decide_eq_true_eq];exact⟨hn,h⟩
def stepT (t:List aC) (i:Nat):Bool:=tB (t.getD i iO)&&(decide (i=0)||j1 (t.getD (i - 1) iO).path (t.getD i iO).path)
theorem pf (t:List aC) (i:Nat):rZ t i=(stepT t i&&Bb (t.take (i+1)) (t.getD i iO)):=rfl
def tc (w:World) (b o:Nat) (y:NP):Prop:=∀p:pI w,kX p.w' b o y
theorem Hv {b o:Nat} {y:NP} (h:kX w b o y) (hb:b<w.heap.size):tc w b o y:=fun p=>h.below hb p.bel
theorem Su (p:Option Addr) (n c:Nat) (xs:List NP) (w:World) (h:bU w p n xs) (hc:n≤c) (hm:c≤maxLen) (hF:∀x∈xs,aa5 x) (hT:Path.Tabs w):
 Calls Tryz.prog 20 #[.slice p n c] w fun e w'=>e=.returned (.bool (ja (xs.map NP.m)))∧Below w.heap.size w w':=by
 unfold maxLen at hm;have HM:=Qh h;have H:=Qh h.1;have HF:=Qh hF;have HT:=Qh hT;obtain⟨r,hr⟩:∃r,ja (xs.map NP.m)=r:=⟨_,rfl⟩
 rw[hr];have b:=Qh hr;clear h hF hT hr
 go_enter Tryz.func20,Tryz.ntmps20
 by_cases Um:n≤4096
 ·have hbz:¬((4096:Int)<(n:Int)):=by omega
  go_wp2_with fail
  go_loopw [3,4,10] (fun _ _ i wr=>∃(k:Nat),k≤n∧i=.int .i64 (k:Int)∧Hid (nz ((xs.map NP.m).take k))∧Hid (∀j,j<k→rZ (xs.map NP.m) j=true)∧Hid (Below w.heap.size w wr)) (fun _ _ i _=>n - (RowKit.intOf i).toNat)
  case atStart=>exact⟨0,Nat.zero_le _,rfl,Qh List.Pairwise.nil,Qh (fun j X=>absurd X (by omega)),Qh (Below.refl _ _)⟩
  case round=>
   obtain⟨k,hk,rfl,hS,hG,z⟩:=hrel
   by_cases O:k<n
   ·obtain⟨b1,o1,rfl,ch,iB,nI⟩:=(HM.out.below z.out).kZ O
    obtain⟨u,hu⟩:∃u,xs.getD k aT=u:=⟨_,rfl⟩
    rw[hu]at iB nI;have HU:=Qh hu;have o:aa5 u:=HF.out u (by rw[←hu];exact T8 xs k (by rw[H.out];exact O));obtain⟨W,hW⟩:∃W,wr.alloc (.cells u.cs 52)=W:=⟨_,rfl⟩
    have Zv:Below wr.heap.size wr W:=by rw[←hW];exact(Below.refl _ _).alloc (Qk _) _
    have hX:au W wr.heap.size 52 u.cs:=by rw[←hW];exact au.new wr _ _
    have I:=Qh (z.out.trans (Zv.mono z.out.size));have G:Hid (∀p:pI W,Calls Tryz.prog 46 #[.agg u.cs] p.w' fun e w'=>e=.returned (.bool (tB u.m))∧Below p.w'.heap.size p.w' w'):=Qh (fun p=>Mo u p.w' o ((HT.out.below I.out).below p.bel));have f:tc W wr.heap.size 0 u:=Hv (nW hX) hX.lt;have d:=Qh hX;have iA:=Qh (iB.below Zv);have T:=Qh (HM.out.below I.out);have L:Hid ((xs.map NP.m).getD k iO=u.m):=Qh (by rw[uE,hu]);unfold NP.cs tH at hW G;unfold tc kX at f;simp only[Nat.zero_add]at f;obtain⟨c0,c1,c2,c3,c4,c5,c6,c7,c8⟩:=nI;have qX:(k:Int)<(n:Int):=by omega
    obtain⟨q,hq⟩:∃q,tB u.m=q:=⟨_,rfl⟩
    rw[hq]at G;have y:=Qh hq;clear hu iB Zv hX hq o ch;go_upto_region 6 with fail;clear hW c0 c1 c2 c3 c4 c5 c6 c7 c8
    cases q with
    |false=>
     have E:Hid (r=false):=Qh (by
      rw[←b.out];refine rL (k:=k) (by rw[Qi,H.out];exact O) ?_;rw[pf,stepT,L.out,y.out]
      rfl)
     refine cA (by kernel_rfl) (by kernel_rfl) ?_
     repeat (quiet_step (first|(go_at_call 46;exact Calls.pT (G.out _))))
     refine wpQuiet_nil ?_;intro Z B;have D:=kN B;clear B;have F:=Qh (I.out.trans (D.mono I.out.size));clear D f;go_wp2;go_ret;exact⟨by rw[E.out];rfl,F.out⟩
    |true=>
     by_cases Y:k=0
     ·have DN:Hid (stepT (xs.map NP.m) k=true):=Qh (by rw[stepT,L.out,y.out,decide_eq_true Y];rfl)
      have uj:decide ((0:Int)<(k:Int))=false:=decide_eq_false (by omega);have cn:decide (0<k)=false:=decide_eq_false (by omega);have t:Hid (nz ((xs.map NP.m).take (k+1))):=Qh (vd (by rw[Qi,H.out];exact O) hS.out (.inl Y));clear Y;refine cA (by kernel_rfl) (by kernel_rfl) ?_
      repeat (quiet_step (first
       |(go_at_call 46;exact Calls.pT (G.out _))))
      refine wpQuiet_nil ?_;intro Z B;have D:=kN B;clear B;have N:=Qh (I.out.trans (D.mono I.out.size))
      have J:Hid (∀p:pI Z,Calls Tryz.prog 47 #[.agg u.cs,.slice (some ⟨b1,o1,none⟩) (k+1) c] p.w' fun e w'=>e=.returned (.bool (Bb ((xs.map NP.m).take (k+1)) u.m))∧Below p.w'.heap.size p.w' w'):=Qh (fun p=>by
       have l:=D.trans (p.bel.mono D.size);have hm:=(T.out.below l).drop (show k+1≤n by omega);have:=Fa u (some ⟨b1,o1,none⟩) (k+1) c (xs.take (k+1)) p.w' (iA.out.below l) hm (by omega) (by rw[List.map_take];exact t.out);rw[List.map_take]at this
       exact this)
      obtain⟨q2,U⟩:∃q,Bb ((xs.map NP.m).take (k+1)) u.m=q:=⟨_,rfl⟩
      rw[U]at J;have g:=Qh U;have M:tc Z wr.heap.size 0 u:=Hv (nW (d.out.below D d.out.lt)) (Nat.lt_of_lt_of_le d.out.lt D.size);unfold NP.cs tH at J;unfold tc kX at M;simp only[Nat.zero_add]at M;have w1:IntKind.i64.wrap ((k:Int)+1)=(k:Int)+1:=by rw[IntKind.wrap_i64];omega
      have hkc:(k:Int)+1≤(c:Int):=by omega
      have Y:(0:Int)≤(k:Int)+1:=by omega
      have hkt:((k:Int)+1).toNat=k+1:=by omega
      clear D f U
      cases q2 with
      |false=>
       have E:Hid (r=false):=Qh (by
        rw[←b.out];refine rL (k:=k) (by rw[Qi,H.out];exact O) ?_
        rw[pf,L.out,g.out,Bool.and_false])
       go_wp2_with fail
       refine cA (by kernel_rfl) (by kernel_rfl) ?_
       repeat (quiet_step (first
        |(go_at_call 47;exact Calls.pT (J.out _))))
       refine wpQuiet_nil ?_;intro wz B;have A:=kN B;clear B;have F:=Qh (N.out.trans (A.mono N.out.size));clear A M;go_wp2;go_ret;exact⟨by rw[E.out];rfl,F.out⟩
      |true=>
       have Ir:Hid (∀j,j<k+1→rZ (xs.map NP.m) j=true):=Qh (fun j X=>by
        rcases Nat.lt_succ_iff_lt_or_eq.1 X with h|rfl
        ·exact hG.out j h
        ·rw[pf,DN.out,L.out,g.out];rfl)
       go_wp2_with fail
       refine cA (by kernel_rfl) (by kernel_rfl) ?_
       repeat (quiet_step (first
        |(go_at_call 47;exact Calls.pT (J.out _))))
       refine wpQuiet_nil ?_;intro wz B;have A:=kN B;clear B;have F:=Qh (N.out.trans (A.mono N.out.size));clear A M;go_wp2;go_roundw
       case rel=>exact⟨k+1,by omega,by go_num,t,Ir,F⟩
       case measure=>simp[RowKit.intOf];omega
     ·have jM:k - 1<n:=by omega
      obtain⟨b2,o2,OD,cj,kx,qU⟩:=T.out.kZ jM;simp only[Option.some.injEq,Addr.mk.injEq,and_true]at OD;obtain⟨rfl,rfl⟩:=OD;obtain⟨v,hv⟩:∃v,xs.getD (k - 1) aT=v:=⟨_,rfl⟩
      rw[hv]at qU;have R:Hid ((xs.map NP.m).getD (k - 1) iO=v.m):=Qh (by rw[uE,hv]);have sV:tc W b1 (o1+(k - 1)*9) v:=Hv qU cj;unfold tc kX at sV;have Wy:Hid (∀p:pI W,Calls Tryz.prog 45 #[.string (str v.m.path),.string (str u.m.path)] p.w' fun e w'=>e=.returned (.bool (j1 v.m.path u.m.path))∧p.w'=w'):=Qh (fun p=>Path.yi v.m.path u.m.path p.w');obtain⟨lt,V⟩:∃x,j1 v.m.path u.m.path=x:=⟨_,rfl⟩
      rw[V]at Wy;have Pp:=Qh V;have uj:(0:Int)<(k:Int):=by omega
      have cn:0<k:=by omega
      have aB1:(1:Int)≤(k:Int):=by omega
      have wk:IntKind.i64.wrap ((k:Int) - 1)=(k:Int) - 1:=by rw[IntKind.wrap_i64];omega
      have wk0:(0:Int)≤(k:Int) - 1:=by omega
      have wk2:(k:Int) - 1<(n:Int):=by omega
      have wk3:((k:Int) - 1).toNat=k - 1:=by omega
      clear hv qU kx cj V
      cases lt with
      |false=>
       have E:Hid (r=false):=Qh (by
        rw[←b.out];refine rL (k:=k) (by rw[Qi,H.out];exact O) ?_;rw[pf,stepT,L.out,R.out,Pp.out,y.out,decide_eq_false Y]
        rfl)
       refine cA (by kernel_rfl) (by kernel_rfl) ?_
       repeat (quiet_step (first
        |(go_at_call 46;exact Calls.pT (G.out _))
        |(go_at_call 45;exact Calls.tR (Wy.out _))))
       refine wpQuiet_nil ?_;intro Z B;have D:=kN B;clear B;have F:=Qh (I.out.trans (D.mono I.out.size));clear D f sV;go_wp2;go_ret;exact⟨by rw[E.out];rfl,F.out⟩
      |true=>
       have DN:Hid (stepT (xs.map NP.m) k=true):=Qh (by rw[stepT,L.out,R.out,Pp.out,y.out,Bool.or_true];rfl);have t:Hid (nz ((xs.map NP.m).take (k+1))):=Qh (vd (by rw[Qi,H.out];exact O) hS.out (.inr (by rw[L.out,R.out];exact Pp.out)));refine cA (by kernel_rfl) (by kernel_rfl) ?_
       repeat (quiet_step (first
        |(go_at_call 46;exact Calls.pT (G.out _))
        |(go_at_call 45;exact Calls.tR (Wy.out _))))
       refine wpQuiet_nil ?_;intro Z B;have D:=kN B;clear B;clear sV Y;have N:=Qh (I.out.trans (D.mono I.out.size))
       have J:Hid (∀p:pI Z,Calls Tryz.prog 47 #[.agg u.cs,.slice (some ⟨b1,o1,none⟩) (k+1) c] p.w' fun e w'=>e=.returned (.bool (Bb ((xs.map NP.m).take (k+1)) u.m))∧Below p.w'.heap.size p.w' w'):=Qh (fun p=>by
        have l:=D.trans (p.bel.mono D.size);have hm:=(T.out.below l).drop (show k+1≤n by omega);have:=Fa u (some ⟨b1,o1,none⟩) (k+1) c (xs.take (k+1)) p.w' (iA.out.below l) hm (by omega) (by rw[List.map_take];exact t.out);rw[List.map_take]at this
        exact this)
       obtain⟨q2,U⟩:∃q,Bb ((xs.map NP.m).take (k+1)) u.m=q:=⟨_,rfl⟩
       rw[U]at J;have g:=Qh U;have M:tc Z wr.heap.size 0 u:=Hv (nW (d.out.below D d.out.lt)) (Nat.lt_of_lt_of_le d.out.lt D.size);unfold NP.cs tH at J;unfold tc kX at M;simp only[Nat.zero_add]at M;have w1:IntKind.i64.wrap ((k:Int)+1)=(k:Int)+1:=by rw[IntKind.wrap_i64];omega
       have hkc:(k:Int)+1≤(c:Int):=by omega
       have Y:(0:Int)≤(k:Int)+1:=by omega
       have hkt:((k:Int)+1).toNat=k+1:=by omega
       clear D f U
       cases q2 with
       |false=>
        have E:Hid (r=false):=Qh (by
         rw[←b.out];refine rL (k:=k) (by rw[Qi,H.out];exact O) ?_
         rw[pf,L.out,g.out,Bool.and_false])
        go_wp2_with fail
        refine cA (by kernel_rfl) (by kernel_rfl) ?_
        repeat (quiet_step (first
         |(go_at_call 47;exact Calls.pT (J.out _))))
        refine wpQuiet_nil ?_;intro wz B;have A:=kN B;clear B;have F:=Qh (N.out.trans (A.mono N.out.size));clear A M;go_wp2;go_ret;exact⟨by rw[E.out];rfl,F.out⟩
       |true=>
        have Ir:Hid (∀j,j<k+1→rZ (xs.map NP.m) j=true):=Qh (fun j X=>by
         rcases Nat.lt_succ_iff_lt_or_eq.1 X with h|rfl
         ·exact hG.out j h
         ·rw[pf,DN.out,L.out,g.out];rfl)
        go_wp2_with fail
        refine cA (by kernel_rfl) (by kernel_rfl) ?_
        repeat (quiet_step (first
         |(go_at_call 47;exact Calls.pT (J.out _))))
        refine wpQuiet_nil ?_;intro wz B;have A:=kN B;clear B;have F:=Qh (N.out.trans (A.mono N.out.size));clear A M;go_wp2;go_roundw
        case rel=>exact⟨k+1,by omega,by go_num,t,Ir,F⟩
        case measure=>simp[RowKit.intOf];omega
   ·have uh:¬((k:Int)<(n:Int)):=by omega
    have E:Hid (r=true):=Qh (by
     rw[←b.out]
     exact LY (by rw[Qi,H.out];exact Um) (fun j X=>hG.out j (by rw[Qi,H.out]at X;omega)))
    go_wp2;go_ret;exact⟨by rw[E.out];rfl,z.out⟩
 ·have hbz:(4096:Int)<(n:Int):=by omega
  have E:Hid (r=false):=Qh (by
   rw[←b.out];unfold ja
   rw[Qi,H.out,decide_eq_false Um,Bool.false_and])
  go_wp2;go_ret;exact⟨by rw[E.out];rfl,Below.refl _ _⟩
end kY
namespace kY
theorem LZ {m:aB} (h:cf m=true):jN m.path=true:=by
 unfold cf at h;simp only[Bool.and_eq_true]at h;exact h.1.1.1.1
def StG (ms:List aB) (S:St):Prop:=∀e∈S,e.2<ms.length∧(ms.getD e.2 iJ).kind≠49∧jN e.1=true
theorem StG.put {ms:List aB} {S:St} (h:StG ms S) (hn:n<ms.length) (hk:(ms.getD n iJ).kind≠49) (hp:jN p=true):StG ms (oV S p n):=by
 intro e he;unfold oV at he;rw[List.mem_append,List.mem_filter]at he;rcases he with he|he
 ·exact h e he.1
 ·rw[List.mem_singleton.1 he]
  exact⟨hn,hk,hp⟩
theorem Sx (ms:List aB) (S:St) (hk:k<(jH S).length):(kT ms S).getD k iO=yp ms (jH S) ((jH S).getD k ([],0)):=by
 unfold kT;rw[List.getD,List.getElem?_map,List.getD,Qd hk];rfl
theorem vt (ms:List aB) (S:St):(kT ms S).length=S.length:=by
 unfold kT;rw[Qi,(tS S).length_eq]
end kY
namespace DY
open kY
def An (x:aC) (p:List UInt8):aB:=⟨x.path,p,49,x.mode,x.uid,x.gid,x.time,[]⟩
def nodeAt (t:List aC) (p:List UInt8):aC:=(oB t p).getD iO
structure LkS where
 led:List (List UInt8 × List UInt8)
 out:List aB
def MF (t:List aC) (s:LkS) (p:List UInt8):LkS:=
 let x:=nodeAt t p
 if x.kind=48 then
  match s.led.find? (fun e=>e.1==x.ao)with
  |some e=>⟨s.led,s.out++[An x e.2]⟩
  |none=>⟨s.led++[(x.ao,x.path)],s.out++[x.mem]⟩
 else⟨s.led,s.out++[x.mem]⟩
def Vc (t:List aC) (order:List (List UInt8)):LkS:=order.foldl (MF t) ⟨[],[]⟩
def kB (t:List aC) (order:List (List UInt8)):List aB:=(Vc t order).out
theorem Rl (t:List aC) (os:List (List UInt8)) (p:List UInt8):Vc t (os++[p])=MF t (Vc t os) p:=by
 unfold Vc;rw[List.foldl_append];rfl
def jh (t:List aC) (os:List (List UInt8)):Prop:=os.Perm (t.map (·.path))
def aV (t:List aC) (os:List (List UInt8)) (i:Nat):Nat:=
 if(nodeAt t (os.getD i [])).kind=48 then
  ((List.range (i+1)).find? fun j=>decide ((nodeAt t (os.getD j [])).kind=48)&&decide ((nodeAt t (os.getD j [])).ao=(nodeAt t (os.getD i [])).ao)).getD i
 else i
section
variable {t:List aC} {os:List (List UInt8)}
def IC (t:List aC) (os:List (List UInt8)) (i j:Nat):Prop:=(nodeAt t (os.getD j [])).kind=48∧(nodeAt t (os.getD i [])).kind=48∧(nodeAt t (os.getD j [])).ao=(nodeAt t (os.getD i [])).ao
theorem pS (h:(nodeAt t (os.getD i [])).kind=48):aV t os i≤i∧IC t os i (aV t os i)∧∀j,j<aV t os i→¬IC t os i j:=by
 unfold aV;rw[if_pos h]
 cases hf:(List.range (i+1)).find? (fun j=>decide ((nodeAt t (os.getD j [])).kind=48)&&decide ((nodeAt t (os.getD j [])).ao=(nodeAt t (os.getD i [])).ao))with
 |none=>
  have:=List.find?_eq_none.1 hf i (List.mem_range.2 (Nat.lt_succ_self _));rw[decide_eq_true h,decide_eq_true rfl]at this;exact absurd rfl this
 |some j=>
  obtain⟨h1,k,hk,e,B⟩:=List.find?_eq_some_iff_getElem.1 hf;rw[List.getElem_range]at e;rw[List.length_range]at hk;subst e;simp only[Bool.and_eq_true,decide_eq_true_eq]at h1;refine⟨by rw[Option.getD_some];omega,⟨by rw[Option.getD_some];exact h1.1,h,by rw[Option.getD_some];exact h1.2⟩,fun j A hs=>?_⟩;rw[Option.getD_some]at A;have:=B j A;rw[List.getElem_range]at this;simp only[Bool.not_eq_true',Bool.and_eq_false_iff,decide_eq_false_iff_not]at this;rcases this with h|h
  ·exact h hs.1
  ·exact h hs.2.2
theorem oe (h:(nodeAt t (os.getD i [])).kind≠48):aV t os i=i:=by
 unfold aV;rw[if_neg h]
theorem Nk (i:Nat):aV t os i≤i:=by
 by_cases h:(nodeAt t (os.getD i [])).kind=48
 ·exact(pS h).1
 ·rw[oe h];exact Qk _
theorem Dn {j:Nat} (h:IC t os i j):aV t os i=aV t os j:=by
 obtain⟨D,a2,a3⟩:=pS (t:=t) (os:=os) (i:=i) h.2.1;obtain⟨b1,A,B⟩:=pS (t:=t) (os:=os) (i:=j) h.1;rcases Nat.lt_trichotomy (aV t os i) (aV t os j)with ay|he|ay
 ·exact absurd ⟨a2.1,h.1,a2.2.2.trans h.2.2.symm⟩ (B _ ay)
 ·exact he
 ·exact absurd ⟨A.1,h.2.1,A.2.2.trans h.2.2⟩ (a3 _ ay)
theorem BJ (i:Nat):aV t os (aV t os i)=aV t os i:=by
 by_cases h:(nodeAt t (os.getD i [])).kind=48
 ·exact(Dn (pS h).2.1).symm
 ·rw[oe h,oe h]
theorem yF (i:Nat):(nodeAt t (os.getD (aV t os i) [])).kind=(nodeAt t (os.getD i [])).kind:=by
 by_cases h:(nodeAt t (os.getD i [])).kind=48
 ·rw[(pS h).2.1.1,h]
 ·rw[oe h]
def km (t:List aC) (os:List (List UInt8)) (i:Nat):aB:=
 if aV t os i=i then(nodeAt t (os.getD i [])).mem else An (nodeAt t (os.getD i [])) (os.getD (aV t os i) [])
end
section
variable {t:List aC} {os:List (List UInt8)}
theorem rN (h:p∈t.map (·.path)):(nodeAt t p).path=p∧nodeAt t p∈t:=by
 obtain⟨x,B,rfl⟩:=List.mem_map.1 h;unfold nodeAt
 cases hf:oB t x.path with
 |none=>
  unfold oB at hf;have:=List.find?_eq_none.1 hf x B;simp at this
 |some y=>
  unfold oB at hf;have D:=List.find?_some hf;have A:(y.path==x.path)=true:=D;exact⟨by simpa using A,List.mem_of_find?_eq_some hf⟩
def Oi (t:List aC) (os:List (List UInt8)) (n:Nat):List (List UInt8 × List UInt8):=
 ((List.range n).filter fun i=>decide ((nodeAt t (os.getD i [])).kind=48)&&decide (aV t os i=i)).map fun i=>((nodeAt t (os.getD i [])).ao,(nodeAt t (os.getD i [])).path)
theorem OU (hp:∀p∈os,p∈t.map (·.path)):∀n,n≤os.length→Vc t (os.take n)=⟨Oi t os n,(List.range n).map (km t os)⟩
 |0,_=>rfl
 |n+1,h=>by
  have W:=OU hp n (by omega);have M:n<os.length:=by omega
  have N:os.getD n []=os[n]:=by rw[List.getD,Qd M];rfl
  have T:(nodeAt t (os.getD n [])).path=os.getD n []:=(rN (hp _ (by rw[N];exact List.getElem_mem M))).1;rw[List.take_succ_eq_append_getElem M,Rl,W,←N];unfold MF
  dsimp only
  rw[List.range_succ,List.map_append];unfold Oi;rw[List.range_succ,List.filter_append,List.map_append]
  by_cases hk:(nodeAt t (os.getD n [])).kind=48
  ·rw[if_pos hk]
   obtain⟨c,O,Y⟩:=pS (t:=t) (os:=os) (i:=n) hk
   by_cases D:aV t os n=n
   ·have E:(((List.range n).filter fun i=>decide ((nodeAt t (os.getD i [])).kind=48)&&decide (aV t os i=i)).map fun i=>((nodeAt t (os.getD i [])).ao,(nodeAt t (os.getD i [])).path)).find? (fun e=>e.1==(nodeAt t (os.getD n [])).ao)=none:=by
     rw[List.find?_eq_none];intro e he;obtain⟨i,hi,rfl⟩:=List.mem_map.1 he;rw[List.mem_filter,List.mem_range]at hi;obtain⟨L,A⟩:=hi;simp only[Bool.and_eq_true,decide_eq_true_eq]at A;intro hc;have R:(nodeAt t (os.getD i [])).ao=(nodeAt t (os.getD n [])).ao:=by simpa using hc
     exact Y i (by omega) ⟨A.1,hk,R⟩
    rw[E]
    dsimp only
    have hm:km t os n=(nodeAt t (os.getD n [])).mem:=by unfold km;rw[if_pos D]
    have B:[n].filter (fun i=>decide ((nodeAt t (os.getD i [])).kind=48)&&decide (aV t os i=i))=[n]:=by
     rw[List.filter_cons_of_pos (by rw[decide_eq_true hk,decide_eq_true D];rfl),List.filter_nil]
    rw[B,List.map_cons,List.map_nil,List.map_cons,List.map_nil,hm]
   ·have U:aV t os n<n:=by omega
    have G:∃e,(((List.range n).filter fun i=>decide ((nodeAt t (os.getD i [])).kind=48)&&decide (aV t os i=i)).map fun i=>((nodeAt t (os.getD i [])).ao,(nodeAt t (os.getD i [])).path)).find? (fun e=>e.1==(nodeAt t (os.getD n [])).ao)=some e∧e.2=os.getD (aV t os n) []:=by
     cases hf:(((List.range n).filter fun i=>decide ((nodeAt t (os.getD i [])).kind=48)&&decide (aV t os i=i)).map fun i=>((nodeAt t (os.getD i [])).ao,(nodeAt t (os.getD i [])).path)).find? (fun e=>e.1==(nodeAt t (os.getD n [])).ao)with
     |none=>
      exfalso
      have X:((nodeAt t (os.getD (aV t os n) [])).ao,(nodeAt t (os.getD (aV t os n) [])).path)∈(((List.range n).filter fun i=>decide ((nodeAt t (os.getD i [])).kind=48)&&decide (aV t os i=i)).map fun i=>((nodeAt t (os.getD i [])).ao,(nodeAt t (os.getD i [])).path)):=
       List.mem_map.2 ⟨aV t os n,List.mem_filter.2 ⟨List.mem_range.2 U,by rw[decide_eq_true O.1,decide_eq_true (BJ n)];rfl⟩,rfl⟩
      have:=List.find?_eq_none.1 hf _ X;apply this;show((nodeAt t (os.getD (aV t os n) [])).ao==(nodeAt t (os.getD n [])).ao)=true;rw[O.2.2];exact beq_self_eq_true _
     |some e=>
      have h1:=List.mem_of_find?_eq_some hf;have b:=List.find?_some hf;have V:(e.1==(nodeAt t (os.getD n [])).ao)=true:=b;obtain⟨i,hi,rfl⟩:=List.mem_map.1 h1;rw[List.mem_filter,List.mem_range]at hi;obtain⟨L,A⟩:=hi;simp only[Bool.and_eq_true,decide_eq_true_eq]at A;have hl:(nodeAt t (os.getD i [])).ao=(nodeAt t (os.getD n [])).ao:=by simpa using V
      have hs:IC t os n i:=⟨A.1,hk,hl⟩
      refine⟨_,rfl,?_⟩;show(nodeAt t (os.getD i [])).path=_;have Z:aV t os n=i:=(Dn hs).trans A.2;rw[Z];have J:os.getD i []=os[i]'(by omega):=by rw[List.getD,Qd (by omega)];rfl
      exact(rN (hp _ (by rw[J];exact List.getElem_mem _))).1
    obtain⟨e,H,I⟩:=G;rw[H]
    dsimp only
    have hm:km t os n=An (nodeAt t (os.getD n [])) e.2:=by unfold km;rw[if_neg D,I]
    have B:[n].filter (fun i=>decide ((nodeAt t (os.getD i [])).kind=48)&&decide (aV t os i=i))=[]:=by
     rw[List.filter_cons_of_neg (by rw[decide_eq_false D];simp),List.filter_nil]
    rw[B,List.map_nil,List.append_nil,List.map_cons,List.map_nil,hm]
  ·rw[if_neg hk]
   have hm:km t os n=(nodeAt t (os.getD n [])).mem:=by unfold km;rw[if_pos (oe hk)]
   have B:[n].filter (fun i=>decide ((nodeAt t (os.getD i [])).kind=48)&&decide (aV t os i=i))=[]:=by
    rw[List.filter_cons_of_neg (by rw[decide_eq_false hk];simp),List.filter_nil]
   rw[B,List.map_nil,List.append_nil,List.map_cons,List.map_nil,hm]
theorem zq (hp:∀p∈os,p∈t.map (·.path)):kB t os=(List.range os.length).map (km t os):=by
 have:=OU hp os.length (Qk _);rw[List.take_of_length_le (Qk _)]at this;unfold kB;rw[this]
end
end DY
namespace kY
open Go.ChangeShapes Go.WideShapes Go.ChangeAt Go.RowKit Base cb iK Bk Block Go.Lib
def qC (w:World) (n:Nat) (bs:List UInt8) (e:Ending) (w':World):Prop:=
 ∃p c,e=.returned (.slice p n c)∧n≤c∧c≤maxLen∧iC w' p n bs∧(∀x,p=some x→w.heap.size≤x.block)∧Below w.heap.size w w'
theorem sv (p:Option Addr) (n c:Nat) (bs:List UInt8) (w:World) (h:iC w p n bs) (hl:bs.length=n) (hn:n≤140737488351232):
 Calls Tryz.prog 49 #[.slice p n c] w (qC w n bs):=by
 obtain⟨i0,hi,T,N,O⟩:=info_parts qZ;have U:=Qh hi;have b:=Qh T;have Z:=Qh N;have Y:=Qh O;have D:=Qh h;have E:=Qh hl;have d:∀w,(binOp .eql 26 (.slice p n c) (.slice none 0 0)).run Tryz.prog w=.ok (.bool p.isNone) w:=fun w=>Lib.run_eql_slice_nil w 26 5 p n c 0 0 Tryz.underlying26
 clear hi T N O h hl
 go_enter Tryz.func49,Tryz.ntmps49
 cases p with
 |none=>
  have h0:n=0:=by
   rcases Nat.eq_zero_or_pos n with h0|h0
   ·exact h0
   ·obtain⟨_,_,he,_⟩:=D.out h0
    cases he
  subst h0;go_wp2;go_ret;have V:bs=[]:=List.eq_nil_of_length_eq_zero E.out;subst V;exact⟨none,0,rfl,Qk _,by decide,iC.none_ _ _,(fun x h=>by cases h),Below.refl _ _⟩
 |some a=>
  go_wp2_with (at_builtin;refine kt rfl _ _ 26 rfl w.heap.size 5 i0 Tryz.underlying26 U.out b.out Z.out Y.out _ 0 [] rfl (World.ownsRow_made w #[] 0 (Qk _) (by decide) rfl) (some a) n c bs rfl (D.out.alloc _) E.out ?d2 ?d3 ?_)
  case d2=>omega
  case d3=>simp
  intro v2 w2 J L;have B:j3 w2 w.heap.size v2 n bs:=by simpa [j3]using J
  have R:Kept ag w w2:=(((Kept.refl ag w).alloc _)).grown L (by intro k hk;simp[Value.ownBlock]at hk;omega);have G:Below w.heap.size w w2:=R.below (Qk _) (fun _ h=>h.elim);obtain⟨X,c2,rfl,H,I,M,_,A⟩:=B.slice;have P:=Qh (And.intro H (And.intro I (And.intro M (And.intro A G))));clear J L B R G H I M A;go_wp2;go_ret;exact⟨X,c2,rfl,P.out.1,P.out.2.1,P.out.2.2.1,fun x W=>(P.out.2.2.2.1 x W).1,P.out.2.2.2.2⟩
theorem lj {t:List aC} (h:ja t=true):nz t:=by
 simp only[ja,Bool.and_eq_true,List.all_eq_true,List.mem_range]at h
 have key:∀k,k≤t.length→nz (t.take k):=fun k=>by
  induction k with
  |zero=>exact fun _=>List.Pairwise.nil
  |succ k ih=>
   intro hk;have:=h.2 k (by omega);rw[pf,Bool.and_eq_true,stepT,Bool.and_eq_true,Bool.or_eq_true]at this;refine vd (by omega) (ih (by omega)) ?_;rcases this.1.2 with h1|h1
   ·exact .inl (of_decide_eq_true h1)
   ·exact .inr h1
 have:=key t.length (Qk _)
 rwa [List.take_length]at this
end kY
namespace DY
open kY
section
variable {t:List aC} {os:List (List UInt8)}
theorem Am (hg:ja t=true) (hk:k<t.length):rZ t k=true:=by
 unfold ja at hg;simp only[Bool.and_eq_true,List.all_eq_true,List.mem_range]at hg;exact hg.2 k hk
theorem vE (hk:k<t.length):t.getD k iO=t[k]:=by rw[List.getD,Qd hk];rfl
theorem oa (hg:ja t=true) {x:aC} (hx:x∈t):x.kind≠49∧cf x.mem=true∧(x.kind≠48→x.ao=[]):=by
 obtain⟨k,hk,rfl⟩:=List.mem_iff_getElem.1 hx;have h:=Am hg hk;unfold rZ tB at h
 dsimp only at h
 rw[vE hk]at h;simp only[Bool.and_eq_true,decide_eq_true_eq]at h;refine⟨h.1.1.1,h.1.1.2,fun B=>?_⟩;have A:=h.2;unfold Bb at A;rw[if_neg B]at A;exact of_decide_eq_true A
theorem rO (hg:ja t=true) {x:aC} (hx:x∈t):nodeAt t x.path=x:=by
 obtain⟨k,hk,rfl⟩:=List.mem_iff_getElem.1 hx;unfold nodeAt;rw[Dv (lj hg) hk (by rw[vE hk]),Option.getD_some,vE hk]
theorem tq (hg:ja t=true) {x:aC} (hx:x∈t) (nD:x.kind=48):∃y∈t,y.path=x.ao∧y.kind=48∧y.ao=y.path∧(y.mode=x.mode∧y.uid=x.uid∧y.gid=x.gid∧y.time=x.time)∧y.body=x.body∧(y=x∨j1 y.path x.path=true):=by
 obtain⟨k,hk,rfl⟩:=List.mem_iff_getElem.1 hx;have h:=Am hg hk;unfold rZ at h
 dsimp only at h
 rw[vE hk]at h;rw[Bool.and_eq_true]at h;have A:=h.2;unfold Bb at A;rw[if_pos nD]at A
 cases hf:oB (t.take (k+1)) t[k].ao with
 |none=>rw[hf]at A;cases A
 |some y=>
  rw[hf]at A;unfold ag9 at A;simp only[Bool.and_eq_true,decide_eq_true_eq]at A;unfold oB at hf;have hy:=List.mem_of_find?_eq_some hf;have B:=List.find?_some hf;have H:(y.path==t[k].ao)=true:=B;obtain⟨j,G,e⟩:=List.mem_iff_getElem.1 hy;rw[Qg]at G;rw[List.getElem_take]at e;refine⟨y,List.mem_of_mem_take hy,by simpa using H,A.1,A.2.1,A.2.2.1,A.2.2.2,?_⟩;rcases Nat.lt_or_ge j k with E|SS
  ·right
   have:=pz (lj hg) E hk;rw[vE hk,vE (show j<t.length by omega),e]at this;exact this
  ·left
   have D:j=k:=by omega
   subst D;exact e.symm
theorem Aj {m:aB} (h:cf m=true) (hk:m.kind=48):m.target=[]:=by
 unfold cf at h;simp only[Bool.and_eq_true]at h;have A:=h.2;rw[if_pos (.inl hk)]at A
 simpa using A
theorem LA (hg:ja t=true) {x y:aC} (hx:x∈t) (hy:y∈t) (h1:x.kind=48) (h2:y.kind=48) (hl:y.ao=x.ao):x=j8 x.path y.mem x.ao:=by
 obtain⟨a,ha,D,a2,a3,a4,a5,_⟩:=tq hg hx h1;obtain⟨b,G,b1,H,I,A,E,_⟩:=tq hg hy h2;have B:a=b:=by rw[←rO hg ha,←rO hg G,D,b1,hl]
 subst B;have t1:=Aj (oa hg hx).2.1 h1;have t2:=Aj (oa hg hy).2.1 h2
 cases x
 cases y
 simp only[aC.mem]at*;simp only[j8,aC.mk.injEq];refine⟨trivial,t1.trans t2.symm,trivial,h1.trans h2.symm,?_,?_,?_,?_,?_⟩
 ·exact a4.1.symm.trans A.1
 ·exact a4.2.1.symm.trans A.2.1
 ·exact a4.2.2.1.symm.trans A.2.2.1
 ·exact a4.2.2.2.symm.trans A.2.2.2
 ·exact a5.symm.trans E
theorem uS (hg:ja t=true) (ho:jh t os):os.Nodup:=by
 refine ho.nodup_iff.2 ?_;unfold List.Nodup;rw[List.pairwise_map];exact(lj hg).imp fun h=>CQ h
theorem vO (ho:jh t os):∀p∈os,p∈t.map (·.path):=fun p A=>ho.mem_iff.1 A
theorem qH (ho:jh t os) (hi:i<os.length):nodeAt t (os.getD i [])∈t∧(nodeAt t (os.getD i [])).path=os.getD i []:=by
 have h:os.getD i []∈t.map (·.path):=by
  refine vO ho _ ?_;rw[List.getD,Qd hi];exact List.getElem_mem hi
 exact⟨(rN h).2,(rN h).1⟩
theorem xk (ho:jh t os):(kB t os).length=os.length:=by rw[zq (vO ho)];simp
theorem tF (ho:jh t os) (hi:i<os.length):(kB t os).getD i iJ=km t os i:=by
 rw[zq (vO ho),List.getD,List.getElem?_map,List.getElem?_range hi];rfl
theorem QL {x:aC} (h:cf x.mem=true) (hp:jN p=true):cf (An x p)=true:=by
 unfold cf at h⊢;simp only[Bool.and_eq_true]at h⊢;refine⟨⟨⟨⟨h.1.1.1.1,h.1.1.1.2⟩,decide_eq_true (Nat.zero_le _)⟩,by show((49:UInt8)==48||([]:List UInt8)==[])=true;decide⟩,?_⟩;show(if(49:UInt8)=48∨(49:UInt8)=53 then p==[]else if(49:UInt8)=49 then jN p else if(49:UInt8)=50 then _ else false)=true;rw[if_neg (by decide),if_pos rfl];exact hp
theorem MG (hg:ja t=true) (ho:jh t os) (hi:i<os.length):cf (km t os i)=true:=by
 have B:=qH ho hi;unfold km;split
 ·exact(oa hg B.1).2.1
 ·have A:=qH ho (show aV t os i<os.length from Nat.lt_of_le_of_lt (Nk i) hi)
  refine QL (oa hg B.1).2.1 ?_;rw[←A.2];exact LZ (oa hg A.1).2.1
theorem CL (hg:ja t=true) (ho:jh t os):∀m∈kB t os,cf m=true:=fun m hm=>by
 rw[zq (vO ho)]at hm;obtain⟨i,hi,rfl⟩:=List.mem_map.1 hm;exact MG hg ho (List.mem_range.1 hi)
def Wb (t:List aC) (os:List (List UInt8)) (k:Nat):St:=(List.range k).map fun i=>(os.getD i [],aV t os i)
theorem FT (hn:os.Nodup) (hk:k≤os.length):nv (Wb t os k):=by
 unfold nv Wb;rw[List.map_map];unfold List.Nodup;rw[List.pairwise_iff_getElem];intro i j hi B A;rw[Qi,List.length_range]at hi B;rw[List.getElem_map,List.getElem_map,List.getElem_range,List.getElem_range];have:=(List.pairwise_iff_getElem.1 hn) i j (by omega) (by omega) A;show os.getD i []≠os.getD j [];rw[List.getD,List.getD,Qd (by omega),Qd (by omega)];exact this
theorem Pg (hn:os.Nodup) (hk:k<os.length):oV (Wb t os k) (os.getD k []) (aV t os k)=Wb t os (k+1):=by
 unfold oV Wb;rw[List.range_succ,List.map_append]
 congr 1
 refine List.filter_eq_self.2 fun e he=>?_
 obtain⟨i,hi,rfl⟩:=List.mem_map.1 he;rw[List.mem_range]at hi;have:=(List.pairwise_iff_getElem.1 hn) i k (by omega) (by omega) hi
 have A:os.getD i []≠os.getD k []:=by
  rw[List.getD,List.getD,Qd (by omega),Qd (by omega)];exact this
 simpa using A
theorem CN (hg:ja t=true) (ho:jh t os):∀k,k≤os.length→kJ (kB t os) k=.ok (Wb t os k)
 |0,_=>rfl
 |k+1,hk=>by
  have D:=uS hg ho;have A:k<os.length:=by omega
  have G:=qH ho A;refine tE (CN hg ho k (by omega)) ?_;unfold pj
  dsimp only
  rw[tF ho A]
  by_cases B:aV t os k=k
  ·have hm:km t os k=(nodeAt t (os.getD k [])).mem:=by unfold km;rw[if_pos B]
   rw[hm,if_neg (show ¬(nodeAt t (os.getD k [])).mem.kind=49 from(oa hg G.1).1)];have:=Pg (t:=t) D A;rw[B]at this;show some (oV _ (nodeAt t (os.getD k [])).path k)=_;rw[G.2,this]
  ·have E:aV t os k<k:=by have:=Nk (t:=t) (os:=os) k;omega
   have hm:km t os k=An (nodeAt t (os.getD k [])) (os.getD (aV t os k) []):=by unfold km;rw[if_neg B]
   have I:(nodeAt t (os.getD k [])).kind=48:=by
    by_cases h:(nodeAt t (os.getD k [])).kind=48
    ·exact h
    ·exact absurd (oe h) B
   rw[hm,if_pos (show(An (nodeAt t (os.getD k [])) (os.getD (aV t os k) [])).kind=49 from rfl)]
   have hl:kY.look (Wb t os k) (An (nodeAt t (os.getD k [])) (os.getD (aV t os k) [])).target=some (aV t os k):=by
    have J:(os.getD (aV t os k) [],aV t os (aV t os k))∈Wb t os k:=List.mem_map.2 ⟨aV t os k,List.mem_range.2 E,rfl⟩;have:=JG (FT D (by omega)) J;rw[BJ]at this;exact this
   rw[hl]
   dsimp only
   have H:((kB t os).getD (aV t os k) iJ).kind=48:=by
    rw[tF ho (by omega)];have:km t os (aV t os k)=(nodeAt t (os.getD (aV t os k) [])).mem:=by unfold km;rw[if_pos (BJ k)]
    rw[this];exact(yF k).trans I
   rw[if_pos H];show some (oV _ (nodeAt t (os.getD k [])).path (aV t os k))=_;rw[G.2,Pg D A]
theorem JH {a b:List (List UInt8)} (ha:a.Pairwise fun x y=>j1 x y=true) (hb:b.Pairwise fun x y=>j1 x y=true) (h:a.Perm b):a=b:=
 List.Perm.eq_of_pairwise (fun x y _ _ (h1:j1 x y=true) (h2:j1 y x=true)=>by rw[yl h1]at h2;cases h2) ha hb h
theorem MD (hg:ja t=true) (ho:jh t os):kH (kB t os)=(t,0,0):=by
 have hn:=uS hg ho;have hS:=CN hg ho os.length (Qk _);have hA:=FT (t:=t) hn (Qk _);have e:=Cf (wR (CL hg ho)) (by rw[xk ho];exact hS);rw[e]
 congr 1
 obtain⟨T,m⟩:∃T,jH (Wb t os os.length)=T:=⟨_,rfl⟩
 have E:T.Perm (Wb t os os.length):=by rw[←m];exact tS _
 have I:EA T:=by rw[←m];exact Dz hA
 have rD:∀a∈T,∃i,i<os.length∧a=(os.getD i [],aV t os i):=fun a ha=>by
  obtain⟨i,hi,rfl⟩:=List.mem_map.1 (E.mem_iff.1 ha);exact⟨i,List.mem_range.1 hi,rfl⟩
 have d:T.map (·.1)=t.map (·.path):=by
  refine JH (List.pairwise_map.2 I) (List.pairwise_map.2 (lj hg)) ?_;refine(E.map _).trans (List.Perm.trans (List.Perm.of_eq ?_) ho);unfold Wb;rw[List.map_map];apply List.ext_getElem
  ·simp
  ·intro i h1 X
   simp only[List.getElem_map,List.getElem_range,Function.comp];rw[List.getD,Qd X];rfl
 have l:∀a∈T,yp (kB t os) T a=nodeAt t a.1:=fun a ha=>by
  obtain⟨i,hi,rfl⟩:=rD a ha;have V:aV t os i<os.length:=Nat.lt_of_le_of_lt (Nk i) hi;have G:=qH ho hi;have hr:=qH ho V
  have hm:(kB t os).getD (aV t os i) iJ=(nodeAt t (os.getD (aV t os i) [])).mem:=by
   rw[tF ho V];unfold km;rw[if_pos (BJ i)]
  unfold yp;rw[show((os.getD i [],aV t os i):List UInt8 × Nat).2=aV t os i from rfl,hm,show((os.getD i [],aV t os i):List UInt8 × Nat).1=os.getD i []from rfl]
  by_cases B:(nodeAt t (os.getD i [])).kind=48
  ·have D:(nodeAt t (os.getD (aV t os i) [])).kind=48:=(yF i).trans B
   have Z1:=pS (t:=t) (os:=os) B;have X1:=LA hg G.1 hr.1 B D Z1.2.1.2.2;rw[if_pos (show(nodeAt t (os.getD (aV t os i) [])).mem.kind=48 from D)]
   have g:ua T (aV t os i)=(nodeAt t (os.getD i [])).ao:=by
    obtain⟨y,hy,r,y2,y3,_,_,_⟩:=tq hg G.1 B;have q:y.path∈os:=ho.mem_iff.2 (List.mem_map_of_mem hy);obtain⟨a,u,ha⟩:=List.mem_iff_getElem.1 q;have M:os.getD a []=y.path:=by rw[List.getD,Qd u,Option.getD_some,ha]
    have R:nodeAt t (os.getD a [])=y:=by rw[M];exact rO hg hy
    have o:IC t os i a:=⟨by rw[R];exact y2,B,by rw[R,y3,r]⟩
    have Q4:aV t os i=aV t os a:=Dn o;have X0:(y.path,aV t os i)∈T:=E.mem_iff.2 (List.mem_map.2 ⟨a,List.mem_range.2 u,by rw[M,Q4]⟩);obtain⟨f,hf,L⟩:=List.mem_iff_getElem.1 X0;have N:T.getD f ([],0)=(y.path,aV t os i):=by rw[List.getD,Qd hf,Option.getD_some,L]
    have:=CI hf (fun j hj X=>by
     have Z:j<T.length:=by omega
     have Uv:T.getD j ([],0)=T[j]:=by rw[List.getD,Qd Z];rfl
     rw[N,Uv]at X;obtain⟨b,hb,J⟩:=rD T[j] (List.getElem_mem Z)
     have U:aV t os b=aV t os i:=by
      have:=congrArg Prod.snd J;rw[X]at this;exact this.symm
     have c:=qH ho hb
     have H:(nodeAt t (os.getD b [])).kind=48:=by
      rw[←yF (t:=t) (os:=os) b,U];exact D
     have oE:(nodeAt t (os.getD b [])).ao=(nodeAt t (os.getD i [])).ao:=by
      rw[←(pS (t:=t) (os:=os) H).2.1.2.2,U];exact Z1.2.1.2.2
     obtain⟨z,hz,z1,_,_,_,_,z6⟩:=tq hg c.1 H;have W:z.path=y.path:=by rw[z1,oE,r]
     have ay:=(List.pairwise_iff_getElem.1 I) j f Z hf hj;rw[L,J]at ay;have Y:j1 (os.getD b []) y.path=true:=ay;rcases z6 with z6|z6
     ·rw[←c.2,←z6,W,re]at Y
      cases Y
     ·rw[W,c.2,yl Y]at z6
      cases z6)
    rw[N]at this;exact this.trans r
   rw[g];have A:=G.2
   conv=>rhs;rw[X1,A]
  ·rw[if_neg (show ¬(nodeAt t (os.getD (aV t os i) [])).mem.kind=48 from fun h=>B ((yF i).symm.trans h)),oe B]
   have O:=(oa hg G.1).2.2 B;have A:=G.2;obtain⟨x,p⟩:∃x,nodeAt t (os.getD i [])=x:=⟨_,rfl⟩
   rw[p]at A O⊢;rw[←A];exact O0 rfl O.symm
 unfold kT;rw[m,List.map_congr_left l];have:T.map (fun a=>nodeAt t a.1)=(T.map (·.1)).map (nodeAt t):=by rw[List.map_map];rfl
 rw[this,d,List.map_map]
 conv=>rhs;rw[←List.map_id t]
 exact List.map_congr_left fun x G=>rO hg G
end
section
variable {t:List aC} {os:List (List UInt8)}
end
theorem wI:∀(a b:List (List UInt8)),a.Nodup→(∀x∈a,x∈b)→b.length≤a.length→a.Perm b
 |[],b,_,_,hl=>by
  have:b=[]:=List.eq_nil_of_length_eq_zero (Nat.le_zero.1 hl);rw[this]
 |x::a,b,hn,hs,hl=>by
  rw[List.nodup_cons]at hn;have D:x∈b:=hs x (List.mem_cons_self ..);have A:=List.perm_cons_erase D
  have hlen:(b.erase x).length≤a.length:=by
   have:=A.length_eq;simp only[List.length_cons]at this hl;omega
  refine List.Perm.trans (List.Perm.cons x (wI a (b.erase x) hn.2 (fun y hy=>?_) hlen)) A.symm;have B:y≠x:=fun e=>hn.1 (by rw[←e];exact hy)
  exact(List.mem_erase_of_ne B).2 (hs y (List.mem_cons_of_mem _ hy))
theorem vN {t:List aC} (hg:ja t=true) (os:List (List UInt8)):jh t os↔os.length=t.length∧(∀p∈os,(oB t p).isSome=true)∧os.Nodup:=by
 constructor
 ·intro h
  refine⟨by have:=h.length_eq;rwa [Qi]at this,fun p A=>?_,uS hg h⟩;obtain⟨x,B,rfl⟩:=List.mem_map.1 (h.mem_iff.1 A);unfold oB;rw[List.find?_isSome];exact⟨x,B,by simp⟩
 ·rintro⟨h1,h2,h3⟩
  refine wI os _ h3 (fun p A=>?_) (by rw[Qi];omega);have:=h2 p A;unfold oB at this;rw[List.find?_isSome]at this;obtain⟨x,B,he⟩:=this;exact List.mem_map.2 ⟨x,B,by simpa using he⟩
end DY
namespace Xe
open Go.Lib kY DY Rec Attr
def rm (t:List aC):List (List UInt8):=t.map (·.path)
def rh (t:List aC):List aB:=kB t (rm t)
def yx (t:List aC):List UInt8:=EC (rh t)
def nO (bs:List UInt8):List aC × Int × Nat:=
 if(cu bs).2.1=0 then kH (cu bs).1 else([],(cu bs).2.1,(cu bs).2.2)
def tP (ms:List aB):Bool:=(List.range ms.length).all fun i=>decide (i=0)||j1 (ms.getD (i - 1) iJ).path (ms.getD i iJ).path
def AG (ms:List aB) (k:Nat):Bool:=(List.range k).all fun i=>decide (i=0)||j1 (ms.getD (i - 1) iJ).path (ms.getD i iJ).path
theorem R6 (ms:List aB):AG ms 1=true:=rfl
theorem Nl (ms:List aB) (k:Nat) (hk:k≠0):AG ms (k+1)=(AG ms k&&j1 (ms.getD (k - 1) iJ).path (ms.getD k iJ).path):=by
 unfold AG;rw[List.range_succ,List.all_append,List.all_cons,List.all_nil,Bool.and_true,decide_eq_false hk,Bool.false_or]
theorem R4 (ms:List aB):AG ms ms.length=tP ms:=rfl
theorem VX {ms:List aB} (h:tP ms=true) (k:Nat) (hk:k≤ms.length):AG ms k=true:=by
 unfold tP at h;unfold AG;rw[List.all_eq_true]at h⊢;intro i hi;exact h i (List.mem_range.2 (by have:=List.mem_range.1 hi;omega))
section
variable {t:List aC}
theorem rP (t:List aC):jh t (rm t):=List.Perm.refl _
theorem xm (t:List aC):(rm t).length=t.length:=by unfold rm;rw[Qi]
theorem M4 (hi:i<t.length):(rm t).getD i []=t[i].path:=by
 unfold rm;rw[List.getD,List.getElem?_map,Qd hi];rfl
theorem yn (t:List aC):(rh t).length=t.length:=by unfold rh;rw[xk (rP t),xm]
theorem wG (hg:ja t=true):∀m∈rh t,cf m=true:=CL hg (rP t)
theorem tG (hg:ja t=true):(rh t).length≤4096:=by
 rw[yn];unfold ja at hg;simp only[Bool.and_eq_true,decide_eq_true_eq]at hg;exact hg.1
theorem Kx (hg:ja t=true):nO (yx t)=(t,0,0):=by
 have h:=RR (fun m hm=>qT (wG hg m hm)) (tG hg) 0;rw[List.replicate_zero,List.append_nil]at h;unfold nO yx;rw[h,if_pos rfl];exact MD hg (rP t)
theorem Ud (hg:ja t=true):t.length≤4096:=by
 have:=tG hg
 rwa [yn]at this
end
end Xe
namespace DY
open Go.ChangeShapes Go.WideShapes Go.ChangeAt Go.RowKit Base cb iK Bk Rec Block kY Go.Lib
def MV (t:List aC) (os:List (List UInt8)):Bool:=decide (os.length=t.length)&&(os.all (fun p=>(oB t p).isSome)&&decide os.Nodup)
theorem C8 {t:List aC} (hg:ja t=true) (os:List (List UInt8)):MV t os=true↔jh t os:=by
 rw[vN hg];simp only[MV,Bool.and_eq_true,decide_eq_true_eq,List.all_eq_true]
def lmD (t:List aC) (os:List (List UInt8)):List aB × Int:=if MV t os=true then(kB t os,0)else([],1)
def xH (w:World) (r:List aB × Int) (e:Ending) (w':World):Prop:=
 ∃q d ys,e=.returned (.tuple #[.slice q r.1.length d,.int .i64 r.2])∧ys.map MP.m=r.1∧jI w' q r.1.length ys∧r.1.length≤d∧d≤maxLen∧Below w.heap.size w w'
def ac1 (w:World) (q:Option Addr) (n:Nat) (cc:List (List (List UInt8))):Prop:=
 cc.length=n∧∃ps:List (Option Addr × Nat),ps.length=n∧(∀i,i<n→yS w (ps.getD i (none,0)).1 (cc.getD i []).length (cc.getD i []))∧
  (0<n→∃b o,q=some ⟨b,o,none⟩∧b<w.heap.size∧∀i,i<n→w.cell? ⟨b,o+i,none⟩=some (.slice (ps.getD i (none,0)).1 (cc.getD i []).length (ps.getD i (none,0)).2))
theorem ac1.below {q:Option Addr} {cc:List (List (List UInt8))} (h:ac1 w q n cc) (hb:Below w.heap.size w w'):ac1 w' q n cc:=by
 obtain⟨h1,ps,D,E,G⟩:=h;refine⟨h1,ps,D,fun i hi=>(E i hi).below hb,fun B=>?_⟩;obtain⟨b,o,rfl,A,hc⟩:=G B;refine⟨b,o,rfl,Nat.lt_of_lt_of_le A hb.size,fun i hi=>?_⟩;rw[hb.cell (p:=⟨b,o+i,none⟩) A];exact hc i hi
structure xI (w:World) (p:Option Addr) (n c:Nat) (xs:List NP):Prop where
 at_:bU w p n xs
 nc:n≤c
 cm:c≤maxLen
 few:n≤100000
 room:∀x∈xs,x.m.path.length≤140737488351232∧x.m.target.length≤140737488351232∧x.m.ao.length≤140737488351232∧x.m.body.length≤140737488351232
 ad6:ja (xs.map NP.m)=true
theorem xI.below {p:Option Addr} {c:Nat} {xs:List NP} (h:xI w p n c xs) (hb:Below w.heap.size w w'):xI w' p n c xs:=⟨h.at_.below hb,h.nc,h.cm,h.few,h.room,h.ad6⟩
structure N8 (w:World) (p:Option Addr) (n c:Nat) (os:List (List UInt8)):Prop where
 at_:yS w p n os
 nc:n≤c
 cm:c≤maxLen
 few:n≤100000
 room:∀s∈os,s.length≤140737488351232
structure Ey (w:World) (p:Option Addr) (n c:Nat) (xs:List MP):Prop where
 at_:jI w p n xs
 nc:n≤c
 cm:c≤maxLen
 few:n≤100000
 room:∀x∈xs,x.m.path.length≤140737488351232∧x.m.target.length≤140737488351232∧x.m.body.length≤140737488351232
end DY
namespace Xe
open Go.ChangeShapes Go.WideShapes Go.ChangeAt Go.RowKit Base cb iK Bk Rec kY DY Go.Lib
structure BU (w:World) (p:Option Addr) (n c:Nat) (xs:List NP):Prop where
 at_:bU w p n xs
 nc:n≤c
 cm:c≤maxLen
 room:∀x∈xs,x.m.path.length≤140737488351232∧x.m.target.length≤140737488351232∧x.m.ao.length≤140737488351232∧x.m.body.length≤140737488351232
theorem BU.below {p:Option Addr} {c:Nat} {xs:List NP} (h:BU w p n c xs) (hb:Below w.heap.size w w'):BU w' p n c xs:=⟨h.at_.below hb,h.nc,h.cm,h.room⟩
def xJ (w:World) (t:List aC) (e:Ending) (w':World):Prop:=
 (ja t=true∧∃p c,e=.returned (.tuple #[.slice p (yx t).length c,.int .i64 0])∧(yx t).length≤c∧c≤maxLen∧iC w' p (yx t).length (yx t)∧Below w.heap.size w w')∨
 (ja t=false∧∃p c,e=.returned (.tuple #[.slice p 0 c,.int .i64 1])∧Below w.heap.size w w')
def Bj (w:World) (bs:List UInt8) (e:Ending) (w':World):Prop:=
 ∃q d zs,e=.returned (.tuple #[.slice q zs.length d,.agg #[.int .i64 (nO bs).2.1,.int .i64 ((nO bs).2.2:Nat)]])∧zs.map NP.m=(nO bs).1∧bU w' q zs.length zs∧zs.length≤d∧d≤maxLen∧Below w.heap.size w w'
structure EmitC:Prop where
 pack:∀(w:World) (p:Option Addr) (n c:Nat) (xs:List NP),BU w p n c xs→Need w→Calls Tryz.prog 10 #[.slice p n c] w (xJ w (xs.map NP.m))
 unpack:∀(w:World) (p:Option Addr) (n c:Nat) (bs:List UInt8) (q:Option Addr) (m d:Nat) (zs:List Int),iC w p n bs→bs.length=n→n≤140737488351232→N4 w q m zs→zs.length=m→m*8≤140737488351232→Need w→Calls Tryz.prog 13 #[.slice p n c,.slice q m d] w (Bj w bs)
 sorted:∀(w:World) (p:Option Addr) (n c:Nat) (xs:List MP),Ey w p n c xs→Need w→Calls Tryz.prog 19 #[.slice p n c] w fun e w'=>e=.returned (.bool (tP (xs.map MP.m)))∧Below w.heap.size w w'
theorem UR (w:World):N4 w none 0 []:=fun h=>by omega
end Xe
namespace DY
open kY
def tY (xs:List NP) (p:List UInt8):Option NP:=xs.find? fun y=>decide (y.m.path=p)
def qb (xs:List NP) (os:List (List UInt8)) (k:Nat) (p:List UInt8):Option NP:=if p∈os.take k then none else tY xs p
section
variable {xs:List NP} {os:List (List UInt8)} {k:Nat}
theorem ze (p:List UInt8):(tY xs p).map NP.m=oB (xs.map NP.m) p:=by
 unfold tY oB;rw[List.find?_map]
 congr 2
 funext y
 show decide (y.m.path=p)=(y.m.path==p)
 by_cases h:y.m.path=p<;>simp[h]
theorem Br (hk:k<xs.length):xs.getD k aT=xs[k]:=by rw[List.getD,Qd hk];rfl
theorem LN (hr:nz (xs.map NP.m)) (hk:k<xs.length):tY (xs.take (k+1))=fun p=>if p=(xs.getD k aT).m.path then some (xs.getD k aT)else tY (xs.take k) p:=by
 funext p
 unfold tY;rw[List.take_succ_eq_append_getElem hk,List.find?_append,←Br hk,List.find?_cons]
 by_cases A:p=(xs.getD k aT).m.path
 ·rw[if_pos A,A,decide_eq_true rfl]
  have:(xs.take k).find? (fun y=>decide (y.m.path=(xs.getD k aT).m.path))=none:=by
   rw[List.find?_eq_none];intro x D;obtain⟨i,hi,rfl⟩:=List.mem_take_iff_getElem.1 D;have:=(List.pairwise_iff_getElem.1 hr) i k (by rw[Qi];omega) (by rw[Qi];exact hk) (by omega);rw[List.getElem_map,List.getElem_map]at this;have B:=CQ this;rw[Br hk]
   simpa using B
  rw[this];rfl
 ·rw[if_neg A,decide_eq_false (fun e=>A e.symm)]
  simp
theorem MA:qb xs os 0=tY xs:=by
 funext p
 unfold qb;rw[List.take_zero,if_neg (List.not_mem_nil)]
theorem Mz (hk:k<os.length):qb xs os (k+1)=fun p=>if p=os.getD k []then none else qb xs os k p:=by
 funext p
 unfold qb;rw[List.take_succ_eq_append_getElem hk,List.getD,Qd hk,Option.getD_some]
 by_cases B:p=os[k]
 ·rw[if_pos B,if_pos (by rw[B];exact List.mem_append.2 (.inr (List.mem_singleton.2 rfl)))]
 ·rw[if_neg B]
  by_cases A:p∈os.take k
  ·rw[if_pos A,if_pos (by rw[List.mem_append];exact .inl A)]
  ·rw[if_neg A,if_neg (by rw[List.mem_append,List.mem_singleton];exact fun h=>h.elim A B)]
def Pv (xs:List NP) (os:List (List UInt8)) (k:Nat) (zs:List NP):Prop:=∀i,i<k→qb xs os i (os.getD i [])=some (zs.getD i aT)
theorem zH {zs:List NP} (h:Pv xs os k zs) (hi:i<k):tY xs (os.getD i [])=some (zs.getD i aT):=by
 have:=h i hi;unfold qb at this;split at this
 ·cases this
 ·exact this
theorem NG {zs:List NP} (hg:ja (xs.map NP.m)=true) (hl:os.length=xs.length) (h:Pv xs os os.length zs):jh (xs.map NP.m) os:=by
 rw[vN hg];refine⟨by rw[Qi];exact hl,fun p B=>?_,?_⟩
 ·obtain⟨i,hi,rfl⟩:=List.mem_iff_getElem.1 B
  have:=zH h hi;rw[List.getD,Qd hi,Option.getD_some]at this;rw[←ze,this];rfl
 ·rw[List.nodup_iff_pairwise_ne,List.pairwise_iff_getElem]
  intro i j hi A D e;have:=h j A;unfold qb at this;rw[List.getD,Qd A,Option.getD_some,if_pos]at this
  ·cases this
  ·rw[←e]
   exact List.mem_take_iff_getElem.2 ⟨i,by omega,rfl⟩
theorem Rz (hg:ja (xs.map NP.m)=true) (hk:k<os.length) (h:qb xs os k (os.getD k [])=none):¬jh (xs.map NP.m) os:=fun E=>by
 obtain⟨_,B,D⟩:=(vN hg os).1 E;have A:os.getD k []=os[k]:=by rw[List.getD,Qd hk];rfl
 unfold qb at h;split at h
 ·next hm=>
  rw[A]at hm;obtain⟨i,hi,e⟩:=List.mem_take_iff_getElem.1 hm;exact(List.pairwise_iff_getElem.1 D) i k (by omega) hk (by omega) e
 ·have:=B (os.getD k []) (by rw[A];exact List.getElem_mem hk)
  rw[←ze,h]at this
  cases this
end
def iZ (t:List aC) (os:List (List UInt8)) (k:Nat) (l:List UInt8):Option Nat:=
 (List.range k).find? fun j=>decide ((nodeAt t (os.getD j [])).kind=48)&&decide ((nodeAt t (os.getD j [])).ao=l)
section
variable {t:List aC} {os:List (List UInt8)} {k:Nat}
theorem rK:iZ t os (k+1)=fun l=>(iZ t os k l).or (if(nodeAt t (os.getD k [])).kind=48∧(nodeAt t (os.getD k [])).ao=l then some k else none):=by
 funext l
 unfold iZ;rw[List.range_succ,List.find?_append,List.find?_cons]
 by_cases h:(nodeAt t (os.getD k [])).kind=48∧(nodeAt t (os.getD k [])).ao=l
 ·rw[if_pos h,decide_eq_true h.1,decide_eq_true h.2];rfl
 ·rw[if_neg h]
  have:(decide ((nodeAt t (os.getD k [])).kind=48)&&decide ((nodeAt t (os.getD k [])).ao=l))=false:=by
   simpa using fun h1 A=>h ⟨h1,A⟩
  rw[this];rfl
theorem I7 (h:(nodeAt t (os.getD k [])).kind≠48):iZ t os (k+1)=iZ t os k:=by
 rw[rK]
 funext l
 rw[if_neg (fun A=>h A.1),Option.or_none]
theorem QD (h:(nodeAt t (os.getD k [])).kind=48) (hn:iZ t os k (nodeAt t (os.getD k [])).ao=none):iZ t os (k+1)=fun l=>if l=(nodeAt t (os.getD k [])).ao then some k else iZ t os k l:=by
 rw[rK]
 funext l
 by_cases hl:l=(nodeAt t (os.getD k [])).ao
 ·rw[if_pos hl,hl,hn,if_pos ⟨h,rfl⟩];rfl
 ·rw[if_neg hl,if_neg (fun A=>hl A.2.symm),Option.or_none]
theorem QE (hf:iZ t os k (nodeAt t (os.getD k [])).ao=some f):iZ t os (k+1)=iZ t os k:=by
 rw[rK]
 funext l
 by_cases hl:(nodeAt t (os.getD k [])).ao=l
 ·rw[←hl,hf];rfl
 ·rw[if_neg (fun A=>hl A.2),Option.or_none]
theorem I6 {l:List UInt8} (hf:iZ t os k l=some f):f<k:=by
 unfold iZ at hf;exact List.mem_range.1 (List.mem_of_find?_eq_some hf)
theorem FJ (h:(nodeAt t (os.getD k [])).kind=48):aV t os k=(iZ t os k (nodeAt t (os.getD k [])).ao).getD k:=by
 have e:aV t os k=(iZ t os (k+1) (nodeAt t (os.getD k [])).ao).getD k:=by
  unfold aV iZ;rw[if_pos h]
 rw[e,rK]
 dsimp only
 cases iZ t os k (nodeAt t (os.getD k [])).ao with
 |some f=>rfl
 |none=>rw[if_pos ⟨h,rfl⟩];rfl
theorem Ru (h:(nodeAt t (os.getD k [])).kind≠48):km t os k=(nodeAt t (os.getD k [])).mem:=by
 unfold km;rw[if_pos (oe h)]
theorem Yy (h:(nodeAt t (os.getD k [])).kind=48) (hn:iZ t os k (nodeAt t (os.getD k [])).ao=none):km t os k=(nodeAt t (os.getD k [])).mem:=by
 unfold km;rw[if_pos (by rw[FJ h,hn];rfl)]
theorem Yz (h:(nodeAt t (os.getD k [])).kind=48) (hf:iZ t os k (nodeAt t (os.getD k [])).ao=some f):km t os k=An (nodeAt t (os.getD k [])) (os.getD f []):=by
 unfold km;have:=I6 hf;rw[FJ h,hf,Option.getD_some,if_neg (by omega)]
theorem Lu {x:aC} (h:cf x.mem=true) (hk:x.kind≠48):x.body=[]:=by
 unfold cf at h;simp only[Bool.and_eq_true,Bool.or_eq_true,beq_iff_eq]at h;rcases h.1.2 with h1|h1
 ·exact absurd h1 hk
 ·exact h1
end
end DY
namespace DY
open Go.ChangeShapes Go.WideShapes Go.ChangeAt Go.RowKit Base cb iK Bk Mk kY Go.Lib
variable {os:List (List UInt8)} {xs zs:List NP}
def rj (f:List UInt8→Option NP):List UInt8→Option Value:=fun x=>(f x).map fun y=>.agg y.cs
theorem Vw (w:World):(zeroValue 52).run Tryz.prog w=.ok (.agg #[.string ⟨#[]⟩,.string ⟨#[]⟩,.string ⟨#[]⟩,.int .u8 0,.int .i64 0,.int .i64 0,.int .i64 0,.int .i64 0,.slice none 0 0]) w:=Tryz.zeroValue52 w
def N5 (w:World) (xs:List NP) (os:List (List UInt8)) (n:Nat) (e:Ending) (w':World):Prop:=
 (∃q zs,e=.returned (.tuple #[.slice q n n,.bool true])∧Pv xs os n zs∧zs.length=n∧os.length=n∧bU w' q n zs∧jh (xs.map NP.m) os∧Below w.heap.size w w')∨
 (e=.returned (.tuple #[.slice none 0 0,.bool false])∧¬jh (xs.map NP.m) os∧Below w.heap.size w w')
structure IoJ (w wr:World) (M:Nat) (xs:List NP) (k:Nat):Prop where
 bel:Below w.heap.size w wr
 map:jj p8 wr M (rj (tY (xs.take k)))
 new:w.heap.size≤M
structure IoI (w wr:World) (M g:Nat) (xs:List NP) (os:List (List UInt8)) (n k:Nat) (zs:List NP):Prop where
 bel:Below w.heap.size w wr
 map:jj p8 wr M (rj (qb xs os k))
 new:w.heap.size≤M
 row:Rw wr g zs
 XW:w.heap.size≤g
 len:zs.length=n
 Sw:Pv xs os k zs
theorem IoI.below {wr:World} {M:Nat} (h:IoI w wr M g xs os n k zs) (hb:Below wr.heap.size wr w'):IoI w w' M g xs os n k zs:=
 ⟨h.bel.trans (hb.mono h.bel.size),h.map.kept (Kept.bj hb ag) (fun h=>h.elim),h.new,au.below h.row hb (au.lt h.row),h.XW,h.len,h.Sw⟩
theorem Wi {y:NP} (h:Pv xs os k zs) (hk:k<zs.length) (hy:qb xs os k (os.getD k [])=some y):Pv xs os (k+1) (zs.set k y):=fun i hi=>by
 rw[getSet zs k i y hk]
 by_cases A:i=k
 ·rw[if_pos A,A];exact hy
 ·rw[if_neg A];exact h i (by omega)
theorem Jq (w:World) (p:Option Addr) (n c:Nat) (xs:List NP) (a:Option Addr) (m d:Nat) (os:List (List UInt8)) (hN:xI w p n c xs) (hO:N8 w a m d os):
 Calls Tryz.prog 48 #[.slice p n c,.slice a m d] w (N5 w xs os n):=by
 obtain⟨i0,hi,kh,jS,jU⟩:=info_parts GX;have HI:=Qh hi;have rC:=Qh kh;have pX:=Qh jS;have pD:=Qh jU;have SU:=@run_makeMap Tryz.prog;have HM:=Qh hN.at_;have HL:=Qh hN.at_.1;have u:=Qh hN.ad6;have ao1:=hN.few;have HO:=Qh hO.at_;have T:=Qh hO.at_.1;clear hi kh jS jU hN hO
 go_enter Tryz.func48,Tryz.ntmps48
 by_cases Z:m=n
 ·subst Z
  obtain⟨w1,KK⟩:∃w1,w.alloc (.map #[] 0)=w1:=⟨_,rfl⟩
  have HJ0:Hid (IoJ w w1 w.heap.size xs 0):=Qh
   {bel:=by rw[←KK];exact(Below.refl _ _).alloc (Qk _) _
    map:=by
     have e:rj (tY (xs.take 0))=fun _=>none:=by funext l;rfl
     rw[e,←KK];exact qG p8 w
    new:=Qk _}
  go_upto_region 4 with fail
  clear KK SU;go_wp2_with fail
  go_loopw [8,22] (fun _ i wr=>∃(k:Nat),k≤m∧i=.int .i64 (k:Int)∧Hid (IoJ w wr w.heap.size xs k)) (fun _ i _=>m - (RowKit.intOf i).toNat)
  case atStart=>exact⟨0,Nat.zero_le _,rfl,HJ0⟩
  case round=>
   obtain⟨k,hk,rfl,L⟩:=hrel
   by_cases J:k<m
   ·obtain⟨b1,o1,rfl,ch,xz,hc⟩:=(HM.out.below L.out.bel).kZ J
    obtain⟨y,hy⟩:∃y,xs.getD k aT=y:=⟨_,rfl⟩
    rw[hy]at hc xz;have HY:=Qh hy;obtain⟨c0,c1,c2,c3,c4,c5,c6,c7,c8⟩:=hc;obtain⟨W5,H⟩:∃W5,wr.alloc (.cells y.cs 52)=W5:=⟨_,rfl⟩
    have R:Below wr.heap.size wr W5:=by rw[←H];exact(Below.refl _ _).alloc (Qk _) _
    have D:au W5 wr.heap.size 52 y.cs:=by rw[←H];exact au.new wr _ _
    have AU:=Qh R;have qD:=Qh (L.out.map.kept (Kept.bj R ag) (fun h=>h.elim));have z0:=D.cell 0;have o:=D.cell 1;have z2:=D.cell 2;have z3:=D.cell 3;have z4:=D.cell 4;have z5:=D.cell 5;have q:=D.cell 6;have r:=D.cell 7;have t:=D.cell 8;unfold NP.cs tH at H;simp only[NP.cs,tH,Qc,Qa,Qb]at z0 o z2 z3 z4 z5 q r t;have qX:(k:Int)<(m:Int):=by omega
    clear hy ch xz D R;go_upto_region 7 with fail;clear H c0 c1 c2 c3 c4 c5 c6 c7 c8
    go_wp2_with (at_mapUpdate;refine jA (K:=p8) rfl (.tmp 26) (.tmp 28) (.tmp 29) rfl Tryz.underlying138 Tryz.underlying9 w.heap.size qD.out rfl y.m.path rfl (.agg y.cs) rfl ?_)
    intro w7 W V O
    have HN:Hid (IoJ w w7 w.heap.size xs (k+1)):=by
     have I:=L.out.bel.trans (AU.out.mono L.out.bel.size);refine Qh ⟨I.trans (V.out.below I.size (fun b I=>by rw[show b=w.heap.size from I];exact Qk _)),?_,Qk _⟩
     have e:rj (tY (xs.take (k+1)))=fun z=>if z=y.m.path then some (.agg y.cs)else rj (tY (xs.take k)) z:=by
      funext z
      unfold rj;rw[LN (lj u.out) (show k<xs.length by rw[HL.out];exact J),HY.out]
      by_cases h:z=y.m.path<;>simp[h]
     rw[e];exact W.out
    clear W V O z0 o z2 z3 z4 z5 q r t;go_wp2;go_roundw
    case rel=>exact⟨k+1,by omega,by go_num,HN⟩
    case measure=>simp[RowKit.intOf];omega
   ·obtain rfl:k=m:=by omega
    have uh:¬((k:Int)<(k:Int)):=by omega
    have QN:=L.out.bel;have Yf:=L.out.map;rw[List.take_of_length_le (by rw[HL.out];exact Qk _)]at Yf;have Y:=Qh Yf;have nG:=Qh QN;clear L Yf QN
    go_wp2_with (at_make;refine wpList_make_full _ rfl _ _ 22 rfl wr.heap.size 52 i0 _ 9 Tryz.underlying22 HI.out rC.out pX.out .i64 .i64 _ _ k rfl rfl rfl rfl (by rw[pD.out];omega) (by unfold maxLen;omega) (Qk _) ?_)
    intro w3 uF aU
    have WT:=Pf (B:=wr.heap.size) (w':=w3) (g:=wr.heap.size) (n:=k) (by
     have h9:=uF;rw[CR]at h9
     exact h9)
    have jC:Kept ag wr w3:=(Kept.refl ag wr).grown aU (fun k h=>by cases h);have kW:Below wr.heap.size wr w3:=jC.below (Qk _) (fun _ h=>h.elim)
    have Ww:Hid (IoI w w3 w.heap.size wr.heap.size xs os k 0 (List.replicate k aT)):=Qh
     {bel:=nG.out.trans (kW.mono nG.out.size)
      map:=by rw[MA];exact Y.out.kept jC (fun h=>h.elim)
      new:=Qk _
      row:=WT
      XW:=nG.out.size
      len:=by simp
      Sw:=fun i hi=>by omega}
    obtain⟨g,hg⟩:∃g,wr.heap.size=g:=⟨_,rfl⟩
    rw[hg]at Ww⊢;clear uF aU WT jC kW Y nG hg;go_wp2_with fail
    go_loopw [10,11,12,13,36] (fun _ _ _ _ i wr=>∃(j:Nat) (zs:List NP),j≤k∧i=.int .i64 (j:Int)∧Hid (IoI w wr w.heap.size g xs os k j zs)) (fun _ _ _ _ i _=>k - (RowKit.intOf i).toNat)
    case atStart=>exact⟨0,_,Nat.zero_le _,rfl,Ww⟩
    case round=>
     obtain⟨j,zs,hj,rfl,G⟩:=hrel
     by_cases J:j<k
     ·obtain⟨b3,o3,rfl,kW,Co⟩:=(HO.out.below G.out.bel).2 (by omega)
      have z0:=Co j J;obtain⟨x,hx⟩:∃x,os.getD j []=x:=⟨_,rfl⟩
      rw[hx]at z0;have HX:=Qh hx;have U:=G.out.map.look_ok (P:=Tryz.prog) Tryz.underlying138 Tryz.underlying9 Vw x;obtain⟨fo,D6⟩:∃fo,qb xs os j x=fo:=⟨_,rfl⟩
      have DL:=Qh D6;unfold rj at U;rw[D6]at U;have qX:(j:Int)<(k:Int):=by omega
      clear hx D6 Co kW
      cases fo with
      |none=>
       have f:(Instr.lookup 138 (.map (some w.heap.size)) (.string (str x)) true).run Tryz.prog wr=.ok (.tuple #[.agg #[.string ⟨#[]⟩,.string ⟨#[]⟩,.string ⟨#[]⟩,.int .u8 0,.int .i64 0,.int .i64 0,.int .i64 0,.int .i64 0,.slice none 0 0],.bool false]) wr:=U;have E:Hid (¬jh (xs.map NP.m) os):=Qh (Rz u.out (show j<os.length by rw[T.out];exact J) (by rw[HX.out];exact DL.out));have HB:=Qh G.out.bel;clear U;go_wp2;go_ret2;exact .inr ⟨rfl,E.out,HB.out.alloc HB.out.size _⟩
      |some y=>
       have f:(Instr.lookup 138 (.map (some w.heap.size)) (.string (str x)) true).run Tryz.prog wr=.ok (.tuple #[.agg #[.string (str y.m.path),.string (str y.m.target),.string (str y.m.ao),.int .u8 (y.m.kind.toNat:Int),.int .i64 y.m.mode,.int .i64 y.m.uid,.int .i64 y.m.gid,.int .i64 y.m.time,.slice y.p y.m.body.length y.c],.bool true]) wr:=U;obtain⟨W5,H⟩:∃W5,wr.alloc (.cells y.cs 52)=W5:=⟨_,rfl⟩
       have R:Below wr.heap.size wr W5:=by rw[←H];exact(Below.refl _ _).alloc (Qk _) _
       have D:au W5 wr.heap.size 52 y.cs:=by rw[←H];exact au.new wr _ _
       have A:=Qh (G.out.below R);have o:=D.cell 0;have z2:=D.cell 1;have z3:=D.cell 2;have z4:=D.cell 3;have z5:=D.cell 4;have q:=D.cell 5;have r:=D.cell 6;have t:=D.cell 7;have z9:=D.cell 8;unfold NP.cs tH at H;simp only[NP.cs,tH,Qc,Qa,Qb]at o z2 z3 z4 z5 q r t z9;have N:j<zs.length:=by rw[A.out.len];exact J
       obtain⟨r0,r1,r2,r3,r4,r5,r6,r7,r8⟩:=A.out.row.kZ N;have f0:=au.frozen A.out.row (j*9);have f1:=au.frozen A.out.row (j*9+1);have f2:=au.frozen A.out.row (j*9+2);have f3:=au.frozen A.out.row (j*9+3);have f4:=au.frozen A.out.row (j*9+4);have f5:=au.frozen A.out.row (j*9+5);have f6:=au.frozen A.out.row (j*9+6);have f7:=au.frozen A.out.row (j*9+7);have f8:=au.frozen A.out.row (j*9+8);have X:=Qh N;clear U N R D;go_upto_region 14 with fail;clear H f z0;go_upto_region 17 with fail;obtain⟨W6,Ou⟩:∃W6,(((((((((W5.setCell ⟨g,j*9,none⟩ (.string (str y.m.path))).setCell ⟨g,j*9+1,none⟩ (.string (str y.m.target))).setCell ⟨g,j*9+2,none⟩ (.string (str y.m.ao))).setCell ⟨g,j*9+3,none⟩ (.int .u8 (y.m.kind.toNat:Int))).setCell ⟨g,j*9+4,none⟩ (.int .i64 y.m.mode)).setCell ⟨g,j*9+5,none⟩ (.int .i64 y.m.uid)).setCell ⟨g,j*9+6,none⟩ (.int .i64 y.m.gid)).setCell ⟨g,j*9+7,none⟩ (.int .i64 y.m.time)).setCell ⟨g,j*9+8,none⟩ (.slice y.p y.m.body.length y.c))=W6:=⟨_,rfl⟩
       have OA:Kept (aA g) W5 W6:=by rw[←Ou];exact Pe (S:=aA g) rfl _ _ _ _ _ _ _ _ _
       have ZY:Rw W6 g (zs.set j y):=by rw[←Ou];exact A.out.row.set X.out y
       have M:g≠w.heap.size:=uz A.out.row A.out.map;have ZO:jj p8 W6 w.heap.size (rj (qb xs os j)):=A.out.map.kept OA (fun e=>M e.symm);rw[Ou];have Tb:=Qh OA;have Tk:=Qh ZY;have wK:=Qh ZO;have HGM:=Qh M;clear Ou OA ZY ZO M r0 r1 r2 r3 r4 r5 r6 r7 r8 f0 f1 f2 f3 f4 f5 f6 f7 f8 o z2 z3 z4 z5 q r t z9
       go_wp2_with (at_delete;refine KB (K:=p8) rfl (.tmp 53) (.tmp 54) 138 9 rfl 52 Tryz.underlying138 Tryz.underlying9 w.heap.size wK.out rfl x rfl ?_)
       intro w7 W V O
       have HN:Hid (IoI w w7 w.heap.size g xs os k (j+1) (zs.set j y)):=by
        have xf:Below w.heap.size w W6:=A.out.bel.trans (Tb.out.below A.out.bel.size (fun b I=>by rw[show b=g from I];exact A.out.XW));refine Qh ⟨xf.trans (V.out.below xf.size (fun b I=>by rw[show b=w.heap.size from I];exact Qk _)),?_,Qk _,au.iH Tk.out V.out HGM.out,A.out.XW,by rw[List.length_set];exact A.out.len,Wi A.out.Sw X.out (by rw[HX.out];exact DL.out)⟩
        have e:rj (qb xs os (j+1))=fun z=>if z=x then none else rj (qb xs os j) z:=by
         funext z
         unfold rj;rw[Mz (show j<os.length by rw[T.out];exact J),HX.out]
         by_cases h:z=x<;>simp[h]
        rw[e];exact W.out
       clear W V O;go_wp2;go_roundw
       case rel=>exact⟨j+1,_,by omega,by go_num,HN⟩
       case measure=>simp[RowKit.intOf];omega
     ·obtain rfl:j=k:=by omega
      have uh:¬((j:Int)<(j:Int)):=by omega
      have UH:jh (xs.map NP.m) os:=NG u.out (by rw[T.out,HL.out]) (by rw[T.out];exact G.out.Sw)
      have xg:bU wr (some ⟨g,0,none⟩) j zs:=by
       have h1:=G.out.row.nodes (fun y hy=>by
        obtain⟨i,hi,rfl⟩:=List.mem_iff_getElem.1 hy;have h2:=zH G.out.Sw (show i<j by rw[←G.out.len];exact hi);rw[Br hi]at h2
        exact(HM.out.below G.out.bel).2.1 _ (List.mem_of_find?_eq_some h2))
       rw[G.out.len]at h1;exact h1
      have HF:=Qh (And.intro UH xg);clear UH xg;go_wp2;go_ret2;exact .inl ⟨_,zs,rfl,G.out.Sw,G.out.len,T.out,HF.out.2,HF.out.1,G.out.bel⟩
 ·have E:Hid (¬jh (xs.map NP.m) os):=Qh (fun h=>Z (by
   have h1:=((vN u.out os).1 h).1;rw[Qi,HL.out,T.out]at h1
   exact h1))
  have ck:¬((m:Int)=(n:Int)):=by omega
  go_wp2;go_ret2;exact .inr ⟨rfl,E.out,Below.refl _ _⟩
end DY
namespace kY
open Go.ChangeShapes Go.WideShapes Go.ChangeAt Go.RowKit Base cb iK Bk Go.Lib
def kP (ys:List CP):List (List UInt8):=ys.map fun y=>y.x.m.path
def SJ (ps:List (List UInt8)) (b:List UInt8):Option Nat:=ps.findIdx? fun q=>q==b
def atZ:Option Nat→Int
 |none=>-1
 |some k=>(k:Int)
theorem TN {ps:List (List UInt8)} (h:∀q∈ps,q≠b):SJ ps b=none:=by
 unfold SJ;rw[List.findIdx?_eq_none_iff];intro q A
 simpa using h q A
theorem Dc (ys:List CP) (k:Nat) (hk:k<ys.length):(kP ys)[k]'(by unfold kP;simpa using hk)=(ys.getD k iL).x.m.path:=by
 unfold kP;rw[List.getElem_map,Ol hk]
theorem TP {ys:List CP} (hk:k<ys.length) (h:(ys.getD k iL).x.m.path=b) (h0:∀q∈(kP ys).take k,q≠b):SJ (kP ys) b=some k:=by
 unfold SJ;have hl:(kP ys).length=ys.length:=by simp[kP]
 rw[List.findIdx?_eq_some_iff_getElem];refine⟨by omega,by rw[Dc ys k hk];simpa using h,fun j A=>?_⟩
 have:=h0 ((kP ys)[j]'(by omega)) (by
  rw[List.mem_take_iff_getElem]
  exact⟨j,by omega,rfl⟩)
 simpa using this
theorem J0 (ys:List CP) (k:Nat) (hk:k<ys.length):(kP ys).take (k+1)=(kP ys).take k++[(ys.getD k iL).x.m.path]:=by
 rw[List.take_succ_eq_append_getElem (by unfold kP;simpa using hk),Dc ys k hk]
theorem YY (p:Option Addr) (n c:Nat) (ys:List CP) (b:List UInt8) (w:World) (h:wu w p n ys) (hn:n≤maxLen):
 Calls Tryz.prog 40 #[.slice p n c,.string (str b)] w fun e w'=>e=.returned (.int .i64 (atZ (SJ (kP ys) b)))∧w=w':=by
 unfold maxLen at hn;have M:=Qh h;have A:=Qh h.1;clear h
 go_enter Tryz.func40,Tryz.ntmps40
 go_wp2_with fail
 go_loop [5] (fun i=>∃(k:Nat),k≤n∧i=.int .i64 (k:Int)∧Hid (∀q∈(kP ys).take k,q≠b)) (fun i=>n - (RowKit.intOf i).toNat)
 case atStart=>exact⟨0,Nat.zero_le _,rfl,Qh (by simp)⟩
 case round=>
  obtain⟨k,hk,rfl,hN⟩:=hrel
  by_cases D:k<n
  ·obtain⟨b1,o1,rfl,U,H,J⟩:=M.out.rJ D
   have I:k<ys.length:=by rw[A.out];exact D
   have L:=Qh I;obtain⟨u,hu⟩:∃u,ys.getD k iL=u:=⟨_,rfl⟩
   rw[hu]at H J;have B:=Qh hu;obtain⟨c0,c1,c2,c3,O,c5,c6,c7,R,T⟩:=J;have V:(k:Int)<(n:Int):=by omega
   have G:((str u.x.m.path).toList==(str b).toList)=decide (u.x.m.path=b):=by
    rw[ak,ak]
    by_cases h:u.x.m.path=b<;>simp[h]
   clear H hu U I c1 c2 c3 O c5 c6 c7 R T
   by_cases he:u.x.m.path=b
   ·rw[decide_eq_true he]at G
    have E:Hid (SJ (kP ys) b=some k):=Qh (TP L.out (by rw[B.out];exact he) hN.out);clear he;go_wp2;go_ret;rw[E.out];exact⟨rfl,rfl⟩
   ·rw[decide_eq_false he]at G
    have N:Hid (∀q∈(kP ys).take (k+1),q≠b):=Qh (by
     intro q hq;rw[J0 ys k L.out,List.mem_append,B.out]at hq;rcases hq with hq|hq
     ·exact hN.out q hq
     ·rw[List.mem_singleton.1 hq];exact he)
    clear he;go_wp2
    go_round
    case rel=>exact⟨k+1,by omega,by go_num,N⟩
    case measure=>simp[RowKit.intOf];omega
  ·have W:¬((k:Int)<(n:Int)):=by omega
   have E:Hid (SJ (kP ys) b=none):=Qh (TN fun q hq=>hN.out q (by rw[List.take_of_length_le (by simp[kP,A.out];omega)];exact hq));go_wp2;go_ret;rw[E.out];exact⟨rfl,rfl⟩
end kY
namespace kY
open Go.ChangeShapes Go.WideShapes Go.ChangeAt Go.RowKit Base cb iK Bk Rec Block Go.Lib
variable {t:TypeId}
structure vV (w wr:World) (ms:List aB) (S:St) (q:Option Addr) (n:Nat) (T:St) (zs:List CP):Prop where
 bel:Below w.heap.size w wr
 row:0<n→∃g,q=some ⟨g,0,none⟩∧w.heap.size≤g∧g<wr.heap.size∧Rc wr g zs
 len:zs.length=n
 says:rF ms zs T
 perm:T.Perm S
 DQ:∀y∈zs,je w y.x∧y.x.m.body.length≤140737488351232
section
variable {w wr w':World} {ms:List aB} {S T:St} {q:Option Addr} {n:Nat} {zs:List CP}
theorem vV.NF (h:vV w wr ms S q n T zs):T.length=n:=by rw[←h.says.len,h.len]
theorem JL {α:Type} {l:List α} {a x:α} (h:x∈l.set i a):x∈l∨x=a:=List.mem_or_eq_of_mem_set h
theorem vV.swap (h:vV w wr ms S q n T zs) (hq:q=some ⟨g,0,none⟩) (hw:w.heap.size≤g) (hg:g<wr.heap.size) (hr:Rc wr g zs) (hk:k<n) (h0:0<k):
 vV w (De (De wr g (k*10) (zs.getD (k - 1) iL)) g ((k - 1)*10) (zs.getD k iL)) ms S q n (vr T k) (AM zs k) where
 bel:=h.bel.trans (((tL (S:=aA g) rfl _).trans (tL (S:=aA g) rfl _)).below h.bel.size (fun b A=>by rw[show b=g from A];exact hw))
 row:=fun _=>⟨g,hq,hw,by
  have:=((tL (W:=wr) (S:=aA g) (g:=g) (o:=k*10) rfl (zs.getD (k - 1) iL)).trans (tL (S:=aA g) (o:=(k - 1)*10) rfl (zs.getD k iL))).size;omega,by
  have h1:=hr.set (k:=k) (by rw[h.len];exact hk) (zs.getD (k - 1) iL)
  exact h1.set (k:=k - 1) (by rw[List.length_set,h.len];omega) (zs.getD k iL)⟩
 len:=by rw[Sn];exact h.len
 says:=h.says.swap (by rw[h.NF];exact hk)
 perm:=(NA (by rw[h.NF];exact hk)).trans h.perm
 DQ:=fun y hy=>by
  unfold AM at hy;rcases JL hy with hy|rfl
  ·rcases JL hy with hy|rfl
   ·exact h.DQ y hy
   ·exact h.DQ _ (sy zs _ (by rw[h.len];omega))
  ·exact h.DQ _ (sy zs _ (by rw[h.len];omega))
theorem J8 {W:World} {ys:List CP} (h:Rc W g ys) (m:Nat):Rc (W.drewN m) g ys:=by
 obtain⟨cur,h1,A,B⟩:=h;exact⟨cur,h1.drewN m,A,B⟩
theorem vV.drewN (h:vV w wr ms S q n T zs) (m:Nat):vV w (wr.drewN m) ms S q n T zs where
 bel:=below_drewN h.bel m
 row:=fun A=>by
  obtain⟨g,h1,B,D,E⟩:=h.row A;exact⟨g,h1,B,D,J8 E m⟩
 len:=h.len
 says:=h.says
 perm:=h.perm
 DQ:=h.DQ
theorem vV.grow (h:vV w wr ms S q n T zs) (hb:Below wr.heap.size wr w'):vV w w' ms S q n T zs where
 bel:=h.bel.trans (hb.mono h.bel.size)
 row:=fun B=>by
  obtain⟨g,G,hw,A,cur,h1,D,E⟩:=h.row B;exact⟨g,G,hw,Nat.lt_of_lt_of_le A hb.size,cur,h1.below hb A,D,E⟩
 len:=h.len
 says:=h.says
 perm:=h.perm
 DQ:=h.DQ
end
def ub (m:aC) (l:List UInt8):aC:=⟨m.path,m.target,l,m.kind,m.mode,m.uid,m.gid,m.time,m.body⟩
def Qu (ts:List aC):List NP:=ts.map fun m=>⟨m,none,0⟩
theorem XQ (ts:List aC) (k:Nat):((Qu ts).getD k aT).m=ts.getD k iO:=by
 unfold Qu;rw[List.getD,List.getD,List.getElem?_map]
 cases ts[k]? <;>rfl
theorem al3 (ts:List aC):(Qu ts).map NP.m=ts:=by
 unfold Qu;rw[List.map_map]
 conv=>rhs;rw[←List.map_id ts]
 rfl
theorem Of (ts:List aC):(Qu ts).length=ts.length:=by simp[Qu]
def Tu (w:World) (n:Nat) (ts:List aC) (e:Ending) (w':World):Prop:=∃q d zs,e=.returned (.slice q n d)∧zs.map NP.m=ts∧bU w' q n zs∧Below w.heap.size w w'
theorem Km (p:Option Addr) (n c:Nat) (ys:List CP) (ms:List aB) (S:St) (w:World) (h:wu w p n ys) (hS:rF ms ys S) (hA:nv S) (hn:n≤100000) (hR:∀y∈ys,y.x.m.body.length≤140737488351232):
 Calls Tryz.prog 41 #[.slice p n c] w (Tu w n (kT ms S)):=by
 obtain⟨i0,hi,kh,jS,jU⟩:=info_parts qZ;have HI:=Qh hi;have rC:=Qh kh;have pX:=Qh jS;have pD:=Qh jU;have HM:=Qh h;have HS:=Qh hS;have HA:=Qh hA;have HR:=Qh hR;clear hi kh jS jU h hS hA hR
 go_enter Tryz.func41,Tryz.ntmps41
 go_wp2_with (at_builtin;refine IG rfl _ _ rfl w.heap.size _ 0 [] rfl rfl (World.ownsRow_made w #[] 0 (Qk _) (by decide) rfl) p n c ys rfl (HM.out.below ((Below.refl _ _).alloc (Qk _) _)) ?b1 ?b2 ?_)
 case b1=>omega
 case b2=>simp
 intro v1 w1 V r;have jM:Kept ag w w1:=(((Kept.refl ag w).alloc _)).grown r (by intro k hk;simp[Value.ownBlock]at hk;omega);have ch:Below w.heap.size w w1:=jM.below (Qk _) (fun _ h=>h.elim);have hl:=HM.out.1;obtain⟨q,c1,rfl,nI,qU,N⟩:=Od V (fun y hy=>(HM.out.2.1 y hy).below ch)
 have HO:Hid (vV w w1 ms S q n S ys):=Qh
  {bel:=ch
   row:=fun h0=>by
    obtain⟨g,c2,he,hB,_,_,O⟩:=ai3 V (by rw[hl];exact h0)
    cases he
    obtain⟨cur,h1,M,h3⟩:=O;exact⟨g,rfl,hB,h1.lt,cur,h1,M,h3⟩
   len:=hl
   says:=HS.out
   perm:=List.Perm.refl _
   DQ:=fun y hy=>⟨HM.out.2.1 y hy,HR.out y hy⟩}
 rw[hl]at nI⊢;have HC:=Qh (And.intro nI qU);clear V r jM ch hl nI qU N;go_wp2_with fail
 go_loopw [3,4] (fun i _ wr=>∃(k:Nat) (T:St) (zs:List CP),1≤k∧(k≤n∨k=1)∧i=.int .i64 (k:Int)∧Hid (vV w wr ms S q n T zs)∧Hid (KZ T k)) (fun i _ _=>n - (RowKit.intOf i).toNat)
 case atStart=>exact⟨1,S,ys,Qk _,.inr rfl,rfl,HO,Qh (KZ.one S)⟩
 case round=>
  obtain⟨k,T,zs,jM,t,rfl,hO,hP⟩:=hrel
  by_cases ay:k<n
  ·have qX:(k:Int)<(n:Int):=by omega
   clear t;go_wp2_with fail
   go_loopw [4] (fun j wr=>∃(a:Nat) (T:St) (zs:List CP),a≤k∧j=.int .i64 (a:Int)∧Hid (vV w wr ms S q n T zs)∧Hid (Ins T k a)) (fun j _=>(RowKit.intOf j).toNat)
   case atStart=>exact⟨k,T,zs,Qk _,rfl,hO,Qh (Ins.start hP.out)⟩
   case round=>
    obtain⟨a,T,zs,ha,rfl,hO,hN⟩:=hrel;have vz:=Qh hO.out.NF;have l:=Qh (HA.out.perm hO.out.perm)
    by_cases h0:0<a
    ·obtain⟨g,hq,Z,X9,O⟩:=hO.out.row (by omega)
     subst hq;have hzl:zs.length=n:=hO.out.len;have Y:=O.rJ (show a<zs.length by omega);have X2:=O.rJ (show a - 1<zs.length by omega);have I:Hid ((zs.getD a iL).x.m.path=(T.getD a ([],0)).1∧(zs.getD (a - 1) iL).x.m.path=(T.getD (a - 1) ([],0)).1):=Qh ⟨hO.out.says.path (by rw[vz.out];omega),hO.out.says.path (by rw[vz.out];omega)⟩;have HSW:Hid (∀m,vV w (De (De (wr.drewN m) g (a*10) (zs.getD (a - 1) iL)) g ((a - 1)*10) (zs.getD a iL)) ms S (some ⟨g,0,none⟩) n (vr T a) (AM zs a)):=Qh (fun m=>(hO.out.drewN m).swap rfl Z X9 (J8 O m) (by omega) h0);obtain⟨cur,Ov,_,_⟩:=O;have E:=Qh Ov;obtain⟨u,hu⟩:∃u,zs.getD a iL=u:=⟨_,rfl⟩
     obtain⟨v,hv⟩:∃v,zs.getD (a - 1) iL=v:=⟨_,rfl⟩
     rw[hu]at Y HSW I;rw[hv]at X2 HSW I;obtain⟨c0,c1,c2,c3,c4,c5,c6,c7,c8,c9⟩:=Y;obtain⟨d0,d1,d2,d3,d4,d5,d6,d7,d8,d9⟩:=X2;obtain⟨L,hL⟩:∃L,j1 u.x.m.path v.x.m.path=L:=⟨_,rfl⟩
     have eL:Op.bytesLess (str u.x.m.path).toList (str v.x.m.path).toList=L:=by rw[ak,ak];exact hL
     have HL:=Qh hL;have uj:(0:Int)<(a:Int):=by omega
     have aB1:(1:Int)≤(a:Int):=by omega
     have wk:IntKind.i64.wrap ((a:Int) - 1)=(a:Int) - 1:=by rw[IntKind.wrap_i64];omega
     have wk0:(0:Int)≤(a:Int) - 1:=by omega
     have wk2:(a:Int) - 1<(n:Int):=by omega
     have wk3:((a:Int) - 1).toNat=a - 1:=by omega
     have han:(a:Int)<(n:Int):=by omega
     clear hu hv hL Ov hzl Z X9;go_upto_region 6 with fail
     cases L with
     |true=>
      go_quiet (fail)
      have fa0:=E.out.frozen (a*10);have fb0:=E.out.frozen ((a - 1)*10);have fa1:=E.out.frozen (a*10+1);have fb1:=E.out.frozen ((a - 1)*10+1);have fa2:=E.out.frozen (a*10+2);have fb2:=E.out.frozen ((a - 1)*10+2);have fa3:=E.out.frozen (a*10+3);have fb3:=E.out.frozen ((a - 1)*10+3);have fa4:=E.out.frozen (a*10+4);have fb4:=E.out.frozen ((a - 1)*10+4);have fa5:=E.out.frozen (a*10+5);have fb5:=E.out.frozen ((a - 1)*10+5);have fa6:=E.out.frozen (a*10+6);have fb6:=E.out.frozen ((a - 1)*10+6);have fa7:=E.out.frozen (a*10+7);have fb7:=E.out.frozen ((a - 1)*10+7);have fa8:=E.out.frozen (a*10+8);have fb8:=E.out.frozen ((a - 1)*10+8);have fa9:=E.out.frozen (a*10+9);have fb9:=E.out.frozen ((a - 1)*10+9);have DW:Hid (Ins (vr T a) k (a - 1)):=Qh (hN.out.swap h0 (by rw[vz.out];omega) (by rw[←I.out.1,←I.out.2];exact HL.out));go_upto_region 8 with fail
      go_region
      go_wp2;go_roundw
      case rel=>exact⟨a - 1,vr T a,AM zs a,by omega,by go_num,Qh (HSW.out _),DW⟩
      case measure=>simp[RowKit.intOf];omega
     |false=>
      have Xu:Hid (KZ T (k+1)):=Qh (hN.out.done l.out (by rw[vz.out];omega) (.inr (by rw[←I.out.1,←I.out.2];exact HL.out)))
      go_quiet (fail)
      go_wp2;go_roundw
      case rel=>exact⟨k+1,T,zs,by omega,.inl (by omega),by go_num,Qh (hO.out.drewN _),Xu⟩
      case measure=>simp[RowKit.intOf];omega
    ·have uj:decide ((0:Int)<(a:Int))=false:=decide_eq_false (by omega)
     have cn:decide (0<a)=false:=decide_eq_false (by omega);have Xu:Hid (KZ T (k+1)):=Qh (hN.out.done l.out (by rw[vz.out];omega) (.inl (by omega)));go_upto_region 6 with fail
     go_quiet (fail)
     go_wp2;go_roundw
     case rel=>exact⟨k+1,T,zs,by omega,.inl (by omega),by go_num,Qh (hO.out.drewN _),Xu⟩
     case measure=>simp[RowKit.intOf];omega
  ·have H:Hid (vV w wr ms S q n (jH S) zs):=Qh (by
    have hT:T=jH S:=KZ.sorted HA.out hO.out.perm (fun a b h1 M=>hP.out a b h1 (by have:=hO.out.NF;omega));rw[←hT]
    exact hO.out)
   have uh:¬((k:Int)<(n:Int)):=by omega
   clear hO hP;go_wp2_with fail;clear uh jM t ay HM HS HA HR HC HO;obtain⟨wS,rfl⟩:∃x,x=wr:=⟨_,rfl⟩
   go_loopw [5,6,7,8] (fun o i _ _ wr=>∃(k:Nat) (rs:List NP) (vo:Value),k≤n∧vo=o∧i=.int .i64 (k:Int)∧Hid (Gd wS wr (Qu (kT ms S)) k vo rs)) (fun _ i _ _ _=>n - (RowKit.intOf i).toNat)
   case atStart=>exact⟨0,[],_,Nat.zero_le _,rfl,rfl,Qh ⟨Below.refl _ _,World.ownsRow_nil _ _ _ _,rfl,rfl,fun x hx=>(by cases hx),fun x hx=>(by cases hx)⟩⟩
   case round=>
    obtain⟨k,rs,o,hk,rfl,rfl,hO⟩:=hrel;obtain⟨A,rfl⟩:∃x,x=wr:=⟨_,rfl⟩
    have HSN:Hid (S.length=n):=Qh (by rw[←H.out.perm.length_eq];exact H.out.NF)
    by_cases ay:k<n
    ·obtain⟨g,hq,Z,X9,O⟩:=H.out.row (by omega)
     subst hq;have hTn:=H.out.NF;have uj:k<zs.length:=by rw[H.out.len];exact ay
     have Mb:k<(jH S).length:=by rw[hTn];exact ay
     have Xy:Hid (∀j,j<n→∀W',Below wS.heap.size wS W'→sZ W' g (j*10) (zs.getD j iL)):=Qh (fun j hj W' hb=>(O.rJ (by rw[H.out.len];exact hj)).below X9 hb);have hc:=Xy.out k ay A hO.out.bel;have WV:=H.out.says.m Mb;have Yk:=H.out.says.k Mb;have Z2:=H.out.DQ _ (sy zs k uj);have HTK:Hid (((Qu (kT ms S)).getD k aT).m=j8 ((jH S).getD k ([],0)).1 (ms.getD ((jH S).getD k ([],0)).2 iJ) (if(ms.getD ((jH S).getD k ([],0)).2 iJ).kind=48 then ua (jH S) ((jH S).getD k ([],0)).2 else[])):=Qh (by rw[XQ,Sx ms S Mb];rfl);obtain⟨u,hu⟩:∃u,zs.getD k iL=u:=⟨_,rfl⟩
     obtain⟨e,he⟩:∃e,(jH S).getD k ([],0)=e:=⟨_,rfl⟩
     rw[hu]at hc WV Yk Z2;rw[he]at WV Yk HTK;have f:=Qh (And.intro hu (And.intro he (And.intro WV Yk)));have HBU:Hid (je A u.x):=Qh (Z2.1.below (H.out.bel.trans (hO.out.bel.mono H.out.bel.size)));have NR:=Qh Z2.2;have sg:Hid (k<(Qu (kT ms S)).length):=Qh (by rw[Of,vt,HSN.out];exact ay);obtain⟨c0,c1,c2,c3,c4,c5,c6,c7,c8,c9⟩:=hc;have qX:(k:Int)<(n:Int):=by omega
     clear WV Yk Z2 hu he uj Mb hTn Z X9 O;go_upto_region 14 with fail;obtain⟨w0,GQ⟩:∃w0,A.alloc (.cells #[.string (str u.x.m.path),.string (str u.x.m.target),.string (str u.x.m.ao),.int .u8 (u.x.m.kind.toNat:Int),.int .i64 u.x.m.mode,.int .i64 u.x.m.uid,.int .i64 u.x.m.gid,.int .i64 u.x.m.time,.slice u.x.p u.x.m.body.length u.x.c] 52)=w0:=⟨_,rfl⟩
     have D5:au w0 A.heap.size 52 #[.string (str u.x.m.path),.string (str u.x.m.target),.string (str u.x.m.ao),.int .u8 (u.x.m.kind.toNat:Int),.int .i64 u.x.m.mode,.int .i64 u.x.m.uid,.int .i64 u.x.m.gid,.int .i64 u.x.m.time,.slice u.x.p u.x.m.body.length u.x.c]:=by rw[←GQ];exact au.new A _ _
     have h00:Below A.heap.size A w0:=by rw[←GQ];exact(Below.refl _ _).alloc (Qk _) _
     rw[GQ];have x2:=D5.cell 2;have f2:=D5.frozen 2;simp only[Qc,Qa,Qb]at x2;have sj:=Qh D5;have H00:=Qh h00;clear GQ D5 h00 c0 c1 c2 c3 c4 c5 c6 c7 c8 c9;go_upto_region 15 with fail;obtain⟨w1,KK⟩:∃w1,w0.setCell ⟨A.heap.size,2,none⟩ (.string ⟨#[]⟩)=w1:=⟨_,rfl⟩
     have B:au w1 A.heap.size 52 #[.string (str u.x.m.path),.string (str u.x.m.target),.string (str ([]:List UInt8)),.int .u8 (u.x.m.kind.toNat:Int),.int .i64 u.x.m.mode,.int .i64 u.x.m.uid,.int .i64 u.x.m.gid,.int .i64 u.x.m.time,.slice u.x.p u.x.m.body.length u.x.c]:=by
      rw[←KK];exact sj.out.set 2 _ (by decide:2<9)
     have WE:Below A.heap.size A w1:=by rw[←KK];exact H00.out.setCell (p:=⟨A.heap.size,2,none⟩) (Qk _) _
     rw[KK];have G:=Qh B;have H1:=Qh WE;have SH:=Qh (hO.out.bel.trans (WE.mono hO.out.bel.size));have x3:=B.cell 3;simp only[Qc,Qa,Qb]at x3;have ek:=sE u.x.m.kind 48 48 rfl;obtain⟨kn,cn⟩:∃kn:Int,(u.x.m.kind.toNat:Int)=kn:=⟨_,rfl⟩
     rw[cn]at x3 ek;have ou:=Qh cn;have HKU:Hid ((ms.getD e.2 iJ).kind=u.x.m.kind):=Qh (by rw[f.out.2.2.1];rfl);clear KK B WE x2 f2 cn;go_wp2_with fail
     by_cases nD:u.x.m.kind=48
     ·rw[decide_eq_true nD]at ek
      have H48:=Qh nD;have ak1:Hid ((ms.getD e.2 iJ).kind=48):=Qh (by rw[HKU.out];exact nD);clear nD;clear x3
      go_loopw [8] (fun j wz=>∃(a:Nat),a≤k∧j=.int .i64 (a:Int)∧Hid (au wz A.heap.size 52 #[.string (str u.x.m.path),.string (str u.x.m.target),.string (str ([]:List UInt8)),.int .u8 (u.x.m.kind.toNat:Int),.int .i64 u.x.m.mode,.int .i64 u.x.m.uid,.int .i64 u.x.m.gid,.int .i64 u.x.m.time,.slice u.x.p u.x.m.body.length u.x.c])∧Hid (Below A.heap.size A wz)∧Hid (∀i,i<a→((jH S).getD i ([],0)).2≠e.2)) (fun j _=>k+1 - (RowKit.intOf j).toNat)
      case atStart=>exact⟨0,Nat.zero_le _,rfl,G,H1,Qh (fun i hi=>absurd hi (by omega))⟩
      case round=>
       clear G H1 SH;obtain⟨a,ha,rfl,G,H1,hN⟩:=hrel;have SH:=Qh (hO.out.bel.trans (H1.out.mono hO.out.bel.size));have x3:=G.out.cell 3;simp only[Qc,Qa,Qb,ou.out]at x3;have aK3:(a:Int)≤(k:Int):=by omega
       have X:a<(jH S).length:=by rw[H.out.NF];omega
       have hd:=Xy.out a (by omega) wr SH.out;have Y:=(Xy.out k ay wr SH.out).2.2.2.2.2.2.2.2.2;have hvm:=H.out.says.m X;have hvk:=H.out.says.k X;rw[f.out.1]at Y;have HAK:Hid (a=k→(zs.getD a iL)=u):=Qh (fun h=>by rw[h];exact f.out.1);obtain⟨v,hv⟩:∃v,zs.getD a iL=v:=⟨_,rfl⟩
       rw[hv]at hd hvm hvk HAK;have J:=Qh (And.intro X (And.intro hvm hvk));obtain⟨d0,d1,d2,d3,d4,d5,d6,d7,d8,d9⟩:=hd;have W:=sE v.x.m.kind 48 48 rfl;obtain⟨kv,OB⟩:∃kv:Int,(v.x.m.kind.toNat:Int)=kv:=⟨_,rfl⟩
       rw[OB]at d3 W;have ZA:(a:Int)<(n:Int):=by omega
       clear hv hvm hvk X OB
       by_cases N:v.k=u.k
       ·have Mh:v.x.m.kind=48:=by
         have h1:=J.out.2.1;have M:=J.out.2.2;have h3:=f.out.2.2.2;rw[h1,←M,N,h3];exact ak1.out
        rw[decide_eq_true Mh]at W
        have HLD:Hid (ua (jH S) e.2=v.x.m.path):=Qh (by
         have M:((jH S).getD a ([],0)).2=e.2:=by rw[←J.out.2.2,N];exact f.out.2.2.2
         rw[←M];rw[CI J.out.1 (fun j hj=>by rw[M];exact hN.out j hj),J.out.2.1]
         rfl)
        have HV:Hid (ub u.x.m v.x.m.path=((Qu (kT ms S)).getD k aT).m):=Qh (by
         rw[HTK.out,if_pos ak1.out,HLD.out,f.out.2.2.1]
         rfl)
        rw[N]at d9;have f2:=G.out.frozen 2;have x2:=G.out.cell 2;simp only[Qc,Qa,Qb]at x2;clear Mh N;go_upto_region 18 with fail
        go_quiet (fail)
        go_upto_region 20 with fail
        obtain⟨wq,xD⟩:∃wq,World.drewN wr nq=wq:=⟨_,rfl⟩
        have hbq:Below A.heap.size A wq:=by rw[←xD];exact below_drewN H1.out _
        have hxq:au wq A.heap.size 52 #[.string (str u.x.m.path),.string (str u.x.m.target),.string (str ([]:List UInt8)),.int .u8 (u.x.m.kind.toNat:Int),.int .i64 u.x.m.mode,.int .i64 u.x.m.uid,.int .i64 u.x.m.gid,.int .i64 u.x.m.time,.slice u.x.p u.x.m.body.length u.x.c]:=by rw[←xD];exact G.out.drewN _
        obtain⟨wT,WW⟩:∃wT,wq.setCell ⟨A.heap.size,2,none⟩ (.string (str v.x.m.path))=wT:=⟨_,rfl⟩
        rw[xD,WW];have H1':Hid (Below A.heap.size A wT):=Qh (by rw[←WW];exact hbq.setCell (p:=⟨A.heap.size,2,none⟩) (Qk _) _);have HX':Hid (au wT A.heap.size 52 #[.string (str u.x.m.path),.string (str u.x.m.target),.string (str v.x.m.path),.int .u8 (u.x.m.kind.toNat:Int),.int .i64 u.x.m.mode,.int .i64 u.x.m.uid,.int .i64 u.x.m.gid,.int .i64 u.x.m.time,.slice u.x.p u.x.m.body.length u.x.c]):=Qh (by rw[←WW];exact hxq.set 2 _ (by decide:2<9));clear G H1;have H1:=H1';have G:=HX';clear H1' HX' WW hbq hxq xD x2 f2;have x7:=(G.out.alloc (.cells #[] 5)).cell 8;simp only[Qc,Qa,Qb]at x7;have iA:=Qh (HBU.out.below H1.out)
        go_wp2_with (at_builtin;refine kt rfl _ _ 26 rfl wT.heap.size 5 i0 Tryz.underlying26 HI.out rC.out pX.out pD.out _ 0 [] rfl (World.ownsRow_made wT #[] 0 (Qk _) (by decide) rfl) u.x.p u.x.m.body.length u.x.c u.x.m.body rfl (iA.out.nB.alloc _) rfl (by have:=NR.out;omega) (by first|simp|exact Qk _) ?_)
        intro v2 w2 V r;have Cu:j3 w2 wT.heap.size v2 u.x.m.body.length u.x.m.body:=by simpa [j3]using V
        have t:Kept ag wT w2:=(((Kept.refl ag wT).alloc _)).grown r (by intro k hk;simp[Value.ownBlock]at hk;omega);have Ja:Below wT.heap.size wT w2:=t.below (Qk _) (fun _ h=>h.elim);obtain⟨D,c2,rfl,Jl,Jn,cj,_,Cn⟩:=Cu.slice;have R:=G.out.below Ja G.out.lt;have y7:=R.cell 8;have f7:=R.frozen 8;simp only[Qc,Qa,Qb]at y7;have H2:=Qh (H1.out.trans (Ja.mono H1.out.size));have cB:=Qh cj;have l:=Qh Cn;have pH:=Qh R;clear V r Cu t Ja cj Cn R x7;go_upto_region 21 with fail;obtain⟨w3,hw⟩:∃w3,w2.setCell ⟨A.heap.size,8,none⟩ (.slice D u.x.m.body.length c2)=w3:=⟨_,rfl⟩
        have B:au w3 A.heap.size 52 #[.string (str u.x.m.path),.string (str u.x.m.target),.string (str v.x.m.path),.int .u8 (u.x.m.kind.toNat:Int),.int .i64 u.x.m.mode,.int .i64 u.x.m.uid,.int .i64 u.x.m.gid,.int .i64 u.x.m.time,.slice D u.x.m.body.length c2]:=by rw[←hw];exact pH.out.set 8 _ (by decide:8<9)
        have jC:Kept (aA A.heap.size) w2 w3:=by rw[←hw];exact(Kept.refl (aA A.heap.size) w2).setCell (a:=⟨A.heap.size,8,none⟩) (.inr rfl) _
        have kW:iC w3 D u.x.m.body.length u.x.m.body:=cB.out.kept jC (fun _ y hy e=>by
         have h1:=(l.out y hy).1;have M:y.block=A.heap.size:=e;have h3:=G.out.lt
         omega)
        have H3:Hid (Below A.heap.size A w3):=Qh (by rw[←hw];exact H2.out.setCell (p:=⟨A.heap.size,8,none⟩) (Qk _) _);have z0:=B.cell 0;have z1:=B.cell 1;have z2:=B.cell 2;have z3:=B.cell 3;have z4:=B.cell 4;have z5:=B.cell 5;have z6:=B.cell 6;have z7:=B.cell 7;have z8:=B.cell 8;simp only[Qc,Qa,Qb]at z0 z1 z2 z3 z4 z5 z6 z7 z8;rw[hw];have U:=Qh (hO.out.below H3.out);have Ew:Hid (je w3 ⟨ub u.x.m v.x.m.path,D,c2⟩):=Qh ⟨kW,Jl,Jn⟩
        have nR:Hid (0<u.x.m.body.length→∀z,D=some z→o.ownBlock≠some z.block):=Qh (fun _ z hz e=>by
         have h1:=(l.out z hz).1;have M:=(World.ownsRow.lt hO.out.row _ e).2;have h3:=H1.out.size
         omega)
        clear hw B jC kW y7 f7
        go_wp2_with (at_builtin;refine zY rfl _ _ rfl wS.heap.size o rs rfl (iD U.out.row ((Below.refl _ _).alloc (Qk _) _)) w3.heap.size 1 ⟨ub u.x.m v.x.m.path,D,c2⟩ rfl (au.new w3 _ _) (by have:=U.out.len;omega) (by have:=U.out.bel.size;first|omega|(simp;omega)) ?_)
        intro v4 w4 bM hg GI;have Io:Below w3.heap.size w3 (w3.alloc (.cells #[.string (str u.x.m.path),.string (str u.x.m.target),.string (str v.x.m.path),.int .u8 (u.x.m.kind.toNat:Int),.int .i64 u.x.m.mode,.int .i64 u.x.m.uid,.int .i64 u.x.m.gid,.int .i64 u.x.m.time,.slice D u.x.m.body.length c2] 52)):=(Below.refl _ _).alloc (Qk _) _;rw[show rs.length+1=(rs++[(⟨ub u.x.m v.x.m.path,D,c2⟩:NP)]).length by simp]at bM;have HO4:Hid (Gd wS w4 (Qu (kT ms S)) (k+1) v4 (rs++[⟨ub u.x.m v.x.m.path,D,c2⟩])):=Qh ((U.out.below Io).add (y:=⟨ub u.x.m v.x.m.path,D,c2⟩) sg.out HV.out (Ew.out.below Io) nR.out bM hg GI);clear bM hg GI Io z0 z1 z2 z3 z4 z5 z6 z7 z8;go_wp2;go_roundw
        case rel=>exact⟨k+1,_,_,by omega,rfl,by go_num,HO4⟩
        case measure=>simp[RowKit.intOf];omega
       ·have e9:(((v.k:Int))==(u.k:Int))=false:=by
         rw[beq_eq_false_iff_ne];omega
        have ck:¬((v.k:Int)=(u.k:Int)):=by omega
        have DW:Hid (∀i,i<a+1→((jH S).getD i ([],0)).2≠e.2):=Qh (fun i hi h=>by
         by_cases h1:i=a
         ·apply N
          rw[J.out.2.2,f.out.2.2.2,←h1];exact h
         ·exact hN.out i (by omega) h)
        have hak:a<k:=by
         rcases Nat.lt_or_ge a k with h|h
         ·exact h
         ·exact absurd (congrArg CP.k (HAK.out (by omega))) N
        by_cases Mh:v.x.m.kind=48
        ·rw[decide_eq_true Mh]at W
         clear Mh N;go_upto_region 18 with fail
         go_quiet (fail)
         go_wp2;go_roundw
         case rel=>exact⟨a+1,by omega,by go_num,Qh (G.out.drewN _),Qh (below_drewN H1.out _),DW⟩
         case measure=>simp[RowKit.intOf];omega
        ·rw[decide_eq_false Mh]at W
         clear Mh N;go_upto_region 18 with fail
         go_quiet (fail)
         go_wp2;go_roundw
         case rel=>exact⟨a+1,by omega,by go_num,Qh (G.out.drewN _),Qh (below_drewN H1.out _),DW⟩
         case measure=>simp[RowKit.intOf];omega
     ·rw[decide_eq_false nD]at ek
      have HV:Hid (ub u.x.m ([]:List UInt8)=((Qu (kT ms S)).getD k aT).m):=Qh (by
       rw[HTK.out,if_neg (by rw[HKU.out];exact nD),f.out.2.2.1]
       rfl)
      clear nD
      go_loop [8] (fun j=>j=.int .i64 0) (fun _=>0)
      case atStart=>rfl
      case round=>
       subst hrel;have la:(0:Int)≤(k:Int):=by omega
       go_upto_region 20 with fail
       have x7:=(G.out.alloc (.cells #[] 5)).cell 8;simp only[Qc,Qa,Qb]at x7;have iA:=Qh (HBU.out.below H1.out)
       go_wp2_with (at_builtin;refine kt rfl _ _ 26 rfl w1.heap.size 5 i0 Tryz.underlying26 HI.out rC.out pX.out pD.out _ 0 [] rfl (World.ownsRow_made w1 #[] 0 (Qk _) (by decide) rfl) u.x.p u.x.m.body.length u.x.c u.x.m.body rfl (iA.out.nB.alloc _) rfl (by have:=NR.out;omega) (by first|simp|exact Qk _) ?_)
       intro v2 w2 V r;have Cu:j3 w2 w1.heap.size v2 u.x.m.body.length u.x.m.body:=by simpa [j3]using V
       have t:Kept ag w1 w2:=(((Kept.refl ag w1).alloc _)).grown r (by intro k hk;simp[Value.ownBlock]at hk;omega);have Ja:Below w1.heap.size w1 w2:=t.below (Qk _) (fun _ h=>h.elim);obtain⟨D,c2,rfl,Jl,Jn,cj,_,Cn⟩:=Cu.slice;have R:=G.out.below Ja G.out.lt;have y7:=R.cell 8;have f7:=R.frozen 8;simp only[Qc,Qa,Qb]at y7;have H2:=Qh (H1.out.trans (Ja.mono H1.out.size));have cB:=Qh cj;have l:=Qh Cn;have pH:=Qh R;clear V r Cu t Ja cj Cn R x7;go_upto_region 21 with fail;obtain⟨w3,hw⟩:∃w3,w2.setCell ⟨A.heap.size,8,none⟩ (.slice D u.x.m.body.length c2)=w3:=⟨_,rfl⟩
       have B:au w3 A.heap.size 52 #[.string (str u.x.m.path),.string (str u.x.m.target),.string (str ([]:List UInt8)),.int .u8 (u.x.m.kind.toNat:Int),.int .i64 u.x.m.mode,.int .i64 u.x.m.uid,.int .i64 u.x.m.gid,.int .i64 u.x.m.time,.slice D u.x.m.body.length c2]:=by rw[←hw];exact pH.out.set 8 _ (by decide:8<9)
       have jC:Kept (aA A.heap.size) w2 w3:=by rw[←hw];exact(Kept.refl (aA A.heap.size) w2).setCell (a:=⟨A.heap.size,8,none⟩) (.inr rfl) _
       have kW:iC w3 D u.x.m.body.length u.x.m.body:=cB.out.kept jC (fun _ y hy e=>by
        have h1:=(l.out y hy).1;have M:y.block=A.heap.size:=e;have h3:=G.out.lt
        omega)
       have H3:Hid (Below A.heap.size A w3):=Qh (by rw[←hw];exact H2.out.setCell (p:=⟨A.heap.size,8,none⟩) (Qk _) _);have z0:=B.cell 0;have z1:=B.cell 1;have z2:=B.cell 2;have z3:=B.cell 3;have z4:=B.cell 4;have z5:=B.cell 5;have z6:=B.cell 6;have z7:=B.cell 7;have z8:=B.cell 8;simp only[Qc,Qa,Qb]at z0 z1 z2 z3 z4 z5 z6 z7 z8;rw[hw];have U:=Qh (hO.out.below H3.out);have Ew:Hid (je w3 ⟨ub u.x.m ([]:List UInt8),D,c2⟩):=Qh ⟨kW,Jl,Jn⟩
       have nR:Hid (0<u.x.m.body.length→∀z,D=some z→o.ownBlock≠some z.block):=Qh (fun _ z hz e=>by
        have h1:=(l.out z hz).1;have M:=(World.ownsRow.lt hO.out.row _ e).2;have h3:=H1.out.size
        omega)
       clear hw B jC kW y7 f7
       go_wp2_with (at_builtin;refine zY rfl _ _ rfl wS.heap.size o rs rfl (iD U.out.row ((Below.refl _ _).alloc (Qk _) _)) w3.heap.size 1 ⟨ub u.x.m ([]:List UInt8),D,c2⟩ rfl (au.new w3 _ _) (by have:=U.out.len;omega) (by have:=U.out.bel.size;first|omega|(simp;omega)) ?_)
       intro v4 w4 bM hg GI;have Io:Below w3.heap.size w3 (w3.alloc (.cells #[.string (str u.x.m.path),.string (str u.x.m.target),.string (str ([]:List UInt8)),.int .u8 (u.x.m.kind.toNat:Int),.int .i64 u.x.m.mode,.int .i64 u.x.m.uid,.int .i64 u.x.m.gid,.int .i64 u.x.m.time,.slice D u.x.m.body.length c2] 52)):=(Below.refl _ _).alloc (Qk _) _;rw[show rs.length+1=(rs++[(⟨ub u.x.m ([]:List UInt8),D,c2⟩:NP)]).length by simp]at bM;have HO4:Hid (Gd wS w4 (Qu (kT ms S)) (k+1) v4 (rs++[⟨ub u.x.m ([]:List UInt8),D,c2⟩])):=Qh ((U.out.below Io).add (y:=⟨ub u.x.m ([]:List UInt8),D,c2⟩) sg.out HV.out (Ew.out.below Io) nR.out bM hg GI);clear bM hg GI Io z0 z1 z2 z3 z4 z5 z6 z7 z8;go_wp2;go_roundw
       case rel=>exact⟨k+1,_,_,by omega,rfl,by go_num,HO4⟩
       case measure=>simp[RowKit.intOf];omega
    ·obtain rfl:k=n:=by omega
     have uh:¬((k:Int)<(k:Int)):=by omega
     have hlen:=hO.out.len;obtain⟨q2,d,rfl,_,_,hm⟩:=Ry hO.out.row hO.out.bodies;rw[hlen]at hm⊢;have NU:=Qh hm;clear hm hlen;go_wp2;go_ret;refine⟨q2,d,rs,rfl,?_,NU.out,H.out.bel.trans (hO.out.bel.mono H.out.bel.size)⟩;rw[hO.out.same,List.take_of_length_le (by rw[Of,vt,HSN.out];exact Qk _),al3]
theorem Nr {ms:List aB} {ys:List CP} {S:St} (h:rF ms ys S):kP ys=S.map (·.1):=by
 have:=congrArg (List.map fun x:aC × Nat=>x.1.path) h;rw[List.map_map,List.map_map]at this;exact this
theorem Rn {S:St} (h:SJ (S.map (·.1)) p=none):look S p=none:=by
 unfold SJ at h;rw[List.findIdx?_eq_none_iff]at h;unfold look
 rw[List.find?_eq_none.2 (fun e he=>by
  have:=h e.1 (List.mem_map.2 ⟨e,he,rfl⟩)
  simpa using this)]
 rfl
theorem Ro {S:St} (h:SJ (S.map (·.1)) p=some f):f<S.length∧look S p=some (S.getD f ([],0)).2:=by
 unfold SJ at h;rw[List.findIdx?_eq_some_iff_getElem]at h;obtain⟨hf,h1,A⟩:=h;rw[Qi]at hf;refine⟨hf,?_⟩;unfold look
 have:S.find? (fun e=>e.1==p)=some S[f]:=by
  rw[List.find?_eq_some_iff_getElem];refine⟨by simpa using h1,f,hf,rfl,fun j B=>?_⟩;have:=A j B
  simpa using this
 rw[this,qv hf];rfl
structure qN (W0 w wr:World) (ms:List aB) (S:St) (o:Value) (ys:List CP):Prop where
 bel:Below w.heap.size w wr
 row:wr.ownsRow w.heap.size 81 10 o ys.length (kG ys)
 says:rF ms ys S
 DQ:∀y∈ys,je W0 y.x∧y.x.m.body.length≤140737488351232
section
variable {W0 w wr w':World} {ms:List aB} {S:St} {o:Value} {ys:List CP}
theorem qN.below (h:qN W0 w wr ms S o ys) (hb:Below wr.heap.size wr w'):qN W0 w w' ms S o ys where
 bel:=h.bel.trans (hb.mono h.bel.size)
 row:=iD h.row hb
 says:=h.says
 DQ:=h.DQ
theorem qN.add (h:qN W0 w wr ms S o ys) {y:CP} {e:List UInt8 × Nat} (hy:vC y=Gj ms e) (hb:je W0 y.x∧y.x.m.body.length≤140737488351232)
 {o':Value} (bM:w'.ownsRow w.heap.size 81 10 o' (ys++[y]).length (kG (ys++[y]))) (hg:wr.grownBy w' o.ownBlock):qN W0 w w' ms (S++[e]) o' (ys++[y]) where
 bel:=h.bel.trans (((Kept.refl (fun b=>o.ownBlock=some b) wr).grown hg (fun k hk=>.inr hk)).below h.bel.size (fun k hk=>(World.ownsRow.lt h.row _ hk).1))
 row:=bM
 says:=h.says.snoc hy
 DQ:=fun x hx=>by
  rcases List.mem_append.1 hx with hx|hx
  ·exact h.DQ x hx
  ·rw[List.mem_singleton.1 hx]
   exact hb
theorem qN.cls (h:qN W0 w wr ms S o ys) (hw:Below W0.heap.size W0 wr):∃p c,o=.slice p ys.length c∧ys.length≤c∧c≤maxLen∧wu wr p ys.length ys:=Od h.row (fun y hy=>(h.DQ y hy).1.below hw)
theorem qN.next {w2 w5:World} {S2:St} {o2:Value} {ys2:List CP} (h:qN W0 w2 w5 ms S2 o2 ys2) (hb:Below w.heap.size w w2):qN W0 w w5 ms S2 o2 ys2 where
 bel:=hb.trans (h.bel.mono hb.size)
 row:=⟨h.row.1,h.row.2.imp id fun⟨g,cap,cur,h1,h2,h3⟩=>⟨g,cap,cur,h1,Nat.le_trans hb.size h2,h3⟩⟩
 says:=h.says
 DQ:=h.DQ
end
theorem ac5 {w:World} {x:MP} (h:js w x) (p:List UInt8):je w ⟨j8 p x.m [],x.p,x.c⟩:=⟨h.nB,h.le,h.mx⟩
theorem AO (S:St) (p:List UInt8) (j:Nat) (hj:j<S.length):(S.take (j+1)).filter (fun e=>!(e.1==p))=(S.take j).filter (fun e=>!(e.1==p))++(if(S.getD j ([],0)).1=p then[]else[S.getD j ([],0)]):=by
 rw[List.take_succ_eq_append_getElem hj,List.filter_append,qv hj]
 congr 1
 by_cases h:S[j].1=p
 ·rw[if_pos h];simp[h]
 ·rw[if_neg h];simp[h]
theorem ac3 {w:World} {b0 b1 b2 b3 b4 b5 b6 b7 b8 b9:Value} (hb:au w g t #[b0,b1,b2,b3,b4,b5,b6,b7,b8,b9]) (a0 a1 a2 a3 a4 a5 a6 a7 a8 a9 p:Value):
 au (((((((((((w.setCell ⟨g,0,none⟩ a0).setCell ⟨g,1,none⟩ a1).setCell ⟨g,2,none⟩ a2).setCell ⟨g,3,none⟩ a3).setCell ⟨g,4,none⟩ a4).setCell ⟨g,5,none⟩ a5).setCell ⟨g,6,none⟩ a6).setCell ⟨g,7,none⟩ a7).setCell ⟨g,8,none⟩ a8).setCell ⟨g,9,none⟩ a9).setCell ⟨g,0,none⟩ p) g t #[p,a1,a2,a3,a4,a5,a6,a7,a8,a9]:=
 ((((((((((hb.set 0 a0 (by show 0<10;decide)).set 1 a1 (by show 1<10;decide)).set 2 a2 (by show 2<10;decide)).set 3 a3 (by show 3<10;decide)).set 4 a4 (by show 4<10;decide)).set 5 a5 (by show 5<10;decide)).set 6 a6 (by show 6<10;decide)).set 7 a7 (by show 7<10;decide)).set 8 a8 (by show 8<10;decide)).set 9 a9 (by show 9<10;decide)).set 0 p (by show 0<10;decide)
theorem TT {w w':World} {n:Nat} (hk:Below n w w') (hg:n≤g) (a0 a1 a2 a3 a4 a5 a6 a7 a8 a9 p:Value):Below n w (((((((((((w'.setCell ⟨g,0,none⟩ a0).setCell ⟨g,1,none⟩ a1).setCell ⟨g,2,none⟩ a2).setCell ⟨g,3,none⟩ a3).setCell ⟨g,4,none⟩ a4).setCell ⟨g,5,none⟩ a5).setCell ⟨g,6,none⟩ a6).setCell ⟨g,7,none⟩ a7).setCell ⟨g,8,none⟩ a8).setCell ⟨g,9,none⟩ a9).setCell ⟨g,0,none⟩ p):=
 ((((((((((hk.setCell (p:=⟨g,0,none⟩) hg a0).setCell (p:=⟨g,1,none⟩) hg a1).setCell (p:=⟨g,2,none⟩) hg a2).setCell (p:=⟨g,3,none⟩) hg a3).setCell (p:=⟨g,4,none⟩) hg a4).setCell (p:=⟨g,5,none⟩) hg a5).setCell (p:=⟨g,6,none⟩) hg a6).setCell (p:=⟨g,7,none⟩) hg a7).setCell (p:=⟨g,8,none⟩) hg a8).setCell (p:=⟨g,9,none⟩) hg a9).setCell (p:=⟨g,0,none⟩) hg p
theorem VE {w:World} {b:Nat} {cs:Array Value} (hb:au w b t cs) (ck:g≠b) (a0 a1 a2 a3 a4 a5 a6 a7 a8 a9 p:Value):au (((((((((((w.setCell ⟨g,0,none⟩ a0).setCell ⟨g,1,none⟩ a1).setCell ⟨g,2,none⟩ a2).setCell ⟨g,3,none⟩ a3).setCell ⟨g,4,none⟩ a4).setCell ⟨g,5,none⟩ a5).setCell ⟨g,6,none⟩ a6).setCell ⟨g,7,none⟩ a7).setCell ⟨g,8,none⟩ a8).setCell ⟨g,9,none⟩ a9).setCell ⟨g,0,none⟩ p) b t cs:=
 ((((((((((hb.other ck a0).other ck a1).other ck a2).other ck a3).other ck a4).other ck a5).other ck a6).other ck a7).other ck a8).other ck a9).other ck p
def CZ (m:aC) (p:List UInt8):aC:=⟨p,m.target,m.ao,m.kind,m.mode,m.uid,m.gid,m.time,m.body⟩
def yR (w:World) (ms:List aB) (e:Ending) (w':World):Prop:=
 ∃q d zs,e=.returned (.tuple #[.slice q (kH ms).1.length d,.agg #[.int .i64 (kH ms).2.1,.int .i64 ((kH ms).2.2:Int)]])∧zs.map NP.m=(kH ms).1∧bU w' q (kH ms).1.length zs∧Below w.heap.size w w'
theorem xq {w w':World} {ms:List aB} {e i:Int} (h:kH ms=([],e,k)) (hb:Below w.heap.size w w') (hi:i=(k:Int)):yR w ms (.returned (.tuple #[.slice none 0 0,.agg #[.int .i64 e,.int .i64 i]])) w':=
 ⟨none,0,[],by rw[h,hi];rfl,by rw[h];rfl,by rw[h];exact zt _ _,hb⟩
theorem RY (p:Option Addr) (n c:Nat) (xs:List MP) (w:World) (hM:jI w p n xs) (hn:n≤100000) (hF:∀x∈xs,x.m.path.length≤140737488351232∧x.m.target.length≤140737488351232∧x.m.body.length≤140737488351232):
 Calls Tryz.prog 17 #[.slice p n c] w (yR w (xs.map MP.m)):=by
 obtain⟨W,hW⟩:∃W,w.alloc (.cells #[.int .i64 0,.int .i64 0] 32)=W:=⟨_,rfl⟩
 have wD:Below w.heap.size w W:=by rw[←hW];exact(Below.refl _ _).alloc (Qk _) _
 have D5:au W w.heap.size 32 #[.int .i64 0,.int .i64 0]:=by rw[←hW];exact au.new w _ _
 have HM:=Qh (hM.below wD);have HL:=Qh hM.1;have HF:=Qh hF;have nG:=Qh wD;have sj:=Qh D5;clear hM hF wD D5
 go_enter Tryz.func17,Tryz.ntmps17
 go_upto_region 1 with fail
 clear hW;go_wp2_with fail
 go_loopw [4] (fun i wr=>∃(k:Nat),k≤n∧i=.int .i64 (k:Int)∧Hid (∀m∈(xs.map MP.m).take k,cf m=true)∧Hid (Below W.heap.size W wr)) (fun i _=>n - (RowKit.intOf i).toNat)
 case atStart=>exact⟨0,Nat.zero_le _,rfl,Qh (by simp),Qh (Below.refl _ _)⟩
 case round=>
  obtain⟨k,hk,rfl,hG,hB⟩:=hrel
  by_cases ay:k<n
  ·have qX:(k:Int)<(n:Int):=by omega
   have nF:k<xs.length:=by rw[HL.out];exact ay
   have b:=xr xs k nF;have qx:=qS xs k nF;obtain⟨b1,o1,rfl,ch,iB,nI⟩:=(HM.out.below hB.out).p6 ay;have sg:=Qh (And.intro nF (oD xs k));obtain⟨y,hy⟩:∃y,xs.getD k cz=y:=⟨_,rfl⟩
   rw[hy]at b qx nI sg;have HT:=Qh b;have Tg:=Qh qx;obtain⟨c0,c1,c2,c3,c4,c5,c6,c7⟩:=nI;clear iB ch hy b qx nF;go_wp2_with fail;refine(RZ y.m y.p y.c _ (HF.out y Tg.out).1 (HF.out y Tg.out).2.1).mono ?_;rintro e w4 ⟨rfl,nE⟩;have si:=Qh (hB.out.trans (nE.mono hB.out.size));clear nE c0 c1 c2 c3 c4 c5 c6 c7;obtain⟨g,J⟩:∃g,cf y.m=g:=⟨_,rfl⟩
   rw[J]
   cases g with
   |false=>
    have E:=Qh (EX (ms:=xs.map MP.m) (B3 (k:=k) (by rw[Qi];exact sg.out.1) hG.out (by rw[sg.out.2];exact J)));have H:=sj.out.below si.out sj.out.lt;have DP:=Qh H;have x0:=H.cell 0;have x1:=H.cell 1;have f0:=H.frozen 0;have f1:=H.frozen 1;simp only[Qc,Qa,Qb]at x0 x1;clear J H;go_wp2;refine bodyPost_ret (ry rfl _ _ w.heap.size _ rfl rfl 1 (k:Int) (qi DP.out _ _)) rfl ?_;have hb:=nG.out.trans (si.out.mono nG.out.size);exact xq E.out ((hb.setCell (p:=⟨w.heap.size,0,none⟩) (Qk _) _).setCell (p:=⟨w.heap.size,1,none⟩) (Qk _) _) rfl
   |true=>
    have sW:Hid (∀m∈(xs.map MP.m).take (k+1),cf m=true):=Qh (by
     rw[←List.map_take,HT.out];intro m hm;rcases List.mem_append.1 hm with h|h
     ·exact hG.out m (by rw[←List.map_take];exact h)
     ·rw[List.mem_singleton]at h
      rw[h]
      exact J)
    clear J;go_wp2;go_roundw
    case rel=>exact⟨k+1,by omega,by go_num,sW,si⟩
    case measure=>simp[RowKit.intOf];omega
  ·have uh:¬((k:Int)<(n:Int)):=by omega
   have S7:Hid (qO (xs.map MP.m)=none):=Qh (wR fun m hm=>hG.out m (by rw[List.take_of_length_le (by rw[Qi,HL.out];omega)];exact hm));clear hG;have Ww:Hid (qN W W wr (xs.map MP.m) [] (.slice none 0 0) []):=Qh ⟨hB.out,World.ownsRow_nil _ _ _ _,rfl,fun y hy=>(by cases hy)⟩;clear hB;go_wp2_with fail
   go_loopw [5,6,7,8,9,10,11] (fun l i _ _ _ _ _ wr=>∃(k:Nat) (S:St) (ys:List CP) (vo:Value),k≤n∧vo=l∧i=.int .i64 (k:Int)∧Hid (kJ (xs.map MP.m) k=.ok S)∧Hid (qN W W wr (xs.map MP.m) S vo ys)) (fun _ i _ _ _ _ _ _=>n - (RowKit.intOf i).toNat)
   case atStart=>exact⟨0,[],[],_,Nat.zero_le _,rfl,rfl,Qh rfl,Ww⟩
   case round=>
    clear Ww uh hk;obtain⟨k,S,ys,l,hk,rfl,rfl,hS,A⟩:=hrel;obtain⟨D,rfl⟩:∃x,x=wr:=⟨_,rfl⟩
    obtain⟨ql,cl,rfl,an7,an8,X1⟩:=A.out.cls A.out.bel;have U:=A.out.says.len;have hSk:S.length≤k:=(CE _ _ _ hS.out).len;have r:=Qh (And.intro U hSk);have hyl:ys.length≤100000:=by omega
    have yL:=Qh (And.intro an7 (And.intro an8 X1));clear an7 an8 X1 U hSk
    by_cases ay:k<n
    ·have qX:(k:Int)<(n:Int):=by omega
     have nF:k<xs.length:=by rw[HL.out];exact ay
     have qx:=qS xs k nF;obtain⟨b1,o1,rfl,ch,iB,nI⟩:=(HM.out.below A.out.bel).p6 ay;have X8:=oD xs k;have hbv:=HM.out.2.1 _ qx;obtain⟨v,hv⟩:∃v,xs.getD k cz=v:=⟨_,rfl⟩
     rw[hv]at qx nI X8 hbv;have HV:=Qh (And.intro nF (And.intro qx (And.intro X8 hbv)));have ou:Hid ((xs.map MP.m).length=k+1+(n - (k+1))):=Qh (by rw[Qi,HL.out];omega);obtain⟨c0,c1,c2,c3,c4,c5,c6,c7⟩:=nI;clear iB ch hv qx X8 hbv nF;go_upto_region 12 with fail;obtain⟨w1,KK⟩:∃w1,(D.alloc (.cells #[.string (str v.m.path),.string (str v.m.target),.int .u8 (v.m.kind.toNat:Int),.int .i64 v.m.mode,.int .i64 v.m.uid,.int .i64 v.m.gid,.int .i64 v.m.time,.slice v.p v.m.body.length v.c] 48)).alloc (.cells #[.string (str v.m.path),.string (str v.m.target),.string ⟨#[]⟩,.int .u8 (v.m.kind.toNat:Int),.int .i64 v.m.mode,.int .i64 v.m.uid,.int .i64 v.m.gid,.int .i64 v.m.time,.slice v.p v.m.body.length v.c,.int .i64 (k:Int)] 81)=w1:=⟨_,rfl⟩
     have QZ:au w1 D.heap.size 48 #[.string (str v.m.path),.string (str v.m.target),.int .u8 (v.m.kind.toNat:Int),.int .i64 v.m.mode,.int .i64 v.m.uid,.int .i64 v.m.gid,.int .i64 v.m.time,.slice v.p v.m.body.length v.c]:=by rw[←KK];exact(au.new D _ _).alloc _
     have xE:au w1 (D.heap.size+1) 81 #[.string (str v.m.path),.string (str v.m.target),.string ⟨#[]⟩,.int .u8 (v.m.kind.toNat:Int),.int .i64 v.m.mode,.int .i64 v.m.uid,.int .i64 v.m.gid,.int .i64 v.m.time,.slice v.p v.m.body.length v.c,.int .i64 (k:Int)]:=by
      rw[←KK,←World.size_alloc D (.cells #[.string (str v.m.path),.string (str v.m.target),.int .u8 (v.m.kind.toNat:Int),.int .i64 v.m.mode,.int .i64 v.m.uid,.int .i64 v.m.gid,.int .i64 v.m.time,.slice v.p v.m.body.length v.c] 48)];exact au.new _ _ _
     have WE:Below D.heap.size D w1:=by rw[←KK];exact((Below.refl _ _).alloc (Qk _) _).alloc (by rw[World.size_alloc];exact Nat.le_succ _) _
     rw[KK];have m0:=QZ.cell 0;have m1:=QZ.cell 1;have m2:=QZ.cell 2;simp only[Qc,Qa,Qb]at m0 m1 m2;have qf:=Qh QZ;have G:=Qh xE;have V:=Qh WE;have ek:=sE v.m.kind 49 49 rfl;obtain⟨kn,cn⟩:∃kn:Int,(v.m.kind.toNat:Int)=kn:=⟨_,rfl⟩
     rw[cn]at m2 ek;clear KK QZ xE WE c0 c1 c2 c3 c4 c5 c6 c7 cn
     by_cases EZ:v.m.kind=49
     ·rw[decide_eq_true EZ]at ek
      have H49:=Qh EZ;have aj9:=Qh (yL.out.2.2.below V.out);have hat:=YY ql ys.length cl ys v.m.target w1 aj9.out (by have:=yL.out.1;have:=yL.out.2.1;omega);rw[Nr A.out.says]at hat;have aj6:=Qh hat
      have HLD:Hid (pj (xs.map MP.m) S k=match look S v.m.target with|none=>none|some n=>if((xs.map MP.m).getD n iJ).kind=48 then some (oV S v.m.path n)else none):=Qh (by
       unfold pj
       dsimp only
       rw[HV.out.2.2.1,if_pos H49.out]
       all_goals (cases look S v.m.target<;>rfl))
      clear EZ hat;go_wp2_with fail;refine aj6.out.mono ?_;rintro e w' ⟨rfl,rfl⟩;clear aj6;obtain⟨fo,D6⟩:∃fo,SJ (S.map (·.1)) v.m.target=fo:=⟨_,rfl⟩
      rw[D6]
      cases fo with
      |none=>
       have Ii:=Qh (Rn D6);have E:=Qh (xd S7.out (i:=k) (by rw[ou.out];exact tD (xi hS.out (by rw[HLD.out,Ii.out])) _));have N:=A.out.bel.trans (V.out.mono A.out.bel.size);have L:=Qh N;have H:=sj.out.below N sj.out.lt;have DP:=Qh H;have x0:=H.cell 0;have x1:=H.cell 1;have f0:=H.frozen 0;have f1:=H.frozen 1;simp only[Qc,Qa,Qb]at x0 x1;clear H N D6 m0 m1 m2;simp only[atZ];go_wp2;refine bodyPost_ret (ry rfl _ _ w.heap.size _ rfl rfl 7 (k:Int) (qi DP.out _ _)) rfl ?_;have hb:=nG.out.trans (L.out.mono nG.out.size);exact xq E.out ((hb.setCell (p:=⟨w.heap.size,0,none⟩) (Qk _) _).setCell (p:=⟨w.heap.size,1,none⟩) (Qk _) _) rfl
      |some f=>
       obtain⟨hf,OC⟩:=Ro D6;have hfy:f<ys.length:=by rw[r.out.1];exact hf
       obtain⟨b2,o2,he2,cj,_,qU⟩:=aj9.out.rJ hfy;subst he2;have WV:=A.out.says.m hf;have Yk:=A.out.says.k hf;have Z2:=A.out.DQ _ (sy ys f hfy);obtain⟨u,hu⟩:∃u,ys.getD f iL=u:=⟨_,rfl⟩
       rw[hu]at qU WV Yk Z2;obtain⟨nn,UG⟩:∃nn,(S.getD f ([],0)).2=nn:=⟨_,rfl⟩
       rw[UG]at OC WV Yk;have KX:=Qh (And.intro WV (And.intro Yk Z2));have Ii:=Qh OC;obtain⟨d0,d1,d2,d3,d4,d5,d6,d7,d8,d9⟩:=qU;have ek8:=CB u.x.m.kind 48 48 rfl;have hfz:(f:Int)<(ys.length:Int):=by omega
       have hf0:(0:Int)≤(f:Int):=by omega
       have hf9:decide ((f:Int)<0)=false:=decide_eq_false (by omega);have hku:u.x.m.kind=((xs.map MP.m).getD nn iJ).kind:=by rw[WV];rfl
       obtain⟨ku,af2⟩:∃ku:Int,(u.x.m.kind.toNat:Int)=ku:=⟨_,rfl⟩
       have HKU:=Qh (And.intro hku af2);rw[af2]at d3 ek8;clear D6 hf OC hfy cj WV Yk Z2 hu UG hku af2;simp only[atZ]
       by_cases nD:u.x.m.kind=48
       ·rw[decide_eq_true nD,Bool.not_true]at ek8
        have Wz:Hid (pj (xs.map MP.m) S k=some (oV S v.m.path nn)):=Qh (by
         rw[HLD.out,Ii.out]
         dsimp only
         rw[←HKU.out.1,if_pos nD])
        have g0:=G.out.frozen 0;have g1:=G.out.frozen 1;have g2:=G.out.frozen 2;have g3:=G.out.frozen 3;have g4:=G.out.frozen 4;have g5:=G.out.frozen 5;have g6:=G.out.frozen 6;have g7:=G.out.frozen 7;have g8:=G.out.frozen 8;have g9:=G.out.frozen 9;have r0:=G.out.cell 0;have r1:=G.out.cell 1;have r2:=G.out.cell 2;have r3:=G.out.cell 3;have r4:=G.out.cell 4;have r5:=G.out.cell 5;have r6:=G.out.cell 6;have r7:=G.out.cell 7;have r8:=G.out.cell 8;have r9:=G.out.cell 9;simp only[Qc,Qa,Qb]at r0 r1 r2 r3 r4 r5 r6 r7 r8 r9;clear nD;go_upto_region 18 with fail;have hq:=HKU.out.2;subst hq;obtain⟨wT,WW⟩:∃wT,((((((((((w1.setCell ⟨D.heap.size+1,0,none⟩ (.string (str u.x.m.path))).setCell ⟨D.heap.size+1,1,none⟩ (.string (str u.x.m.target))).setCell ⟨D.heap.size+1,2,none⟩ (.string (str u.x.m.ao))).setCell ⟨D.heap.size+1,3,none⟩ (.int .u8 (u.x.m.kind.toNat:Int))).setCell ⟨D.heap.size+1,4,none⟩ (.int .i64 u.x.m.mode)).setCell ⟨D.heap.size+1,5,none⟩ (.int .i64 u.x.m.uid)).setCell ⟨D.heap.size+1,6,none⟩ (.int .i64 u.x.m.gid)).setCell ⟨D.heap.size+1,7,none⟩ (.int .i64 u.x.m.time)).setCell ⟨D.heap.size+1,8,none⟩ (.slice u.x.p u.x.m.body.length u.x.c)).setCell ⟨D.heap.size+1,9,none⟩ (.int .i64 (u.k:Int))).setCell ⟨D.heap.size+1,0,none⟩ (.string (str v.m.path))=wT:=⟨_,rfl⟩
        rw[WW]
        have Y:Hid (au wT (D.heap.size+1) 81 #[.string (str v.m.path),.string (str u.x.m.target),.string (str u.x.m.ao),.int .u8 (u.x.m.kind.toNat:Int),.int .i64 u.x.m.mode,.int .i64 u.x.m.uid,.int .i64 u.x.m.gid,.int .i64 u.x.m.time,.slice u.x.p u.x.m.body.length u.x.c,.int .i64 (u.k:Int)]):=Qh (by
         rw[←WW]
         exact ac3 G.out _ _ _ _ _ _ _ _ _ _ _)
        have X:Hid (au wT D.heap.size 48 #[.string (str v.m.path),.string (str v.m.target),.int .u8 (v.m.kind.toNat:Int),.int .i64 v.m.mode,.int .i64 v.m.uid,.int .i64 v.m.gid,.int .i64 v.m.time,.slice v.p v.m.body.length v.c]):=Qh (by rw[←WW];exact VE qf.out (Nat.succ_ne_self _) _ _ _ _ _ _ _ _ _ _ _);have BO:Hid (Below D.heap.size D wT):=Qh (by rw[←WW];exact TT V.out (Nat.le_succ _) _ _ _ _ _ _ _ _ _ _ _)
        have HVX:Hid (vC ⟨⟨CZ u.x.m v.m.path,u.x.p,u.x.c⟩,u.k⟩=Gj (xs.map MP.m) (v.m.path,nn)):=Qh (by
         unfold vC Gj;rw[KX.out.2.1];show(CZ u.x.m v.m.path,nn)=_;rw[KX.out.1]
         rfl)
        have L:Hid (je W (CP.x ⟨⟨CZ u.x.m v.m.path,u.x.p,u.x.c⟩,u.k⟩)∧(CP.x ⟨⟨CZ u.x.m v.m.path,u.x.p,u.x.c⟩,u.k⟩).m.body.length≤140737488351232):=Qh ⟨⟨KX.out.2.2.1.nB,KX.out.2.2.1.le,KX.out.2.2.1.mx⟩,KX.out.2.2.2⟩;clear WW d0 d1 d2 d3 d4 d5 d6 d7 d8 d9 g0 g1 g2 g3 g4 g5 g6 g7 g8 g9 r0 r1 r2 r3 r4 r5 r6 r7 r8 r9 m0 m1 m2;have HIT:=Qh (A.out.below BO.out);have zP:=Qh (yL.out.2.2.below BO.out);go_wp2_with fail
        go_loopw [10,11] (fun o i wr2=>∃(j:Nat) (zs:List CP) (vo:Value),j≤ys.length∧vo=o∧i=.int .i64 (j:Int)∧Hid (qN W wT wr2 (xs.map MP.m) ((S.take j).filter fun e=>!(e.1==v.m.path)) vo zs)) (fun _ i _=>ys.length - (RowKit.intOf i).toNat)
        case atStart=>exact⟨0,[],_,Nat.zero_le _,rfl,rfl,Qh ⟨Below.refl _ _,World.ownsRow_nil _ _ _ _,rfl,fun y hy=>(by cases hy)⟩⟩
        case round=>
         obtain⟨j,zs,o,hj,rfl,rfl,I⟩:=hrel
         have SI:Hid (zs.length≤100000):=Qh (by
          have h1:=I.out.says.len;have h2:=List.length_filter_le (fun e:List UInt8 × Nat=>!(e.1==v.m.path)) (S.take j);have h3:(S.take j).length≤S.length:=by rw[Qg];omega
          have h4:=r.out.2
          omega)
         by_cases Yc:j<ys.length
         ·have U:j<S.length:=by have:=r.out.1;omega
          obtain⟨b3,o3,he3,kW,SK,Co⟩:=(zP.out.below I.out.bel).rJ Yc
          cases he3
          have Yg:=A.out.says.path U;have t:=A.out.says.get U;have O:=A.out.DQ _ (sy ys j Yc);obtain⟨z,hz⟩:∃z,ys.getD j iL=z:=⟨_,rfl⟩
          obtain⟨e,he⟩:∃e,S.getD j ([],0)=e:=⟨_,rfl⟩
          have b:=AO S v.m.path j U;rw[hz]at Co Yg t O;rw[he]at Yg t b;have R:=Qh (And.intro Yg (And.intro t (And.intro O b)));obtain⟨d0,d1,d2,d3,d4,d5,d6,d7,d8,d9⟩:=Co;have hm:=X.out.below I.out.bel X.out.lt;have m0:=hm.cell 0;simp only[Qc,Qa]at m0;have e1:=ar9 z.x.m.path v.m.path;have hjz:(j:Int)<(ys.length:Int):=by omega
          clear Yg t O hz he b hm kW SK U
          by_cases T:z.x.m.path=v.m.path
          ·rw[decide_eq_true T]at e1
           have DW:Hid (qN W wT wr (xs.map MP.m) ((S.take (j+1)).filter fun e=>!(e.1==v.m.path)) o zs):=Qh (by
            rw[R.out.2.2.2,if_pos (by rw[←R.out.1];exact T),List.append_nil]
            exact I.out)
           clear T;go_upto_region 22 with fail
           go_quiet (fail)
           go_wp2;go_roundw
           case rel=>exact⟨j+1,zs,_,by omega,rfl,by go_num,Qh (DW.out.below (below_drewN (Below.refl _ _) _))⟩
           case measure=>simp[RowKit.intOf];omega
          ·rw[decide_eq_false T]at e1
           have HEP:=Qh T;clear T;go_upto_region 22 with fail
           go_quiet (fail)
           clear m0 e1
           go_wp2_with (at_builtin;refine td rfl _ _ rfl wT.heap.size o zs rfl (iD I.out.row ((below_drewN (Below.refl _ _) _).alloc (Qk _) _)) _ 1 z rfl (au.new _ _ _) (by have:=SI.out;omega) (by have:=I.out.bel.size;first|omega|(simp;omega)) ?_)
           intro v5 w5 M J GI;rw[show zs.length+1=(zs++[z]).length by simp]at M;have Z:=Qh ((I.out.below ((below_drewN (Below.refl _ _) _).alloc (Qk _) _)).add (e:=e) R.out.2.1 R.out.2.2.1 M J)
           have DW:Hid (qN W wT w5 (xs.map MP.m) ((S.take (j+1)).filter fun e=>!(e.1==v.m.path)) v5 (zs++[z])):=Qh (by
            rw[R.out.2.2.2,if_neg (by rw[←R.out.1];exact HEP.out)]
            exact Z.out)
           clear M J GI Z d0 d1 d2 d3 d4 d5 d6 d7 d8 d9;go_wp2;go_roundw
           case rel=>exact⟨j+1,_,_,by omega,rfl,by go_num,DW⟩
           case measure=>simp[RowKit.intOf];omega
         ·have QW:¬((j:Int)<(ys.length:Int)):=by omega
          have pD:Hid (qN W wT wr (xs.map MP.m) (S.filter fun e=>!(e.1==v.m.path)) o zs):=Qh (by
           have h:=I.out;rw[List.take_of_length_le (by have:=r.out.1;omega)]at h
           exact h)
          have B:=Y.out.below I.out.bel Y.out.lt;have y0:=B.cell 0;have y1:=B.cell 1;have y2:=B.cell 2;have y3:=B.cell 3;have y4:=B.cell 4;have y5:=B.cell 5;have y6:=B.cell 6;have y7:=B.cell 7;have y8:=B.cell 8;have y9:=B.cell 9;simp only[Qc,Qa,Qb]at y0 y1 y2 y3 y4 y5 y6 y7 y8 y9;clear B
          go_wp2_with (at_builtin;refine td rfl _ _ rfl wT.heap.size o zs rfl (iD pD.out.row ((Below.refl _ _).alloc (Qk _) _)) wr.heap.size 1 ⟨⟨CZ u.x.m v.m.path,u.x.p,u.x.c⟩,u.k⟩ rfl (au.new wr _ _) (by have:=SI.out;omega) (by have:=pD.out.bel.size;first|omega|(simp;omega)) ?_)
          intro v5 w5 M J GI;rw[show zs.length+1=(zs++[(⟨⟨CZ u.x.m v.m.path,u.x.p,u.x.c⟩,u.k⟩:CP)]).length by simp]at M;have HN:Hid (qN W W w5 (xs.map MP.m) (oV S v.m.path nn) v5 (zs++[⟨⟨CZ u.x.m v.m.path,u.x.p,u.x.c⟩,u.k⟩])):=Qh (((pD.out.below ((Below.refl _ _).alloc (Qk _) _)).add (e:=(v.m.path,nn)) HVX.out L.out M J).next (A.out.bel.trans (BO.out.mono A.out.bel.size)));have SG:=Qh (tE hS.out Wz.out);clear M J GI y0 y1 y2 y3 y4 y5 y6 y7 y8 y9;go_wp2;go_roundw
          case rel=>exact⟨k+1,_,_,_,by omega,rfl,by go_num,SG,HN⟩
          case measure=>simp[RowKit.intOf];omega
       ·rw[decide_eq_false nD,Bool.not_false]at ek8
        have zQ:pj (xs.map MP.m) S k=none:=by
         rw[HLD.out,Ii.out]
         dsimp only
         rw[←HKU.out.1,if_neg nD]
        have E:=Qh (xd S7.out (i:=k) (by rw[ou.out];exact tD (xi hS.out zQ) _));clear zQ;have N:=A.out.bel.trans (V.out.mono A.out.bel.size);have L:=Qh N;have H:=sj.out.below N sj.out.lt;have DP:=Qh H;have x0:=H.cell 0;have x1:=H.cell 1;have f0:=H.frozen 0;have f1:=H.frozen 1;simp only[Qc,Qa,Qb]at x0 x1;clear H N nD m0 m1 m2;go_wp2;refine bodyPost_ret (ry rfl _ _ w.heap.size _ rfl rfl 7 (k:Int) (qi DP.out _ _)) rfl ?_;have hb:=nG.out.trans (L.out.mono nG.out.size);exact xq E.out ((hb.setCell (p:=⟨w.heap.size,0,none⟩) (Qk _) _).setCell (p:=⟨w.heap.size,1,none⟩) (Qk _) _) rfl
     ·rw[decide_eq_false EZ]at ek
      have Wz:Hid (pj (xs.map MP.m) S k=some (oV S v.m.path k)):=Qh (by
       unfold pj
       dsimp only
       rw[HV.out.2.2.1,if_neg EZ])
      clear EZ m1;have Y:=G;have X:=qf;have BO:=V
      have HVX:Hid (vC ⟨⟨j8 v.m.path v.m [],v.p,v.c⟩,k⟩=Gj (xs.map MP.m) (v.m.path,k)):=Qh (by
       unfold Gj;rw[HV.out.2.2.1]
       rfl)
      have L:Hid (je W (CP.x ⟨⟨j8 v.m.path v.m [],v.p,v.c⟩,k⟩)∧(CP.x ⟨⟨j8 v.m.path v.m [],v.p,v.c⟩,k⟩).m.body.length≤140737488351232):=Qh ⟨ac5 HV.out.2.2.2 _,(HF.out v HV.out.2.1).2.2⟩;have HIT:=Qh (A.out.below BO.out);have zP:=Qh (yL.out.2.2.below BO.out);go_wp2_with fail
      go_loopw [10,11] (fun o i wr2=>∃(j:Nat) (zs:List CP) (vo:Value),j≤ys.length∧vo=o∧i=.int .i64 (j:Int)∧Hid (qN W w1 wr2 (xs.map MP.m) ((S.take j).filter fun e=>!(e.1==v.m.path)) vo zs)) (fun _ i _=>ys.length - (RowKit.intOf i).toNat)
      case atStart=>exact⟨0,[],_,Nat.zero_le _,rfl,rfl,Qh ⟨Below.refl _ _,World.ownsRow_nil _ _ _ _,rfl,fun y hy=>(by cases hy)⟩⟩
      case round=>
       obtain⟨j,zs,o,hj,rfl,rfl,I⟩:=hrel
       have SI:Hid (zs.length≤100000):=Qh (by
        have h1:=I.out.says.len;have h2:=List.length_filter_le (fun e:List UInt8 × Nat=>!(e.1==v.m.path)) (S.take j);have h3:(S.take j).length≤S.length:=by rw[Qg];omega
        have h4:=r.out.2
        omega)
       by_cases Yc:j<ys.length
       ·have U:j<S.length:=by have:=r.out.1;omega
        obtain⟨b3,o3,he3,kW,SK,Co⟩:=(zP.out.below I.out.bel).rJ Yc
        cases he3
        have Yg:=A.out.says.path U;have t:=A.out.says.get U;have O:=A.out.DQ _ (sy ys j Yc);obtain⟨z,hz⟩:∃z,ys.getD j iL=z:=⟨_,rfl⟩
        obtain⟨e,he⟩:∃e,S.getD j ([],0)=e:=⟨_,rfl⟩
        have b:=AO S v.m.path j U;rw[hz]at Co Yg t O;rw[he]at Yg t b;have R:=Qh (And.intro Yg (And.intro t (And.intro O b)));obtain⟨d0,d1,d2,d3,d4,d5,d6,d7,d8,d9⟩:=Co;have hm:=X.out.below I.out.bel X.out.lt;have m0:=hm.cell 0;simp only[Qc,Qa]at m0;have e1:=ar9 z.x.m.path v.m.path;have hjz:(j:Int)<(ys.length:Int):=by omega
        clear Yg t O hz he b hm kW SK U
        by_cases T:z.x.m.path=v.m.path
        ·rw[decide_eq_true T]at e1
         have DW:Hid (qN W w1 wr (xs.map MP.m) ((S.take (j+1)).filter fun e=>!(e.1==v.m.path)) o zs):=Qh (by
          rw[R.out.2.2.2,if_pos (by rw[←R.out.1];exact T),List.append_nil]
          exact I.out)
         clear T;go_upto_region 22 with fail
         go_quiet (fail)
         go_wp2;go_roundw
         case rel=>exact⟨j+1,zs,_,by omega,rfl,by go_num,Qh (DW.out.below (below_drewN (Below.refl _ _) _))⟩
         case measure=>simp[RowKit.intOf];omega
        ·rw[decide_eq_false T]at e1
         have HEP:=Qh T;clear T;go_upto_region 22 with fail
         go_quiet (fail)
         clear m0 e1
         go_wp2_with (at_builtin;refine td rfl _ _ rfl w1.heap.size o zs rfl (iD I.out.row ((below_drewN (Below.refl _ _) _).alloc (Qk _) _)) _ 1 z rfl (au.new _ _ _) (by have:=SI.out;omega) (by have:=I.out.bel.size;first|omega|(simp;omega)) ?_)
         intro v5 w5 M J GI;rw[show zs.length+1=(zs++[z]).length by simp]at M;have Z:=Qh ((I.out.below ((below_drewN (Below.refl _ _) _).alloc (Qk _) _)).add (e:=e) R.out.2.1 R.out.2.2.1 M J)
         have DW:Hid (qN W w1 w5 (xs.map MP.m) ((S.take (j+1)).filter fun e=>!(e.1==v.m.path)) v5 (zs++[z])):=Qh (by
          rw[R.out.2.2.2,if_neg (by rw[←R.out.1];exact HEP.out)]
          exact Z.out)
         clear M J GI Z d0 d1 d2 d3 d4 d5 d6 d7 d8 d9;go_wp2;go_roundw
         case rel=>exact⟨j+1,_,_,by omega,rfl,by go_num,DW⟩
         case measure=>simp[RowKit.intOf];omega
       ·have QW:¬((j:Int)<(ys.length:Int)):=by omega
        have pD:Hid (qN W w1 wr (xs.map MP.m) (S.filter fun e=>!(e.1==v.m.path)) o zs):=Qh (by
         have h:=I.out;rw[List.take_of_length_le (by have:=r.out.1;omega)]at h
         exact h)
        have B:=Y.out.below I.out.bel Y.out.lt;have y0:=B.cell 0;have y1:=B.cell 1;have y2:=B.cell 2;have y3:=B.cell 3;have y4:=B.cell 4;have y5:=B.cell 5;have y6:=B.cell 6;have y7:=B.cell 7;have y8:=B.cell 8;have y9:=B.cell 9;simp only[Qc,Qa,Qb]at y0 y1 y2 y3 y4 y5 y6 y7 y8 y9;clear B
        go_wp2_with (at_builtin;refine td rfl _ _ rfl w1.heap.size o zs rfl (iD pD.out.row ((Below.refl _ _).alloc (Qk _) _)) wr.heap.size 1 ⟨⟨j8 v.m.path v.m [],v.p,v.c⟩,k⟩ rfl (au.new wr _ _) (by have:=SI.out;omega) (by have:=pD.out.bel.size;first|omega|(simp;omega)) ?_)
        intro v5 w5 M J GI;rw[show zs.length+1=(zs++[(⟨⟨j8 v.m.path v.m [],v.p,v.c⟩,k⟩:CP)]).length by simp]at M;have HN:Hid (qN W W w5 (xs.map MP.m) (oV S v.m.path k) v5 (zs++[⟨⟨j8 v.m.path v.m [],v.p,v.c⟩,k⟩])):=Qh (((pD.out.below ((Below.refl _ _).alloc (Qk _) _)).add (e:=(v.m.path,k)) HVX.out L.out M J).next (A.out.bel.trans (BO.out.mono A.out.bel.size)));have SG:=Qh (tE hS.out Wz.out);clear M J GI y0 y1 y2 y3 y4 y5 y6 y7 y8 y9;go_wp2;go_roundw
        case rel=>exact⟨k+1,_,_,_,by omega,rfl,by go_num,SG,HN⟩
        case measure=>simp[RowKit.intOf];omega
    ·have uh:¬((k:Int)<(n:Int)):=by omega
     have cn:k=n:=by omega
     have zm:(xs.map MP.m).length=n:=by rw[Qi,HL.out]
     have hS':kJ (xs.map MP.m) (xs.map MP.m).length=.ok S:=by rw[zm,←cn];exact hS.out
     have E:=Qh (Cf S7.out hS');have vz:Hid ((kT (xs.map MP.m) S).length=ys.length):=Qh (by rw[vt,r.out.1]);have HSR:=Qh (Km ql ys.length cl ys (xs.map MP.m) S D yL.out.2.2 A.out.says (uI _ _ _ hS.out) (by have:=r.out.1;have:=r.out.2;omega) (fun y hy=>(A.out.DQ y hy).2));clear cn zm hS';go_wp2_with fail;refine HSR.out.mono ?_;rintro e w3 ⟨q,d,zs,rfl,hz,xg,kW⟩;have nP:=Qh (A.out.bel.trans (kW.mono A.out.bel.size));have Cl:=sj.out.below nP.out sj.out.lt;have uf:=Qh Cl;have P:=Qh (And.intro hz xg);have x0:=Cl.cell 0;have x1:=Cl.cell 1;have f0:=Cl.frozen 0;have f1:=Cl.frozen 1;simp only[Qc,Qa,Qb]at x0 x1;clear hz xg kW Cl;go_wp2;refine bodyPost_ret (ry rfl _ _ w.heap.size _ rfl rfl 0 0 (qi uf.out _ _)) rfl ?_;have hb:=nG.out.trans (nP.out.mono nG.out.size);refine⟨q,d,zs,by rw[E.out];dsimp only;rw[vz.out];rfl,by rw[E.out];exact P.out.1,?_,(hb.setCell (p:=⟨w.heap.size,0,none⟩) (Qk _) _).setCell (p:=⟨w.heap.size,1,none⟩) (Qk _) _⟩;rw[E.out]
     dsimp only
     rw[vz.out];exact Fj uf.out P.out.2 (((Kept.refl (aA w.heap.size) w3).setCell (a:=⟨w.heap.size,0,none⟩) (.inr rfl) _).setCell (a:=⟨w.heap.size,1,none⟩) (.inr rfl) _)
end kY
end Go.Proofs.YtdhibldkldlfpaaGreatDoor
