/- Merged. -/
import Derived.Test.YtdhibldkldlfpaaGreatDoorEmitPacksX33
import Derived.Deep.RegionHeld3
namespace Go.Proofs.YtdhibldkldlfpaaGreatDoor
set_option linter.unusedVariables false
set_option maxHeartbeats 8000000
set_option maxRecDepth 100000
open Mem
variable {l:List UInt8} {b g i k n:Nat} {p:Option Addr} {w w':World}
namespace Tre
open Go.ChangeShapes Go.WideShapes Go.ChangeAt Go.RowKit Base cf cN Bk Go.Lib
variable {b:List UInt8} {t:List aC} {y:NP}
theorem GO (p q:Option Addr) (n m c d:Nat) (xs ys:List NP) (w:World) (hn:n≤maxLen) (h1:aV w p n xs) (h2:aV w q m ys):
 Calls Tryz.prog 15 #[.slice p n c,.slice q m d] w fun e w'=>e=.returned (.bool (decide (xs.map NP.m=ys.map NP.m)))∧Below w.heap.size w w':=by
 unfold maxLen at hn;have H1:=Qh h1;have y:=Qh h2;have J:=Qh h1.1;have V:=Qh h2.1;clear h1 h2
 go_enter Tryz.func15,Tryz.ntmps15
 by_cases l:n=m
 ·subst l
  have hb:(((n:Int)) != (n:Int))=false:=by simp
  go_wp2_with fail
  go_loopw [5] (fun i wr=>∃(k:Nat),k≤n∧i=.int .i64 (k:Int)∧Hid (∀j,j<k→(xs.getD j aD).m=(ys.getD j aD).m)∧Hid (Below w.heap.size w wr)) (fun i _=>n - (RowKit.intOf i).toNat)
  case atStart=>exact⟨0,Nat.zero_le _,rfl,Qh (fun j L=>absurd L (by omega)),Qh (Below.refl _ _)⟩
  case round=>
   obtain⟨k,hk,rfl,hd,G⟩:=hrel
   by_cases I:k<n
   ·obtain⟨A,o1,rfl,Z,O,T⟩:=(H1.out.below G.out).dF I
    obtain⟨B,D,rfl,Y,R,U⟩:=(y.out.below G.out).dF I;obtain⟨u,hu⟩:∃u,xs.getD k aD=u:=⟨_,rfl⟩
    obtain⟨v,M⟩:∃v,ys.getD k aD=v:=⟨_,rfl⟩
    rw[hu]at O T;rw[M]at R U;have f:=Qh hu;have g:=Qh M;have z:=Qh O;have HB:=Qh R;have o:Hid (∀w',Below wr.heap.size wr w'→eS w' A (o1+k*9) u∧eS w' B (D+k*9) v):=Qh (fun w' h=>⟨T.below Z h,U.below Y h⟩);have E:Hid (Below wr.heap.size wr wr.drew):=Qh (below_drewN (Below.refl wr.heap.size wr) 1);unfold eS at o;have j5:(k:Int)<(n:Int):=by omega
    have r:((str u.m.ag).toList==(str v.m.ag).toList)=decide (u.m.ag=v.m.ag):=by
     rw[av,av]
     by_cases h:u.m.ag=v.m.ag<;>simp[h]
    by_cases hl:u.m.ag=v.m.ag
    ·rw[decide_eq_true hl]at r
     have W:=Qh hl;clear O R T U hu M Z Y hl;go_wp2_with fail
     go_region_held3 (fun w'=>(w'.cell? ⟨A,o1+k*9,none⟩=some (.string (str u.m.path))∧w'.cell? ⟨A,o1+k*9+1,none⟩=some (.string (str u.m.target))∧w'.cell? ⟨A,o1+k*9+2,none⟩=some (.string (str u.m.ag))∧w'.cell? ⟨A,o1+k*9+3,none⟩=some (.int .u8 (u.m.kind.toNat:Int))∧w'.cell? ⟨A,o1+k*9+4,none⟩=some (.int .i64 u.m.mode)∧w'.cell? ⟨A,o1+k*9+5,none⟩=some (.int .i64 u.m.uid)∧w'.cell? ⟨A,o1+k*9+6,none⟩=some (.int .i64 u.m.gid)∧w'.cell? ⟨A,o1+k*9+7,none⟩=some (.int .i64 u.m.time)∧w'.cell? ⟨A,o1+k*9+8,none⟩=some (.slice u.p u.m.body.length u.c))∧(w'.cell? ⟨B,D+k*9,none⟩=some (.string (str v.m.path))∧w'.cell? ⟨B,D+k*9+1,none⟩=some (.string (str v.m.target))∧w'.cell? ⟨B,D+k*9+2,none⟩=some (.string (str v.m.ag))∧w'.cell? ⟨B,D+k*9+3,none⟩=some (.int .u8 (v.m.kind.toNat:Int))∧w'.cell? ⟨B,D+k*9+4,none⟩=some (.int .i64 v.m.mode)∧w'.cell? ⟨B,D+k*9+5,none⟩=some (.int .i64 v.m.uid)∧w'.cell? ⟨B,D+k*9+6,none⟩=some (.int .i64 v.m.gid)∧w'.cell? ⟨B,D+k*9+7,none⟩=some (.int .i64 v.m.time)∧w'.cell? ⟨B,D+k*9+8,none⟩=some (.slice v.p v.m.body.length v.c))) (exact o.out _ E.out) (first
      |(go_at_call 30
        refine(Dz u v _ (z.out.below E.out) (HB.out.below E.out)).mono ?_;rintro e wa ⟨rfl,t⟩;have E:=Qh (E.out.trans (t.mono E.out.size))
        clear t))
     all_goals
      by_cases H:u.m=v.m
      ·have X:Xl u.m v.m=true:=by rw[H];simp[Xl]
       have HD:Hid (∀j,j<k+1→(xs.getD j aD).m=(ys.getD j aD).m):=Qh (fun j L=>by
        rcases Nat.lt_succ_iff_lt_or_eq.1 L with h|rfl
        ·exact hd.out j h
        ·rw[f.out,g.out,H])
       clear H;have b:=Qh (G.out.trans (E.out.mono G.out.size));rw[X];go_wp2;go_roundw
       case rel=>exact⟨k+1,by omega,by go_num,HD,b⟩
       case measure=>simp[RowKit.intOf];omega
      ·have X:Xl u.m v.m=false:=by
        rw[Bool.eq_false_iff];intro h;exact H (IW (of_decide_eq_true h) W.out)
       have N:Hid (decide (xs.map NP.m=ys.map NP.m)=false):=Qh (decide_eq_false (qJ xs ys k (by rw[J.out];exact I) (by rw[V.out];exact I) (by rw[f.out,g.out];exact H)));clear H;have b:=Qh (G.out.trans (E.out.mono G.out.size));rw[X];go_wp2;go_ret;exact⟨by rw[N.out];rfl,b.out⟩
    ·rw[decide_eq_false hl]at r
     have N:Hid (decide (xs.map NP.m=ys.map NP.m)=false):=Qh (decide_eq_false (qJ xs ys k (by rw[J.out];exact I) (by rw[V.out];exact I) (by rw[hu,M];exact fun h=>hl (by rw[h]))));obtain⟨c0,c1,c2,c3,c4,c5,c6,c7,c8⟩:=T;obtain⟨d0,d1,d2,d3,d4,d5,d6,d7,d8⟩:=U;clear O R hu M Z Y hl;go_wp2_with fail
     go_quiet (fail)
     go_wp2;go_ret;exact⟨by rw[N.out];rfl,below_drewN G.out _⟩
   ·have lP:¬((k:Int)<(n:Int)):=by omega
    have HE:Hid (decide (xs.map NP.m=ys.map NP.m)=true):=Qh (decide_eq_true (Gc xs ys (by rw[J.out,V.out]) (fun j L=>hd.out j (by rw[J.out]at L;omega))));go_wp2;go_ret;exact⟨by rw[HE.out];rfl,G.out⟩
 ·have hb:(((n:Int)) != (m:Int))=true:=by simp;omega
  have N:Hid (decide (xs.map NP.m=ys.map NP.m)=false):=Qh (decide_eq_false (fun h=>l (by
   have:=congrArg List.length h;rw[Qi,Qi,J.out,V.out]at this
   exact this)))
  go_wp2;go_ret;exact⟨by rw[N.out];rfl,Below.refl _ _⟩
theorem Lc (w:World) (g:Nat) (y:NP) (h:au w g 52 y.cs):(loadVar 52 ⟨g,0,none⟩).run Tryz.prog w=.ok (.agg y.cs) w:=by
 obtain⟨c0,c1,c2,c3,c4,c5,c6,c7,A⟩:=bt h;simp only[Nat.zero_add]at c0 c1 c2 c3 c4 c5 c6 c7 A;unfold NP.cs gB;clear h
 go_simp
theorem DB {fn:Func} (hf:fn.results=#[.cell 4 52,.tmp 5]) (tmps:Array Value) (w:World) (g:Nat) (v:Value) (ht:tmps.getD 4 undef=.pointer (some ⟨g,0,none⟩)) (hv:tmps.getD 5 undef=v)
 (y:NP) (hb:au w g 52 y.cs):(results fn tmps).run Tryz.prog w=.ok (.tuple #[.agg y.cs,v]) w:=by
 rw[results_cell_tmp hf,ht,hv];have hl:=Lc w g y hb;simp only[asAddr,Sem.run_pure,hl,Result.andThen]
theorem mZ {x:NP} (hb:au w g 52 x.cs) (a0 a1 a2 a3 a4 a5 a6 a7 a8:Value):
 au (((((((((w.setCell ⟨g,0,none⟩ a0).setCell ⟨g,1,none⟩ a1).setCell ⟨g,2,none⟩ a2).setCell ⟨g,3,none⟩ a3).setCell ⟨g,4,none⟩ a4).setCell ⟨g,5,none⟩ a5).setCell ⟨g,6,none⟩ a6).setCell ⟨g,7,none⟩ a7).setCell ⟨g,8,none⟩ a8) g 52 #[a0,a1,a2,a3,a4,a5,a6,a7,a8]:=
 (((((((((hb.set 0 a0 (by show 0<9;decide)).set 1 a1 (by show 1<9;decide)).set 2 a2 (by show 2<9;decide)).set 3 a3 (by show 3<9;decide)).set 4 a4 (by show 4<9;decide)).set 5 a5 (by show 5<9;decide)).set 6 a6 (by show 6<9;decide)).set 7 a7 (by show 7<9;decide)).set 8 a8 (by show 8<9;decide))
theorem eC (hk:Below w.heap.size w w') (hg:w.heap.size≤g) (a0 a1 a2 a3 a4 a5 a6 a7 a8:Value):
 Below w.heap.size w (((((((((w'.setCell ⟨g,0,none⟩ a0).setCell ⟨g,1,none⟩ a1).setCell ⟨g,2,none⟩ a2).setCell ⟨g,3,none⟩ a3).setCell ⟨g,4,none⟩ a4).setCell ⟨g,5,none⟩ a5).setCell ⟨g,6,none⟩ a6).setCell ⟨g,7,none⟩ a7).setCell ⟨g,8,none⟩ a8):=
 (((((((((hk.setCell (p:=⟨g,0,none⟩) hg a0).setCell (p:=⟨g,1,none⟩) hg a1).setCell (p:=⟨g,2,none⟩) hg a2).setCell (p:=⟨g,3,none⟩) hg a3).setCell (p:=⟨g,4,none⟩) hg a4).setCell (p:=⟨g,5,none⟩) hg a5).setCell (p:=⟨g,6,none⟩) hg a6).setCell (p:=⟨g,7,none⟩) hg a7).setCell (p:=⟨g,8,none⟩) hg a8)
structure Rx (w wi:World) (g:Nat) (y:NP):Prop where
 bel:Below w.heap.size w wi
 fi:au wi g 52 y.cs
 new:w.heap.size≤g
theorem Rx.below {wi wj:World} (h:Rx w wi g y) (hb:Below wi.heap.size wi wj):Rx w wj g y:=
 ⟨h.bel.trans (hb.mono h.bel.size),h.fi.below hb h.fi.lt,h.new⟩
theorem ve (h:∀x∈t,x.path≠b):ei t b=none:=by
 unfold ei;rw[List.find?_eq_none];intro x A
 simpa using h x A
theorem vf (hk:k<t.length) (h:(t.getD k cz).path=b) (h0:∀x∈t.take k,x.path≠b):ei t b=some (t.getD k cz):=by
 unfold ei;rw[List.getD,Qd hk]at h⊢
 have e:t=t.take k++t[k]::t.drop (k+1):=by
  rw[←List.drop_eq_getElem_cons hk,List.take_append_drop]
 conv=>lhs;rw[e,List.find?_append]
 have A:(t.take k).find? (fun x=>x.path==b)=none:=by
  rw[List.find?_eq_none];intro x B
  simpa using h0 x B
 rw[A];simp only[Option.none_or];rw[List.find?_cons_of_pos (by simpa using h)];simp
def aj2 (r:Option aC):aC:=r.getD cz
def jN (w:World) (xs:List NP) (b:List UInt8) (e:Ending) (w':World):Prop:=
 ∃y:NP,e=.returned (.tuple #[.agg y.cs,.bool (ei (xs.map NP.m) b).isSome])∧y.m=aj2 (ei (xs.map NP.m) b)∧(y=aD∨y∈xs)∧Below w.heap.size w w'
theorem Qx:aD.cs=#[.string ⟨#[]⟩,.string ⟨#[]⟩,.string ⟨#[]⟩,.int .u8 0,.int .i64 0,.int .i64 0,.int .i64 0,.int .i64 0,.slice none 0 0]:=rfl
theorem DU (w:World):cY w aD:=⟨cK.none_ w none,Qk _,by decide⟩
theorem mA {xs:List NP} (h:aV w p n xs) (hy:y=aD∨y∈xs):cY w y:=by
 rcases hy with rfl|hy
 ·exact DU w
 ·exact h.2.1 y hy
theorem G4 (xs:List NP) (k:Nat) (h:k<xs.length):xs.take (k+1)=xs.take k++[xs.getD k aD]:=by
 rw[List.take_succ_eq_append_getElem h,List.getD,Qd h];rfl
theorem rY (p:Option Addr) (n c:Nat) (xs:List NP) (b:List UInt8) (w:World) (h:aV w p n xs) (hn:n≤maxLen):
 Calls Tryz.prog 25 #[.slice p n c,.string (str b)] w (jN w xs b):=by
 unfold maxLen at hn;have l:=Qh h;have B:=Qh h.1;have G:Hid (Below w.heap.size w (w.alloc (.cells aD.cs 52))):=Qh ((Below.refl _ _).alloc (Qk _) _);have H:Hid (au (w.alloc (.cells aD.cs 52)) w.heap.size 52 aD.cs):=Qh (au.new w _ _);clear h
 go_enter Tryz.func25,Tryz.ntmps25
 obtain⟨W,L⟩:∃W,w.alloc (.cells aD.cs 52)=W:=⟨_,rfl⟩
 rw[L]at G H;rw[Qx]at L;have A:Hid (Rx w W w.heap.size aD):=Qh ⟨G.out,H.out,Qk _⟩;have q:=Qh (l.out.below G.out);clear G H;go_upto_region 1 with fail;clear L;go_wp2_with fail
 go_loop [6] (fun i=>∃(k:Nat),k≤n∧i=.int .i64 (k:Int)∧Hid (∀x∈(xs.map NP.m).take k,x.path≠b)) (fun i=>n - (RowKit.intOf i).toNat)
 case atStart=>exact⟨0,Nat.zero_le _,rfl,Qh (by simp)⟩
 case round=>
  obtain⟨k,hk,rfl,J⟩:=hrel
  by_cases D:k<n
  ·obtain⟨y,o1,rfl,r,Z,f⟩:=q.out.dF D
   obtain⟨u,hu⟩:∃u,xs.getD k aD=u:=⟨_,rfl⟩
   rw[hu]at Z f;have I:=Qh hu;have g:Hid (u∈xs):=Qh (by rw[←hu];exact nh xs k (by rw[B.out];exact D));obtain⟨c0,c1,c2,c3,c4,c5,c6,c7,z⟩:=f;have j5:(k:Int)<(n:Int):=by omega
   have d:((str u.m.path).toList==(str b).toList)=decide (u.m.path=b):=by
    rw[av,av]
    by_cases h:u.m.path=b<;>simp[h]
   clear Z hu r
   by_cases he:u.m.path=b
   ·rw[decide_eq_true he]at d
    have E:Hid (ei (xs.map NP.m) b=some u.m):=Qh (by
     have:=vf (t:=xs.map NP.m) (b:=b) (k:=k) (by rw[Qi,B.out];exact D) (by rw[gK,I.out];exact he) J.out
     rw[this,gK,I.out])
    obtain⟨M,N,O,R,T,U,V,X,Y⟩:=bt A.out.fi;have f0:=A.out.fi.frozen 0;have f1:=A.out.fi.frozen 1;have f2:=A.out.fi.frozen 2;have f3:=A.out.fi.frozen 3;have f4:=A.out.fi.frozen 4;have f5:=A.out.fi.frozen 5;have f6:=A.out.fi.frozen 6;have f7:=A.out.fi.frozen 7;have f8:=A.out.fi.frozen 8;simp only[Nat.zero_add]at M N O R T U V X Y;clear he;go_wp2;refine bodyPost_ret (DB rfl _ _ w.heap.size _ rfl rfl u (mZ A.out.fi _ _ _ _ _ _ _ _ _)) rfl ?_;exact⟨u,by rw[E.out];rfl,by rw[E.out];rfl,Or.inr g.out,eC A.out.bel (Qk _) _ _ _ _ _ _ _ _ _⟩
   ·rw[decide_eq_false he]at d
    have o:Hid (∀x∈(xs.map NP.m).take (k+1),x.path≠b):=Qh (by
     intro x hx;have hl:k<xs.length:=by rw[B.out];exact D
     rw[←List.map_take,G4 xs k hl,List.map_append,List.mem_append,I.out,List.map_take]at hx;rcases hx with hx|hx
     ·exact J.out x hx
     ·rw[List.mem_singleton.1 hx];exact he)
    clear he;go_wp2
    go_round
    case rel=>exact⟨k+1,by omega,by go_num,o⟩
    case measure=>simp[RowKit.intOf];omega
  ·have lP:¬((k:Int)<(n:Int)):=by omega
   have E:Hid (ei (xs.map NP.m) b=none):=Qh (ve (fun x hx=>J.out x (by rw[List.take_of_length_le (by rw[Qi,B.out];omega)];exact hx)));obtain⟨M,N,O,R,T,U,V,X,Y⟩:=bt A.out.fi;have f0:=A.out.fi.frozen 0;have f1:=A.out.fi.frozen 1;have f2:=A.out.fi.frozen 2;have f3:=A.out.fi.frozen 3;have f4:=A.out.fi.frozen 4;have f5:=A.out.fi.frozen 5;have f6:=A.out.fi.frozen 6;have f7:=A.out.fi.frozen 7;have f8:=A.out.fi.frozen 8;simp only[Nat.zero_add]at M N O R T U V X Y;go_wp2;refine bodyPost_ret (DB rfl _ _ w.heap.size _ rfl rfl aD (mZ A.out.fi _ _ _ _ _ _ _ _ _)) rfl ?_;exact⟨aD,by rw[E.out];rfl,by rw[E.out];rfl,Or.inl rfl,eC A.out.bel (Qk _) _ _ _ _ _ _ _ _ _⟩
def Uq (x:NP):Prop:=x.m.path.length≤140737488351232∧x.m.target.length≤140737488351232
theorem Aq (k:UInt8) (n:UInt8) (z:Int) (hz:(n.toNat:Int)=z):(((k.toNat:Int))==z)=decide (k=n):=by
 subst hz
 by_cases h:k=n
 ·simp[h]
 ·have:¬k.toNat=n.toNat:=fun A=>h (UInt8.toNat.inj A)
  simp only[h,decide_false,beq_eq_false_iff_ne,ne_eq];omega
theorem mj (k:UInt8) (n:UInt8) (z:Int) (hz:(n.toNat:Int)=z):(((k.toNat:Int)) != z)=!decide (k=n):=by
 rw[←Aq k n z hz];rfl
theorem FK (x:NP) (w:World) (hF:Uq x) (hT:Path.Tabs w):
 Calls Tryz.prog 46 #[.agg x.cs] w fun e w'=>e=.returned (.bool (fI x.m))∧Below w.heap.size w w':=by
 obtain⟨W,D⟩:∃W,w.alloc (.cells x.cs 52)=W:=⟨_,rfl⟩
 have H:Below w.heap.size w W:=by rw[←D];exact(Below.refl _ _).alloc (Qk _) _
 have I:au W w.heap.size 52 x.cs:=by rw[←D];exact au.new w _ _
 have B:=nz x.m.mem x.p x.c W hF.1 hF.2 (hT.below H);have G:=mj x.m.kind 49 49 rfl;unfold fI;obtain⟨g,L⟩:∃g,bZ x.m.mem=g:=⟨_,rfl⟩
 rw[L]at B⊢;obtain⟨k,hk⟩:∃k:Int,(x.m.kind.toNat:Int)=k:=⟨_,rfl⟩
 obtain⟨c0,c1,c2,c3,c4,c5,c6,c7,N⟩:=bt I;simp only[Nat.zero_add]at c0 c1 c2 c3 c4 c5 c6 c7 N;unfold NP.cs gB at D⊢;unfold dj aC.mem at B;rw[hk]at D B c3 G⊢;have M:=Qh B;have E:=Qh H;clear B H I L hk hF hT
 go_enter Tryz.func46,Tryz.ntmps46
 by_cases A:x.m.kind=49
 ·rw[decide_eq_true A,Bool.not_true]at G
  have hd:decide (x.m.kind≠49)=false:=by simp[A]
  rw[hd];clear A hd;go_upto_region 1 with fail
  go_wp2;go_ret;exact⟨rfl,E.out⟩
 ·rw[decide_eq_false A,Bool.not_false]at G
  have hd:decide (x.m.kind≠49)=true:=by simp[A]
  rw[hd];clear A hd;go_upto_region 1 with fail;go_wp2_with fail
  refine M.out.mono ?_;rintro e O ⟨rfl,J⟩;have F:=Qh (E.out.trans (J.mono E.out.size));clear J;go_wp2;go_ret;exact⟨rfl,F.out⟩
theorem wX (hs:fM t) (hk:k<t.length) (h:(t.getD k cz).path=b):ei t b=some (t.getD k cz):=
 vf hk h (fun x A e=>by
  obtain⟨i,hi,rfl⟩:=List.mem_iff_getElem.1 A;rw[Qg]at hi;have:=iJ hs (show i<k by omega) hk;rw[List.getD,Qd (show i<t.length by omega)]at this;rw[List.getElem_take]at e;simp only[Option.getD_some,e,h]at this;rw[ke]at this
  cases this)
theorem jI (a b:List UInt8):((str a).toList==(str b).toList)=decide (a=b):=by
 rw[av,av]
 by_cases h:a=b<;>simp[h]
theorem yL (x:NP) (p:Option Addr) (n c:Nat) (xs:List NP) (w:World) (hx:cY w x) (h:aV w p n xs) (hn:n≤1000000000) (hs:fM (xs.map NP.m)):
 Calls Tryz.prog 47 #[.agg x.cs,.slice p n c] w fun e w'=>e=.returned (.bool (jF (xs.map NP.m) x.m))∧Below w.heap.size w w':=by
 obtain⟨W,I⟩:∃W,w.alloc (.cells x.cs 52)=W:=⟨_,rfl⟩
 have H:Below w.heap.size w W:=by rw[←I];exact(Below.refl _ _).alloc (Qk _) _
 have t:au W w.heap.size 52 x.cs:=by rw[←I];exact au.new w _ _
 have HP:=Qh (rV p n c xs x.m.ag W (h.below H) hn);have M4:=Qh (h.below H);have HL:=Qh h.1;have X:=Qh (hx.below H);have HS:=Qh hs;obtain⟨r,z⟩:∃r,jF (xs.map NP.m) x.m=r:=⟨_,rfl⟩
 rw[z];have N:=Qh z;have o:=mj x.m.kind 48 48 rfl;obtain⟨k,hk⟩:∃k:Int,(x.m.kind.toNat:Int)=k:=⟨_,rfl⟩
 have HX:=Qh t;have HK:=Qh hk;obtain⟨c0,c1,c2,c3,c4,c5,c6,c7,c8⟩:=bt t;simp only[Nat.zero_add]at c0 c1 c2 c3 c4 c5 c6 c7 c8;unfold NP.cs gB at I⊢;rw[hk]at I c3 o⊢;have V:=Qh H;clear H t hk hx h z hs
 go_enter Tryz.func47,Tryz.ntmps47
 by_cases A:x.m.kind=48
 ·rw[decide_eq_true A,Bool.not_true]at o
  have E:Hid (r=FV (ei (xs.map NP.m) x.m.ag) x.m):=Qh (by
   rw[←N.out];unfold jF
   rw[if_pos A])
  clear N A;go_upto_region 1 with fail;clear I;go_wp2_with fail;refine HP.out.mono ?_;rintro e M ⟨a,there,rfl,ha,Y,vH,J⟩;have f:=Qh (V.out.trans (J.mono V.out.size));have yB:=HX.out.below J HX.out.lt;have fX:=Qh yB;have fy:=Qh (M4.out.below J);have Z:=Qh (X.out.below J);obtain⟨d0,d1,d2,d3,d4,d5,d6,d7,d8⟩:=bt yB;simp only[Nat.zero_add]at d0 d1 d2 d3 d4 d5 d6 d7 d8;clear J yB c0 c1 c2 c3 c4 c5 c6 c7 c8
  cases there with
  |false=>
   have E2:Hid (r=false):=Qh (by rw[E.out,ve (vH HS.out rfl)];rfl);clear Y vH ha d0 d1 d2 d3 d4 d5 d6 d7 d8;go_wp2;go_ret;exact⟨by rw[E2.out];rfl,f.out⟩
  |true=>
   obtain⟨O,L⟩:=Y rfl;have u:a<n:=by rw[Qi,HL.out]at O;exact O
   have hf:=wX HS.out O L;rw[gK]at hf;obtain⟨b1,o1,rfl,ck,g,gw⟩:=fy.out.dF u;obtain⟨y,hy⟩:∃y,xs.getD a aD=y:=⟨_,rfl⟩
   rw[hy]at hf g gw;have D:Hid (r=(decide (y.m.kind=48)&&(decide (y.m.ag=y.m.path)&&(decide (y.m.mode=x.m.mode∧y.m.uid=x.m.uid∧y.m.gid=x.m.gid∧y.m.time=x.m.time)&&decide (y.m.body=x.m.body))))):=Qh (by rw[E.out,hf];rfl);obtain⟨W3,B⟩:∃W3,M.alloc (.cells y.cs 52)=W3:=⟨_,rfl⟩
   have G:Below M.heap.size M W3:=by rw[←B];exact(Below.refl _ _).alloc (Qk _) _
   have hY:au W3 M.heap.size 52 y.cs:=by rw[←B];exact au.new M _ _
   have DZ:=fX.out.below G fX.out.lt;have R:=Qh (f.out.trans (G.mono f.out.size));have b:=Qh (Z.out.below G);have d:=Qh (g.below G);obtain⟨y0,y1,y2,y3,y4,y5,y6,y7,y8⟩:=bt hY;obtain⟨x0,x1,x2,x3,x4,x5,x6,x7,x8⟩:=bt DZ;obtain⟨z0,z1,z2,z3,z4,z5,z6,z7,z8⟩:=gw;have Ic:=Aq y.m.kind 48 48 rfl;obtain⟨ky,Iy⟩:∃k:Int,(y.m.kind.toNat:Int)=k:=⟨_,rfl⟩
   unfold NP.cs gB at B;rw[Iy]at B Ic y3 z3;simp only[Nat.zero_add]at y0 y1 y2 y3 y4 y5 y6 y7 y8 x0 x1 x2 x3 x4 x5 x6 x7 x8;have l:=jI y.m.ag y.m.path;have e4:=fun w=>NJ y.m.mode y.m.uid y.m.gid y.m.time x.m.mode x.m.uid x.m.gid x.m.time w
   have HE:=Qh (Kl y.p x.p y.m.body.length y.c x.m.body.length x.c y.m.body x.m.body W3 rfl rfl d.out.gC b.out.gC);obtain⟨q1,T⟩:∃q,decide (y.m.kind=48)=q:=⟨_,rfl⟩
   obtain⟨q2,pU⟩:∃q,decide (y.m.ag=y.m.path)=q:=⟨_,rfl⟩
   obtain⟨q3,xu⟩:∃q,decide (y.m.mode=x.m.mode∧y.m.uid=x.m.uid∧y.m.gid=x.m.gid∧y.m.time=x.m.time)=q:=⟨_,rfl⟩
   obtain⟨q4,U⟩:∃q,decide (y.m.body=x.m.body)=q:=⟨_,rfl⟩
   rw[T]at Ic;rw[pU]at l;simp only[xu]at e4;rw[U]at HE;rw[T,pU,xu,U]at D;clear T pU xu U Y vH ha O L hf hy ck g G hY DZ Iy;have al4:(a:Int)<(n:Int):=by omega
   go_upto_region 7 with fail
   clear B d0 d1 d2 d3 d4 d5 d6 d7 d8 z0 z1 z2 z3 z4 z5 z6 z7 z8
   cases q1 with
   |false=>
    go_wp2;go_ret;exact⟨by rw[D.out];rfl,R.out⟩
   |true=>
    cases q2 with
    |false=>
     go_wp2;go_ret;exact⟨by rw[D.out];rfl,R.out⟩
    |true=>
     cases q3 with
     |false=>
      go_wp2;go_ret;exact⟨by rw[D.out];rfl,R.out⟩
     |true=>
      go_wp2_with fail
      refine HE.out.mono ?_;rintro e w4 ⟨rfl,rfl⟩;go_wp2;go_ret;exact⟨by rw[D.out];rfl,R.out⟩
 ·rw[decide_eq_false A,Bool.not_false]at o
  have E:Hid (r=decide (x.m.ag=[])):=Qh (by
   rw[←N.out];unfold jF
   rw[if_neg A])
  have l:=bk x.m.ag;clear N A;go_upto_region 1 with fail
  go_wp2;go_ret;exact⟨by rw[E.out,←l];rfl,V.out⟩
end Tre
namespace Tre
open Go.ChangeShapes Go.WideShapes Go.ChangeAt Go.RowKit Base cf cN Bk Go.Lib
variable {t:List aC}
attribute [local irreducible] wpQuiet
theorem nR (hk:k<t.length) (h:fM (t.take k)) (ao:k=0∨eH (t.getD (k - 1) cz).path (t.getD k cz).path=true):fM (t.take (k+1)):=by
 rw[List.take_succ_eq_append_getElem hk];refine List.pairwise_append.2 ⟨h,List.pairwise_singleton _ _,fun x A y hy=>?_⟩;rw[List.mem_singleton.1 hy];rcases ao with rfl|ao
 ·simp at A
 ·obtain⟨i,hi,rfl⟩:=sN A
  rw[Qg]at hi
  have e:(t.take k).getD i cz=t.getD i cz:=by
   rw[List.getD,List.getD,List.getElem?_take,if_pos (by omega)]
  have B:t.getD k cz=t[k]:=by rw[List.getD,Qd hk];rfl
  rw[e,←B];rcases Nat.lt_or_eq_of_le (show i≤k - 1 by omega)with h1|h1
  ·have:=iJ h (i:=i) (j:=k - 1) h1 (by rw[Qg];omega)
   rw[e]at this
   have D:(t.take k).getD (k - 1) cz=t.getD (k - 1) cz:=by
    rw[List.getD,List.getD,List.getElem?_take,if_pos (by omega)]
   rw[D]at this;exact iA _ _ _ this ao
  ·rw[h1];exact ao
theorem aG (hk:k<t.length) (h:fk t k=false):cG t=false:=by
 rw[Bool.eq_false_iff];intro A;simp only[cG,Bool.and_eq_true,List.all_eq_true,List.mem_range]at A;have:=A.2 k hk;rw[h]at this
 cases this
theorem vr (hn:t.length≤4096) (h:∀k,k<t.length→fk t k=true):cG t=true:=by
 simp only[cG,Bool.and_eq_true,List.all_eq_true,List.mem_range,decide_eq_true_eq];exact⟨hn,h⟩
def stepT (t:List aC) (i:Nat):Bool:=fI (t.getD i cz)&&(decide (i=0)||eH (t.getD (i - 1) cz).path (t.getD i cz).path)
theorem aE (t:List aC) (i:Nat):fk t i=(stepT t i&&jF (t.take (i+1)) (t.getD i cz)):=rfl
def iq (w:World) (b o:Nat) (y:NP):Prop:=∀p:ie w,eS p.w' b o y
theorem rZ {o:Nat} {y:NP} (h:eS w b o y) (hb:b<w.heap.size):iq w b o y:=fun p=>h.below hb p.bel
theorem Ms (p:Option Addr) (n c:Nat) (xs:List NP) (w:World) (h:aV w p n xs) (hc:n≤c) (hm:c≤maxLen) (hF:∀x∈xs,Uq x) (hT:Path.Tabs w):
 Calls Tryz.prog 20 #[.slice p n c] w fun e w'=>e=.returned (.bool (cG (xs.map NP.m)))∧Below w.heap.size w w':=by
 unfold maxLen at hm;have HM:=Qh h;have G:=Qh h.1;have HF:=Qh hF;have HT:=Qh hT;obtain⟨r,hr⟩:∃r,cG (xs.map NP.m)=r:=⟨_,rfl⟩
 rw[hr];have X:=Qh hr;clear h hF hT hr
 go_enter Tryz.func20,Tryz.ntmps20
 by_cases N7:n≤4096
 ·have QK:¬((4096:Int)<(n:Int)):=by omega
  go_wp2_with fail
  go_loopw [3,4,10] (fun _ _ i wr=>∃(k:Nat),k≤n∧i=.int .i64 (k:Int)∧Hid (fM ((xs.map NP.m).take k))∧Hid (∀j,j<k→fk (xs.map NP.m) j=true)∧Hid (Below w.heap.size w wr)) (fun _ _ i _=>n - (RowKit.intOf i).toNat)
  case atStart=>exact⟨0,Nat.zero_le _,rfl,Qh List.Pairwise.nil,Qh (fun j R=>absurd R (by omega)),Qh (Below.refl _ _)⟩
  case round=>
   obtain⟨k,hk,rfl,hS,hG,o⟩:=hrel
   by_cases N:k<n
   ·obtain⟨d,o1,rfl,ck,cF,gw⟩:=(HM.out.below o.out).dF N
    obtain⟨u,hu⟩:∃u,xs.getD k aD=u:=⟨_,rfl⟩
    rw[hu]at cF gw;have HU:=Qh hu;have Xv:Uq u:=HF.out u (by rw[←hu];exact nh xs k (by rw[G.out];exact N));obtain⟨W,t⟩:∃W,wr.alloc (.cells u.cs 52)=W:=⟨_,rfl⟩
    have ML:Below wr.heap.size wr W:=by rw[←t];exact(Below.refl _ _).alloc (Qk _) _
    have y:au W wr.heap.size 52 u.cs:=by rw[←t];exact au.new wr _ _
    have H:=Qh (o.out.trans (ML.mono o.out.size));have V:Hid (∀p:ie W,Calls Tryz.prog 46 #[.agg u.cs] p.w' fun e w'=>e=.returned (.bool (fI u.m))∧Below p.w'.heap.size p.w' w'):=Qh (fun p=>FK u p.w' Xv ((HT.out.below H.out).below p.bel));have Z:iq W wr.heap.size 0 u:=rZ (bt y) y.lt;have Y:=Qh y;have cr:=Qh (cF.below ML);have M4:=Qh (HM.out.below H.out);have L:Hid ((xs.map NP.m).getD k cz=u.m):=Qh (by rw[gK,hu]);unfold NP.cs gB at t V;unfold iq eS at Z;simp only[Nat.zero_add]at Z;obtain⟨c0,c1,c2,c3,c4,c5,c6,c7,c8⟩:=gw;have j5:(k:Int)<(n:Int):=by omega
    obtain⟨q,hq⟩:∃q,fI u.m=q:=⟨_,rfl⟩
    rw[hq]at V;have l:=Qh hq;clear hu cF ML y hq Xv ck;go_upto_region 6 with fail;clear t c0 c1 c2 c3 c4 c5 c6 c7 c8
    cases q with
    |false=>
     have E:Hid (r=false):=Qh (by
      rw[←X.out];refine aG (k:=k) (by rw[Qi,G.out];exact N) ?_;rw[aE,stepT,L.out,l.out]
      rfl)
     refine aP (by kernel_rfl) (by kernel_rfl) ?_
     repeat (quiet_step (first|(go_at_call 46;exact Calls.dK (V.out _))))
     refine wpQuiet_nil ?_;intro U B;have D:=cJ B;clear B;have F:=Qh (H.out.trans (D.mono H.out.size));clear D Z;go_wp2;go_ret;exact⟨by rw[E.out];rfl,F.out⟩
    |true=>
     by_cases O:k=0
     ·have sx:Hid (stepT (xs.map NP.m) k=true):=Qh (by rw[stepT,L.out,l.out,decide_eq_true O];rfl)
      have pb:decide ((0:Int)<(k:Int))=false:=decide_eq_false (by omega);have cu:decide (0<k)=false:=decide_eq_false (by omega);have g:Hid (fM ((xs.map NP.m).take (k+1))):=Qh (nR (by rw[Qi,G.out];exact N) hS.out (.inl O));clear O;refine aP (by kernel_rfl) (by kernel_rfl) ?_
      repeat (quiet_step (first
       |(go_at_call 46;exact Calls.dK (V.out _))))
      refine wpQuiet_nil ?_;intro U B;have D:=cJ B;clear B;have J:=Qh (H.out.trans (D.mono H.out.size))
      have M:Hid (∀p:ie U,Calls Tryz.prog 47 #[.agg u.cs,.slice (some ⟨d,o1,none⟩) (k+1) c] p.w' fun e w'=>e=.returned (.bool (jF ((xs.map NP.m).take (k+1)) u.m))∧Below p.w'.heap.size p.w' w'):=Qh (fun p=>by
       have f:=D.trans (p.bel.mono D.size);have hm:=(M4.out.below f).drop (show k+1≤n by omega);have:=yL u (some ⟨d,o1,none⟩) (k+1) c (xs.take (k+1)) p.w' (cr.out.below f) hm (by omega) (by rw[List.map_take];exact g.out);rw[List.map_take]at this
       exact this)
      obtain⟨q2,T⟩:∃q,jF ((xs.map NP.m).take (k+1)) u.m=q:=⟨_,rfl⟩
      rw[T]at M;have b:=Qh T;have I:iq U wr.heap.size 0 u:=rZ (bt (Y.out.below D Y.out.lt)) (Nat.lt_of_lt_of_le Y.out.lt D.size);unfold NP.cs gB at M;unfold iq eS at I;simp only[Nat.zero_add]at I;have w1:IntKind.i64.wrap ((k:Int)+1)=(k:Int)+1:=by rw[IntKind.wrap_i64];omega
      have hkc:(k:Int)+1≤(c:Int):=by omega
      have O:(0:Int)≤(k:Int)+1:=by omega
      have R4:((k:Int)+1).toNat=k+1:=by omega
      clear D Z T
      cases q2 with
      |false=>
       have E:Hid (r=false):=Qh (by
        rw[←X.out];refine aG (k:=k) (by rw[Qi,G.out];exact N) ?_
        rw[aE,L.out,b.out,Bool.and_false])
       go_wp2_with fail
       refine aP (by kernel_rfl) (by kernel_rfl) ?_
       repeat (quiet_step (first
        |(go_at_call 47;exact Calls.dK (M.out _))))
       refine wpQuiet_nil ?_;intro wz B;have A:=cJ B;clear B;have F:=Qh (J.out.trans (A.mono J.out.size));clear A I;go_wp2;go_ret;exact⟨by rw[E.out];rfl,F.out⟩
      |true=>
       have pY:Hid (∀j,j<k+1→fk (xs.map NP.m) j=true):=Qh (fun j R=>by
        rcases Nat.lt_succ_iff_lt_or_eq.1 R with h|rfl
        ·exact hG.out j h
        ·rw[aE,sx.out,L.out,b.out];rfl)
       go_wp2_with fail
       refine aP (by kernel_rfl) (by kernel_rfl) ?_
       repeat (quiet_step (first
        |(go_at_call 47;exact Calls.dK (M.out _))))
       refine wpQuiet_nil ?_;intro wz B;have A:=cJ B;clear B;have F:=Qh (J.out.trans (A.mono J.out.size));clear A I;go_wp2;go_roundw
       case rel=>exact⟨k+1,by omega,by go_num,g,pY,F⟩
       case measure=>simp[RowKit.intOf];omega
     ·have ej:k - 1<n:=by omega
      obtain⟨b2,o2,Cu,bY,ez,ju⟩:=M4.out.dF ej;simp only[Option.some.injEq,Addr.mk.injEq,and_true]at Cu;obtain⟨rfl,rfl⟩:=Cu;obtain⟨v,hv⟩:∃v,xs.getD (k - 1) aD=v:=⟨_,rfl⟩
      rw[hv]at ju;have WT:Hid ((xs.map NP.m).getD (k - 1) cz=v.m):=Qh (by rw[gK,hv]);have sV:iq W d (o1+(k - 1)*9) v:=rZ ju bY;unfold iq eS at sV;have z:Hid (∀p:ie W,Calls Tryz.prog 45 #[.string (str v.m.path),.string (str u.m.path)] p.w' fun e w'=>e=.returned (.bool (eH v.m.path u.m.path))∧p.w'=w'):=Qh (fun p=>Path.qB v.m.path u.m.path p.w');obtain⟨lt,FC⟩:∃x,eH v.m.path u.m.path=x:=⟨_,rfl⟩
      rw[FC]at z;have uD:=Qh FC;have pb:(0:Int)<(k:Int):=by omega
      have cu:0<k:=by omega
      have Zf:(1:Int)≤(k:Int):=by omega
      have wk:IntKind.i64.wrap ((k:Int) - 1)=(k:Int) - 1:=by rw[IntKind.wrap_i64];omega
      have wk0:(0:Int)≤(k:Int) - 1:=by omega
      have wk2:(k:Int) - 1<(n:Int):=by omega
      have wk3:((k:Int) - 1).toNat=k - 1:=by omega
      clear hv ju ez bY FC
      cases lt with
      |false=>
       have E:Hid (r=false):=Qh (by
        rw[←X.out];refine aG (k:=k) (by rw[Qi,G.out];exact N) ?_;rw[aE,stepT,L.out,WT.out,uD.out,l.out,decide_eq_false O]
        rfl)
       refine aP (by kernel_rfl) (by kernel_rfl) ?_
       repeat (quiet_step (first
        |(go_at_call 46;exact Calls.dK (V.out _))
        |(go_at_call 45;exact Calls.mG (z.out _))))
       refine wpQuiet_nil ?_;intro U B;have D:=cJ B;clear B;have F:=Qh (H.out.trans (D.mono H.out.size));clear D Z sV;go_wp2;go_ret;exact⟨by rw[E.out];rfl,F.out⟩
      |true=>
       have sx:Hid (stepT (xs.map NP.m) k=true):=Qh (by rw[stepT,L.out,WT.out,uD.out,l.out,Bool.or_true];rfl);have g:Hid (fM ((xs.map NP.m).take (k+1))):=Qh (nR (by rw[Qi,G.out];exact N) hS.out (.inr (by rw[L.out,WT.out];exact uD.out)));refine aP (by kernel_rfl) (by kernel_rfl) ?_
       repeat (quiet_step (first
        |(go_at_call 46;exact Calls.dK (V.out _))
        |(go_at_call 45;exact Calls.mG (z.out _))))
       refine wpQuiet_nil ?_;intro U B;have D:=cJ B;clear B;clear sV O;have J:=Qh (H.out.trans (D.mono H.out.size))
       have M:Hid (∀p:ie U,Calls Tryz.prog 47 #[.agg u.cs,.slice (some ⟨d,o1,none⟩) (k+1) c] p.w' fun e w'=>e=.returned (.bool (jF ((xs.map NP.m).take (k+1)) u.m))∧Below p.w'.heap.size p.w' w'):=Qh (fun p=>by
        have f:=D.trans (p.bel.mono D.size);have hm:=(M4.out.below f).drop (show k+1≤n by omega);have:=yL u (some ⟨d,o1,none⟩) (k+1) c (xs.take (k+1)) p.w' (cr.out.below f) hm (by omega) (by rw[List.map_take];exact g.out);rw[List.map_take]at this
        exact this)
       obtain⟨q2,T⟩:∃q,jF ((xs.map NP.m).take (k+1)) u.m=q:=⟨_,rfl⟩
       rw[T]at M;have b:=Qh T;have I:iq U wr.heap.size 0 u:=rZ (bt (Y.out.below D Y.out.lt)) (Nat.lt_of_lt_of_le Y.out.lt D.size);unfold NP.cs gB at M;unfold iq eS at I;simp only[Nat.zero_add]at I;have w1:IntKind.i64.wrap ((k:Int)+1)=(k:Int)+1:=by rw[IntKind.wrap_i64];omega
       have hkc:(k:Int)+1≤(c:Int):=by omega
       have O:(0:Int)≤(k:Int)+1:=by omega
       have R4:((k:Int)+1).toNat=k+1:=by omega
       clear D Z T
       cases q2 with
       |false=>
        have E:Hid (r=false):=Qh (by
         rw[←X.out];refine aG (k:=k) (by rw[Qi,G.out];exact N) ?_
         rw[aE,L.out,b.out,Bool.and_false])
        go_wp2_with fail
        refine aP (by kernel_rfl) (by kernel_rfl) ?_
        repeat (quiet_step (first
         |(go_at_call 47;exact Calls.dK (M.out _))))
        refine wpQuiet_nil ?_;intro wz B;have A:=cJ B;clear B;have F:=Qh (J.out.trans (A.mono J.out.size));clear A I;go_wp2;go_ret;exact⟨by rw[E.out];rfl,F.out⟩
       |true=>
        have pY:Hid (∀j,j<k+1→fk (xs.map NP.m) j=true):=Qh (fun j R=>by
         rcases Nat.lt_succ_iff_lt_or_eq.1 R with h|rfl
         ·exact hG.out j h
         ·rw[aE,sx.out,L.out,b.out];rfl)
        go_wp2_with fail
        refine aP (by kernel_rfl) (by kernel_rfl) ?_
        repeat (quiet_step (first
         |(go_at_call 47;exact Calls.dK (M.out _))))
        refine wpQuiet_nil ?_;intro wz B;have A:=cJ B;clear B;have F:=Qh (J.out.trans (A.mono J.out.size));clear A I;go_wp2;go_roundw
        case rel=>exact⟨k+1,by omega,by go_num,g,pY,F⟩
        case measure=>simp[RowKit.intOf];omega
   ·have lP:¬((k:Int)<(n:Int)):=by omega
    have E:Hid (r=true):=Qh (by
     rw[←X.out]
     exact vr (by rw[Qi,G.out];exact N7) (fun j R=>hG.out j (by rw[Qi,G.out]at R;omega)))
    go_wp2;go_ret;exact⟨by rw[E.out];rfl,o.out⟩
 ·have QK:(4096:Int)<(n:Int):=by omega
  have E:Hid (r=false):=Qh (by
   rw[←X.out];unfold cG
   rw[Qi,G.out,decide_eq_false N7,Bool.false_and])
  go_wp2;go_ret;exact⟨by rw[E.out];rfl,Below.refl _ _⟩
end Tre
namespace Tre
theorem Fq {m:aw} (h:bZ m=true):dW m.path=true:=by
 unfold bZ at h;simp only[Bool.and_eq_true]at h;exact h.1.1.1.1
def StG (ms:List aw) (S:St):Prop:=∀e∈S,e.2<ms.length∧(ms.getD e.2 dy).kind≠49∧dW e.1=true
theorem StG.put {ms:List aw} {S:St} (h:StG ms S) {p:List UInt8} (hn:n<ms.length) (hk:(ms.getD n dy).kind≠49) (hp:dW p=true):StG ms (ki S p n):=by
 intro e he;unfold ki at he;rw[List.mem_append,List.mem_filter]at he;rcases he with he|he
 ·exact h e he.1
 ·rw[List.mem_singleton.1 he]
  exact⟨hn,hk,hp⟩
end Tre
namespace p8
open Tre
def jt (x:aC) (p:List UInt8):aw:=⟨x.path,p,49,x.mode,x.uid,x.gid,x.time,[]⟩
def nodeAt (t:List aC) (p:List UInt8):aC:=(ei t p).getD cz
structure LkS where
 lh:List (List UInt8 × List UInt8)
 out:List aw
def pH (t:List aC) (s:LkS) (p:List UInt8):LkS:=
 let x:=nodeAt t p
 if x.kind=48 then
  match s.lh.find? (fun e=>e.1==x.ag)with
  |some e=>⟨s.lh,s.out++[jt x e.2]⟩
  |none=>⟨s.lh++[(x.ag,x.path)],s.out++[x.mem]⟩
 else⟨s.lh,s.out++[x.mem]⟩
def xO (t:List aC) (order:List (List UInt8)):LkS:=order.foldl (pH t) ⟨[],[]⟩
def dQ (t:List aC) (order:List (List UInt8)):List aw:=(xO t order).out
theorem yQ (t:List aC) (os:List (List UInt8)) (p:List UInt8):xO t (os++[p])=pH t (xO t os) p:=by
 unfold xO;rw[List.foldl_append];rfl
def cW (t:List aC) (os:List (List UInt8)):Prop:=os.Perm (t.map (·.path))
def aW (t:List aC) (os:List (List UInt8)) (i:Nat):Nat:=
 if(nodeAt t (os.getD i [])).kind=48 then
  ((List.range (i+1)).find? fun j=>decide ((nodeAt t (os.getD j [])).kind=48)&&decide ((nodeAt t (os.getD j [])).ag=(nodeAt t (os.getD i [])).ag)).getD i
 else i
section
variable {t:List aC} {os:List (List UInt8)}
def BL (t:List aC) (os:List (List UInt8)) (i j:Nat):Prop:=(nodeAt t (os.getD j [])).kind=48∧(nodeAt t (os.getD i [])).kind=48∧(nodeAt t (os.getD j [])).ag=(nodeAt t (os.getD i [])).ag
theorem jd (h:(nodeAt t (os.getD i [])).kind=48):aW t os i≤i∧BL t os i (aW t os i)∧∀j,j<aW t os i→¬BL t os i j:=by
 unfold aW;rw[if_pos h]
 cases hf:(List.range (i+1)).find? (fun j=>decide ((nodeAt t (os.getD j [])).kind=48)&&decide ((nodeAt t (os.getD j [])).ag=(nodeAt t (os.getD i [])).ag))with
 |none=>
  have:=List.find?_eq_none.1 hf i (List.mem_range.2 (Nat.lt_succ_self _));rw[decide_eq_true h,decide_eq_true rfl]at this;exact absurd rfl this
 |some j=>
  obtain⟨h1,k,hk,e,B⟩:=List.find?_eq_some_iff_getElem.1 hf;rw[List.getElem_range]at e;rw[List.length_range]at hk;subst e;simp only[Bool.and_eq_true,decide_eq_true_eq]at h1;refine⟨by rw[Option.getD_some];omega,⟨by rw[Option.getD_some];exact h1.1,h,by rw[Option.getD_some];exact h1.2⟩,fun j A hs=>?_⟩;rw[Option.getD_some]at A;have:=B j A;rw[List.getElem_range]at this;simp only[Bool.not_eq_true',Bool.and_eq_false_iff,decide_eq_false_iff_not]at this;rcases this with h|h
  ·exact h hs.1
  ·exact h hs.2.2
theorem gv (h:(nodeAt t (os.getD i [])).kind≠48):aW t os i=i:=by
 unfold aW;rw[if_neg h]
theorem GL (i:Nat):aW t os i≤i:=by
 by_cases h:(nodeAt t (os.getD i [])).kind=48
 ·exact(jd h).1
 ·rw[gv h];exact Qk _
theorem wP {j:Nat} (h:BL t os i j):aW t os i=aW t os j:=by
 obtain⟨D,a2,a3⟩:=jd (t:=t) (os:=os) (i:=i) h.2.1;obtain⟨E,A,B⟩:=jd (t:=t) (os:=os) (i:=j) h.1;rcases Nat.lt_trichotomy (aW t os i) (aW t os j)with ao|he|ao
 ·exact absurd ⟨a2.1,h.1,a2.2.2.trans h.2.2.symm⟩ (B _ ao)
 ·exact he
 ·exact absurd ⟨A.1,h.2.1,A.2.2.trans h.2.2⟩ (a3 _ ao)
theorem uw (i:Nat):aW t os (aW t os i)=aW t os i:=by
 by_cases h:(nodeAt t (os.getD i [])).kind=48
 ·exact(wP (jd h).2.1).symm
 ·rw[gv h,gv h]
theorem qX (i:Nat):(nodeAt t (os.getD (aW t os i) [])).kind=(nodeAt t (os.getD i [])).kind:=by
 by_cases h:(nodeAt t (os.getD i [])).kind=48
 ·rw[(jd h).2.1.1,h]
 ·rw[gv h]
def eP (t:List aC) (os:List (List UInt8)) (i:Nat):aw:=
 if aW t os i=i then(nodeAt t (os.getD i [])).mem else jt (nodeAt t (os.getD i [])) (os.getD (aW t os i) [])
end
section
variable {t:List aC} {os:List (List UInt8)}
theorem kF {p:List UInt8} (h:p∈t.map (·.path)):(nodeAt t p).path=p∧nodeAt t p∈t:=by
 obtain⟨x,B,rfl⟩:=List.mem_map.1 h;unfold nodeAt
 cases hf:ei t x.path with
 |none=>
  unfold ei at hf;have:=List.find?_eq_none.1 hf x B;simp at this
 |some y=>
  unfold ei at hf;have D:=List.find?_some hf;have A:(y.path==x.path)=true:=D;exact⟨by simpa using A,List.mem_of_find?_eq_some hf⟩
def Ie (t:List aC) (os:List (List UInt8)) (n:Nat):List (List UInt8 × List UInt8):=
 ((List.range n).filter fun i=>decide ((nodeAt t (os.getD i [])).kind=48)&&decide (aW t os i=i)).map fun i=>((nodeAt t (os.getD i [])).ag,(nodeAt t (os.getD i [])).path)
theorem IK (hp:∀p∈os,p∈t.map (·.path)):∀n,n≤os.length→xO t (os.take n)=⟨Ie t os n,(List.range n).map (eP t os)⟩
 |0,_=>rfl
 |n+1,h=>by
  have W:=IK hp n (by omega);have J:n<os.length:=by omega
  have L:os.getD n []=os[n]:=by rw[List.getD,Qd J];rfl
  have T:(nodeAt t (os.getD n [])).path=os.getD n []:=(kF (hp _ (by rw[L];exact List.getElem_mem J))).1;rw[List.take_succ_eq_append_getElem J,yQ,W,←L];unfold pH
  dsimp only
  rw[List.range_succ,List.map_append];unfold Ie;rw[List.range_succ,List.filter_append,List.map_append]
  by_cases hk:(nodeAt t (os.getD n [])).kind=48
  ·rw[if_pos hk]
   obtain⟨c,M,Z⟩:=jd (t:=t) (os:=os) (i:=n) hk
   by_cases D:aW t os n=n
   ·have R:(((List.range n).filter fun i=>decide ((nodeAt t (os.getD i [])).kind=48)&&decide (aW t os i=i)).map fun i=>((nodeAt t (os.getD i [])).ag,(nodeAt t (os.getD i [])).path)).find? (fun e=>e.1==(nodeAt t (os.getD n [])).ag)=none:=by
     rw[List.find?_eq_none];intro e he;obtain⟨i,hi,rfl⟩:=List.mem_map.1 he;rw[List.mem_filter,List.mem_range]at hi;obtain⟨I,A⟩:=hi;simp only[Bool.and_eq_true,decide_eq_true_eq]at A;intro hc;have N:(nodeAt t (os.getD i [])).ag=(nodeAt t (os.getD n [])).ag:=by simpa using hc
     exact Z i (by omega) ⟨A.1,hk,N⟩
    rw[R]
    dsimp only
    have hm:eP t os n=(nodeAt t (os.getD n [])).mem:=by unfold eP;rw[if_pos D]
    have B:[n].filter (fun i=>decide ((nodeAt t (os.getD i [])).kind=48)&&decide (aW t os i=i))=[n]:=by
     rw[List.filter_cons_of_pos (by rw[decide_eq_true hk,decide_eq_true D];rfl),List.filter_nil]
    rw[B,List.map_cons,List.map_nil,List.map_cons,List.map_nil,hm]
   ·have U:aW t os n<n:=by omega
    have O:∃e,(((List.range n).filter fun i=>decide ((nodeAt t (os.getD i [])).kind=48)&&decide (aW t os i=i)).map fun i=>((nodeAt t (os.getD i [])).ag,(nodeAt t (os.getD i [])).path)).find? (fun e=>e.1==(nodeAt t (os.getD n [])).ag)=some e∧e.2=os.getD (aW t os n) []:=by
     cases hf:(((List.range n).filter fun i=>decide ((nodeAt t (os.getD i [])).kind=48)&&decide (aW t os i=i)).map fun i=>((nodeAt t (os.getD i [])).ag,(nodeAt t (os.getD i [])).path)).find? (fun e=>e.1==(nodeAt t (os.getD n [])).ag)with
     |none=>
      exfalso
      have Y:((nodeAt t (os.getD (aW t os n) [])).ag,(nodeAt t (os.getD (aW t os n) [])).path)∈(((List.range n).filter fun i=>decide ((nodeAt t (os.getD i [])).kind=48)&&decide (aW t os i=i)).map fun i=>((nodeAt t (os.getD i [])).ag,(nodeAt t (os.getD i [])).path)):=
       List.mem_map.2 ⟨aW t os n,List.mem_filter.2 ⟨List.mem_range.2 U,by rw[decide_eq_true M.1,decide_eq_true (uw n)];rfl⟩,rfl⟩
      have:=List.find?_eq_none.1 hf _ Y;apply this;show((nodeAt t (os.getD (aW t os n) [])).ag==(nodeAt t (os.getD n [])).ag)=true;rw[M.2.2];exact beq_self_eq_true _
     |some e=>
      have h1:=List.mem_of_find?_eq_some hf;have b:=List.find?_some hf;have V:(e.1==(nodeAt t (os.getD n [])).ag)=true:=b;obtain⟨i,hi,rfl⟩:=List.mem_map.1 h1;rw[List.mem_filter,List.mem_range]at hi;obtain⟨I,A⟩:=hi;simp only[Bool.and_eq_true,decide_eq_true_eq]at A;have hl:(nodeAt t (os.getD i [])).ag=(nodeAt t (os.getD n [])).ag:=by simpa using V
      have hs:BL t os n i:=⟨A.1,hk,hl⟩
      refine⟨_,rfl,?_⟩;show(nodeAt t (os.getD i [])).path=_;have X:aW t os n=i:=(wP hs).trans A.2;rw[X];have H:os.getD i []=os[i]'(by omega):=by rw[List.getD,Qd (by omega)];rfl
      exact(kF (hp _ (by rw[H];exact List.getElem_mem _))).1
    obtain⟨e,E,G⟩:=O;rw[E]
    dsimp only
    have hm:eP t os n=jt (nodeAt t (os.getD n [])) e.2:=by unfold eP;rw[if_neg D,G]
    have B:[n].filter (fun i=>decide ((nodeAt t (os.getD i [])).kind=48)&&decide (aW t os i=i))=[]:=by
     rw[List.filter_cons_of_neg (by rw[decide_eq_false D];simp),List.filter_nil]
    rw[B,List.map_nil,List.append_nil,List.map_cons,List.map_nil,hm]
  ·rw[if_neg hk]
   have hm:eP t os n=(nodeAt t (os.getD n [])).mem:=by unfold eP;rw[if_pos (gv hk)]
   have B:[n].filter (fun i=>decide ((nodeAt t (os.getD i [])).kind=48)&&decide (aW t os i=i))=[]:=by
    rw[List.filter_cons_of_neg (by rw[decide_eq_false hk];simp),List.filter_nil]
   rw[B,List.map_nil,List.append_nil,List.map_cons,List.map_nil,hm]
theorem rP (hp:∀p∈os,p∈t.map (·.path)):dQ t os=(List.range os.length).map (eP t os):=by
 have:=IK hp os.length (Qk _);rw[List.take_of_length_le (Qk _)]at this;unfold dQ;rw[this]
end
end p8
namespace Tre
open Go.ChangeShapes Go.WideShapes Go.ChangeAt Go.RowKit Base cf cN Bk Block Go.Lib
def jM (w:World) (n:Nat) (bs:List UInt8) (e:Ending) (w':World):Prop:=
 ∃p c,e=.returned (.slice p n c)∧n≤c∧c≤maxLen∧cK w' p n bs∧(∀x,p=some x→w.heap.size≤x.block)∧Below w.heap.size w w'
theorem lx (p:Option Addr) (n c:Nat) (bs:List UInt8) (w:World) (h:cK w p n bs) (hl:bs.length=n) (hn:n≤140737488351232):
 Calls Tryz.prog 49 #[.slice p n c] w (jM w n bs):=by
 obtain⟨i0,hi,R,M,N⟩:=info_parts iy;have U:=Qh hi;have Y:=Qh R;have X:=Qh M;have Z:=Qh N;have A:=Qh h;have B:=Qh hl;have d:∀w,(binOp .eql 26 (.slice p n c) (.slice none 0 0)).run Tryz.prog w=.ok (.bool p.isNone) w:=fun w=>Lib.run_eql_slice_nil w 26 5 p n c 0 0 Tryz.underlying26
 clear hi R M N h hl
 go_enter Tryz.func49,Tryz.ntmps49
 cases p with
 |none=>
  have h0:n=0:=by
   rcases Nat.eq_zero_or_pos n with h0|h0
   ·exact h0
   ·obtain⟨_,_,he,_⟩:=A.out h0
    cases he
  subst h0;go_wp2;go_ret;have V:bs=[]:=List.eq_nil_of_length_eq_zero B.out;subst V;exact⟨none,0,rfl,Qk _,by decide,cK.none_ _ _,(fun x h=>by cases h),Below.refl _ _⟩
 |some a=>
  go_wp2_with (at_builtin;refine eU rfl _ _ 26 rfl w.heap.size 5 i0 Tryz.underlying26 U.out Y.out X.out Z.out _ 0 [] rfl (World.ownsRow_made w #[] 0 (Qk _) (by decide) rfl) (some a) n c bs rfl (A.out.alloc _) B.out ?d2 ?d3 ?_)
  case d2=>omega
  case d3=>simp
  intro v2 w2 I J;have T:cR w2 w.heap.size v2 n bs:=by simpa [cR]using I
  have O:Kept ai w w2:=(((Kept.refl ai w).alloc _)).grown J (by intro k hk;simp[Value.ownBlock]at hk;omega);have D:Below w.heap.size w w2:=O.below (Qk _) (fun _ h=>h.elim);obtain⟨b,c2,rfl,G,H,L,_,E⟩:=T.slice;have P:=Qh (And.intro G (And.intro H (And.intro L (And.intro E D))));clear I J T O D G H L E;go_wp2;go_ret;exact⟨b,c2,rfl,P.out.1,P.out.2.1,P.out.2.2.1,fun x W=>(P.out.2.2.2.1 x W).1,P.out.2.2.2.2⟩
theorem fD {t:List aC} (h:cG t=true):fM t:=by
 simp only[cG,Bool.and_eq_true,List.all_eq_true,List.mem_range]at h
 have key:∀k,k≤t.length→fM (t.take k):=fun k=>by
  induction k with
  |zero=>exact fun _=>List.Pairwise.nil
  |succ k ih=>
   intro hk;have:=h.2 k (by omega);rw[aE,Bool.and_eq_true,stepT,Bool.and_eq_true,Bool.or_eq_true]at this;refine nR (by omega) (ih (by omega)) ?_;rcases this.1.2 with h1|h1
   ·exact .inl (of_decide_eq_true h1)
   ·exact .inr h1
 have:=key t.length (Qk _)
 rwa [List.take_length]at this
end Tre
namespace p8
open Tre
section
variable {t:List aC} {os:List (List UInt8)}
theorem sP (hg:cG t=true) (hk:k<t.length):fk t k=true:=by
 unfold cG at hg;simp only[Bool.and_eq_true,List.all_eq_true,List.mem_range]at hg;exact hg.2 k hk
theorem ow (hk:k<t.length):t.getD k cz=t[k]:=by rw[List.getD,Qd hk];rfl
theorem gq (hg:cG t=true) {x:aC} (hx:x∈t):x.kind≠49∧bZ x.mem=true∧(x.kind≠48→x.ag=[]):=by
 obtain⟨k,hk,rfl⟩:=List.mem_iff_getElem.1 hx;have h:=sP hg hk;unfold fk fI at h
 dsimp only at h
 rw[ow hk]at h;simp only[Bool.and_eq_true,decide_eq_true_eq]at h;refine⟨h.1.1.1,h.1.1.2,fun B=>?_⟩;have A:=h.2;unfold jF at A;rw[if_neg B]at A;exact of_decide_eq_true A
theorem kG (hg:cG t=true) {x:aC} (hx:x∈t):nodeAt t x.path=x:=by
 obtain⟨k,hk,rfl⟩:=List.mem_iff_getElem.1 hx;unfold nodeAt;rw[wX (fD hg) hk (by rw[ow hk]),Option.getD_some,ow hk]
theorem l8 (hg:cG t=true) {x:aC} (hx:x∈t) (fj:x.kind=48):∃y∈t,y.path=x.ag∧y.kind=48∧y.ag=y.path∧(y.mode=x.mode∧y.uid=x.uid∧y.gid=x.gid∧y.time=x.time)∧y.body=x.body∧(y=x∨eH y.path x.path=true):=by
 obtain⟨k,hk,rfl⟩:=List.mem_iff_getElem.1 hx;have h:=sP hg hk;unfold fk at h
 dsimp only at h
 rw[ow hk]at h;rw[Bool.and_eq_true]at h;have A:=h.2;unfold jF at A;rw[if_pos fj]at A
 cases hf:ei (t.take (k+1)) t[k].ag with
 |none=>rw[hf]at A;cases A
 |some y=>
  rw[hf]at A;unfold FV at A;simp only[Bool.and_eq_true,decide_eq_true_eq]at A;unfold ei at hf;have hy:=List.mem_of_find?_eq_some hf;have B:=List.find?_some hf;have H:(y.path==t[k].ag)=true:=B;obtain⟨j,G,e⟩:=List.mem_iff_getElem.1 hy;rw[Qg]at G;rw[List.getElem_take]at e;refine⟨y,List.mem_of_mem_take hy,by simpa using H,A.1,A.2.1,A.2.2.1,A.2.2.2,?_⟩;rcases Nat.lt_or_ge j k with E|Cp
  ·right
   have:=iJ (fD hg) E hk;rw[ow hk,ow (show j<t.length by omega),e]at this;exact this
  ·left
   have D:j=k:=by omega
   subst D;exact e.symm
theorem sM {m:aw} (h:bZ m=true) (hk:m.kind=48):m.target=[]:=by
 unfold bZ at h;simp only[Bool.and_eq_true]at h;have A:=h.2;rw[if_pos (.inl hk)]at A
 simpa using A
theorem EZ (hg:cG t=true) {x y:aC} (hx:x∈t) (hy:y∈t) (h1:x.kind=48) (h2:y.kind=48) (hl:y.ag=x.ag):x=jb x.path y.mem x.ag:=by
 obtain⟨a,H,D,a2,a3,a4,a5,_⟩:=l8 hg hx h1;obtain⟨b,I,E,J,L,A,G,_⟩:=l8 hg hy h2;have B:a=b:=by rw[←kG hg H,←kG hg I,D,E,hl]
 subst B;have t1:=sM (gq hg hx).2.1 h1;have t2:=sM (gq hg hy).2.1 h2
 cases x
 cases y
 simp only[aC.mem]at*;simp only[jb,aC.mk.injEq];refine⟨trivial,t1.trans t2.symm,trivial,h1.trans h2.symm,?_,?_,?_,?_,?_⟩
 ·exact a4.1.symm.trans A.1
 ·exact a4.2.1.symm.trans A.2.1
 ·exact a4.2.2.1.symm.trans A.2.2.1
 ·exact a4.2.2.2.symm.trans A.2.2.2
 ·exact a5.symm.trans G
theorem nH (hg:cG t=true) (ho:cW t os):os.Nodup:=by
 refine ho.nodup_iff.2 ?_;unfold List.Nodup;rw[List.pairwise_map];exact(fD hg).imp fun h=>vX h
theorem oK (ho:cW t os):∀p∈os,p∈t.map (·.path):=fun p A=>ho.mem_iff.1 A
theorem jV (ho:cW t os) (hi:i<os.length):nodeAt t (os.getD i [])∈t∧(nodeAt t (os.getD i [])).path=os.getD i []:=by
 have h:os.getD i []∈t.map (·.path):=by
  refine oK ho _ ?_;rw[List.getD,Qd hi];exact List.getElem_mem hi
 exact⟨(kF h).2,(kF h).1⟩
theorem pG (ho:cW t os):(dQ t os).length=os.length:=by rw[rP (oK ho)];simp
theorem ml (ho:cW t os) (hi:i<os.length):(dQ t os).getD i dy=eP t os i:=by
 rw[rP (oK ho),List.getD,List.getElem?_map,List.getElem?_range hi];rfl
theorem KH {x:aC} (h:bZ x.mem=true) {p:List UInt8} (hp:dW p=true):bZ (jt x p)=true:=by
 unfold bZ at h⊢;simp only[Bool.and_eq_true]at h⊢;refine⟨⟨⟨⟨h.1.1.1.1,h.1.1.1.2⟩,decide_eq_true (Nat.zero_le _)⟩,by show((49:UInt8)==48||([]:List UInt8)==[])=true;decide⟩,?_⟩;show(if(49:UInt8)=48∨(49:UInt8)=53 then p==[]else if(49:UInt8)=49 then dW p else if(49:UInt8)=50 then _ else false)=true;rw[if_neg (by decide),if_pos rfl];exact hp
theorem F1 (hg:cG t=true) (ho:cW t os) (hi:i<os.length):bZ (eP t os i)=true:=by
 have B:=jV ho hi;unfold eP;split
 ·exact(gq hg B.1).2.1
 ·have A:=jV ho (show aW t os i<os.length from Nat.lt_of_le_of_lt (GL i) hi)
  refine KH (gq hg B.1).2.1 ?_;rw[←A.2];exact Fq (gq hg A.1).2.1
theorem vU (hg:cG t=true) (ho:cW t os):∀m∈dQ t os,bZ m=true:=fun m hm=>by
 rw[rP (oK ho)]at hm;obtain⟨i,hi,rfl⟩:=List.mem_map.1 hm;exact F1 hg ho (List.mem_range.1 hi)
def P4 (t:List aC) (os:List (List UInt8)) (k:Nat):St:=(List.range k).map fun i=>(os.getD i [],aW t os i)
theorem zp (hn:os.Nodup) (hk:k≤os.length):jX (P4 t os k):=by
 unfold jX P4;rw[List.map_map];unfold List.Nodup;rw[List.pairwise_iff_getElem];intro i j hi A B;rw[Qi,List.length_range]at hi A;rw[List.getElem_map,List.getElem_map,List.getElem_range,List.getElem_range];have:=(List.pairwise_iff_getElem.1 hn) i j (by omega) (by omega) B;show os.getD i []≠os.getD j [];rw[List.getD,List.getD,Qd (by omega),Qd (by omega)];exact this
theorem Jf (hn:os.Nodup) (hk:k<os.length):ki (P4 t os k) (os.getD k []) (aW t os k)=P4 t os (k+1):=by
 unfold ki P4;rw[List.range_succ,List.map_append]
 congr 1
 refine List.filter_eq_self.2 fun e he=>?_
 obtain⟨i,hi,rfl⟩:=List.mem_map.1 he;rw[List.mem_range]at hi;have:=(List.pairwise_iff_getElem.1 hn) i k (by omega) (by omega) hi
 have A:os.getD i []≠os.getD k []:=by
  rw[List.getD,List.getD,Qd (by omega),Qd (by omega)];exact this
 simpa using A
theorem vV (hg:cG t=true) (ho:cW t os):∀k,k≤os.length→fA (dQ t os) k=.ok (P4 t os k)
 |0,_=>rfl
 |k+1,hk=>by
  have D:=nH hg ho;have A:k<os.length:=by omega
  have E:=jV ho A;refine vP (vV hg ho k (by omega)) ?_;unfold kZ
  dsimp only
  rw[ml ho A]
  by_cases B:aW t os k=k
  ·have hm:eP t os k=(nodeAt t (os.getD k [])).mem:=by unfold eP;rw[if_pos B]
   rw[hm,if_neg (show ¬(nodeAt t (os.getD k [])).mem.kind=49 from(gq hg E.1).1)];have:=Jf (t:=t) D A;rw[B]at this;show some (ki _ (nodeAt t (os.getD k [])).path k)=_;rw[E.2,this]
  ·have G:aW t os k<k:=by have:=GL (t:=t) (os:=os) k;omega
   have hm:eP t os k=jt (nodeAt t (os.getD k [])) (os.getD (aW t os k) []):=by unfold eP;rw[if_neg B]
   have I:(nodeAt t (os.getD k [])).kind=48:=by
    by_cases h:(nodeAt t (os.getD k [])).kind=48
    ·exact h
    ·exact absurd (gv h) B
   rw[hm,if_pos (show(jt (nodeAt t (os.getD k [])) (os.getD (aW t os k) [])).kind=49 from rfl)]
   have hl:Tre.look (P4 t os k) (jt (nodeAt t (os.getD k [])) (os.getD (aW t os k) [])).target=some (aW t os k):=by
    have J:(os.getD (aW t os k) [],aW t os (aW t os k))∈P4 t os k:=List.mem_map.2 ⟨aW t os k,List.mem_range.2 G,rfl⟩;have:=CO (zp D (by omega)) J;rw[uw]at this;exact this
   rw[hl]
   dsimp only
   have H:((dQ t os).getD (aW t os k) dy).kind=48:=by
    rw[ml ho (by omega)];have:eP t os (aW t os k)=(nodeAt t (os.getD (aW t os k) [])).mem:=by unfold eP;rw[if_pos (uw k)]
    rw[this];exact(qX k).trans I
   rw[if_pos H];show some (ki _ (nodeAt t (os.getD k [])).path (aW t os k))=_;rw[E.2,Jf D A]
theorem CP {a b:List (List UInt8)} (ha:a.Pairwise fun x y=>eH x y=true) (hb:b.Pairwise fun x y=>eH x y=true) (h:a.Perm b):a=b:=
 List.Perm.eq_of_pairwise (fun x y _ _ (h1:eH x y=true) (h2:eH y x=true)=>by rw[qE h1]at h2;cases h2) ha hb h
theorem FZ (hg:cG t=true) (ho:cW t os):iX (dQ t os)=(t,0,0):=by
 have hn:=nH hg ho;have hS:=vV hg ho os.length (Qk _);have hA:=zp (t:=t) hn (Qk _);have e:=Cd (uN (vU hg ho)) (by rw[pG ho];exact hS);rw[e]
 congr 1
 obtain⟨T,d⟩:∃T,mL (P4 t os os.length)=T:=⟨_,rfl⟩
 have D:T.Perm (P4 t os os.length):=by rw[←d];exact pN _
 have G:Hv T:=by rw[←d];exact wZ hA
 have jP:∀a∈T,∃i,i<os.length∧a=(os.getD i [],aW t os i):=fun a H=>by
  obtain⟨i,hi,rfl⟩:=List.mem_map.1 (D.mem_iff.1 H);exact⟨i,List.mem_range.1 hi,rfl⟩
 have Zi:T.map (·.1)=t.map (·.path):=by
  refine CP (List.pairwise_map.2 G) (List.pairwise_map.2 (fD hg)) ?_;refine(D.map _).trans (List.Perm.trans (List.Perm.of_eq ?_) ho);unfold P4;rw[List.map_map];apply List.ext_getElem
  ·simp
  ·intro i h1 W
   simp only[List.getElem_map,List.getElem_range,Function.comp];rw[List.getD,Qd W];rfl
 have Zu:∀a∈T,td (dQ t os) T a=nodeAt t a.1:=fun a H=>by
  obtain⟨i,hi,rfl⟩:=jP a H;have U:aW t os i<os.length:=Nat.lt_of_le_of_lt (GL i) hi;have E:=jV ho hi;have hr:=jV ho U
  have hm:(dQ t os).getD (aW t os i) dy=(nodeAt t (os.getD (aW t os i) [])).mem:=by
   rw[ml ho U];unfold eP;rw[if_pos (uw i)]
  unfold td;rw[show((os.getD i [],aW t os i):List UInt8 × Nat).2=aW t os i from rfl,hm,show((os.getD i [],aW t os i):List UInt8 × Nat).1=os.getD i []from rfl]
  by_cases B:(nodeAt t (os.getD i [])).kind=48
  ·have Z:(nodeAt t (os.getD (aW t os i) [])).kind=48:=(qX i).trans B
   have u:=jd (t:=t) (os:=os) B;have c:=EZ hg E.1 hr.1 B Z u.2.1.2.2;rw[if_pos (show(nodeAt t (os.getD (aW t os i) [])).mem.kind=48 from Z)]
   have Zm:pg T (aW t os i)=(nodeAt t (os.getD i [])).ag:=by
    obtain⟨y,hy,q,y2,y3,_,_,_⟩:=l8 hg E.1 B;have o:y.path∈os:=ho.mem_iff.2 (List.mem_map_of_mem hy);obtain⟨a,r,H⟩:=List.mem_iff_getElem.1 o;have L:os.getD a []=y.path:=by rw[List.getD,Qd r,Option.getD_some,H]
    have O:nodeAt t (os.getD a [])=y:=by rw[L];exact kG hg hy
    have m:BL t os i a:=⟨by rw[O];exact y2,B,by rw[O,y3,q]⟩
    have l:aW t os i=aW t os a:=wP m;have RW:(y.path,aW t os i)∈T:=D.mem_iff.2 (List.mem_map.2 ⟨a,List.mem_range.2 r,by rw[L,l]⟩);obtain⟨f,hf,J⟩:=List.mem_iff_getElem.1 RW;have M:T.getD f ([],0)=(y.path,aW t os i):=by rw[List.getD,Qd hf,Option.getD_some,J]
    have:=FT hf (fun j hj W=>by
     have X:j<T.length:=by omega
     have g:T.getD j ([],0)=T[j]:=by rw[List.getD,Qd X];rfl
     rw[M,g]at W;obtain⟨b,hb,I⟩:=jP T[j] (List.getElem_mem X)
     have R:aW t os b=aW t os i:=by
      have:=congrArg Prod.snd I;rw[W]at this;exact this.symm
     have Y:=jV ho hb
     have YS:(nodeAt t (os.getD b [])).kind=48:=by
      rw[←qX (t:=t) (os:=os) b,R];exact Z
     have iN:(nodeAt t (os.getD b [])).ag=(nodeAt t (os.getD i [])).ag:=by
      rw[←(jd (t:=t) (os:=os) YS).2.1.2.2,R];exact u.2.1.2.2
     obtain⟨z,hz,z1,_,_,_,_,z6⟩:=l8 hg Y.1 YS;have V:z.path=y.path:=by rw[z1,iN,q]
     have ao:=(List.pairwise_iff_getElem.1 G) j f X hf hj;rw[J,I]at ao;have p:eH (os.getD b []) y.path=true:=ao;rcases z6 with z6|z6
     ·rw[←Y.2,←z6,V,ke]at p
      cases p
     ·rw[V,Y.2,qE p]at z6
      cases z6)
    rw[M]at this;exact this.trans q
   rw[Zm];have A:=E.2
   conv=>rhs;rw[c,A]
  ·rw[if_neg (show ¬(nodeAt t (os.getD (aW t os i) [])).mem.kind=48 from fun h=>B ((qX i).symm.trans h)),gv B]
   have N:=(gq hg E.1).2.2 B;have A:=E.2;obtain⟨x,ZO⟩:∃x,nodeAt t (os.getD i [])=x:=⟨_,rfl⟩
   rw[ZO]at A N⊢;rw[←A];exact IW rfl N.symm
 unfold nX;rw[d,List.map_congr_left Zu];have:T.map (fun a=>nodeAt t a.1)=(T.map (·.1)).map (nodeAt t):=by rw[List.map_map];rfl
 rw[this,Zi,List.map_map]
 conv=>rhs;rw[←List.map_id t]
 exact List.map_congr_left fun x E=>kG hg E
end
section
variable {t:List aC} {os:List (List UInt8)}
end
theorem pj:∀(a b:List (List UInt8)),a.Nodup→(∀x∈a,x∈b)→b.length≤a.length→a.Perm b
 |[],b,_,_,hl=>by
  have:b=[]:=List.eq_nil_of_length_eq_zero (Nat.le_zero.1 hl);rw[this]
 |x::a,b,hn,hs,hl=>by
  rw[List.nodup_cons]at hn;have D:x∈b:=hs x (List.mem_cons_self ..);have A:=List.perm_cons_erase D
  have hlen:(b.erase x).length≤a.length:=by
   have:=A.length_eq;simp only[List.length_cons]at this hl;omega
  refine List.Perm.trans (List.Perm.cons x (pj a (b.erase x) hn.2 (fun y hy=>?_) hlen)) A.symm;have B:y≠x:=fun e=>hn.1 (by rw[←e];exact hy)
  exact(List.mem_erase_of_ne B).2 (hs y (List.mem_cons_of_mem _ hy))
theorem oJ {t:List aC} (hg:cG t=true) (os:List (List UInt8)):cW t os↔os.length=t.length∧(∀p∈os,(ei t p).isSome=true)∧os.Nodup:=by
 constructor
 ·intro h
  refine⟨by have:=h.length_eq;rwa [Qi]at this,fun p A=>?_,nH hg h⟩;obtain⟨x,B,rfl⟩:=List.mem_map.1 (h.mem_iff.1 A);unfold ei;rw[List.find?_isSome];exact⟨x,B,by simp⟩
 ·rintro⟨h1,h2,h3⟩
  refine pj os _ h3 (fun p A=>?_) (by rw[Qi];omega);have:=h2 p A;unfold ei at this;rw[List.find?_isSome]at this;obtain⟨x,B,he⟩:=this;exact List.mem_map.2 ⟨x,B,by simpa using he⟩
end p8
namespace Ea
open Go.Lib Tre p8 Rec Attr
variable {m:aw}
def jm (t:List aC):List (List UInt8):=t.map (·.path)
def fg (t:List aC):List aw:=dQ t (jm t)
def jw (t:List aC):List UInt8:=sC (fg t)
def kN (bs:List UInt8):List aC × Int × Nat:=
 if(dv bs).2.1=0 then iX (dv bs).1 else([],(dv bs).2.1,(dv bs).2.2)
def mF (ms:List aw):Bool:=(List.range ms.length).all fun i=>decide (i=0)||eH (ms.getD (i - 1) dy).path (ms.getD i dy).path
def tv (ms:List aw) (k:Nat):Bool:=(List.range k).all fun i=>decide (i=0)||eH (ms.getD (i - 1) dy).path (ms.getD i dy).path
theorem L5 (ms:List aw):tv ms 1=true:=rfl
theorem GM (ms:List aw) (k:Nat) (hk:k≠0):tv ms (k+1)=(tv ms k&&eH (ms.getD (k - 1) dy).path (ms.getD k dy).path):=by
 unfold tv;rw[List.range_succ,List.all_append,List.all_cons,List.all_nil,Bool.and_true,decide_eq_false hk,Bool.false_or]
theorem L2 (ms:List aw):tv ms ms.length=mF ms:=rfl
theorem PR {ms:List aw} (h:mF ms=true) (k:Nat) (hk:k≤ms.length):tv ms k=true:=by
 unfold mF at h;unfold tv;rw[List.all_eq_true]at h⊢;intro i hi;exact h i (List.mem_range.2 (by have:=List.mem_range.1 hi;omega))
section
variable {t:List aC}
theorem kI (t:List aC):cW t (jm t):=List.Perm.refl _
theorem pI (t:List aC):(jm t).length=t.length:=by unfold jm;rw[Qi]
theorem Gm (hi:i<t.length):(jm t).getD i []=t[i].path:=by
 unfold jm;rw[List.getD,List.getElem?_map,Qd hi];rfl
theorem qI (t:List aC):(fg t).length=t.length:=by unfold fg;rw[pG (kI t),pI]
theorem fT (hg:cG t=true):∀m∈fg t,bZ m=true:=vU hg (kI t)
theorem jG (hg:cG t=true):(fg t).length≤4096:=by
 rw[qI];unfold cG at hg;simp only[Bool.and_eq_true,decide_eq_true_eq]at hg;exact hg.1
theorem tC (hg:cG t=true):kN (jw t)=(t,0,0):=by
 have h:=LV (fun m hm=>ga (fT hg m hm)) (jG hg) 0;rw[List.replicate_zero,List.append_nil]at h;unfold kN jw;rw[h,if_pos rfl];exact FZ hg (kI t)
theorem NY (hg:cG t=true):t.length≤4096:=by
 have:=jG hg
 rwa [qI]at this
theorem LZ (h:dz m):∀r∈aT m,r.1.length+r.2.length≤230:=by
 intro r hr;have hu:=h.uid;have A:=h.gid;have B:=h.time;have D:=h.wJ;have E:=h.DL;simp only[aT,List.mem_append]at hr
 have d:∀(c:Prop) [Decidable c] (k v:List UInt8),r∈(if c then[(k,v)]else[])→r=(k,v):=fun c _ k v hr=>by
  split at hr
  ·exact List.mem_singleton.1 hr
  ·cases hr
 have hk:∀i,i<6→(aB i).length≤8:=fun i hi=>by
  obtain rfl|rfl|rfl|rfl|rfl|rfl:i=0∨i=1∨i=2∨i=3∨i=4∨i=5:=by omega
  all_goals decide
 rcases hr with(((hr|hr)|hr)|hr)|hr<;>(have e:=d _ _ _ hr;subst e)
 ·have:=hk 4 (by omega);show(aB 4).length+m.path.length≤230;omega
 ·have:=hk 5 (by omega);show(aB 5).length+m.target.length≤230;omega
 ·have h1:=hk 0 (by omega);have:=ov hu.1 (by omega);show(aB 0).length+(ax _).length≤230;omega
 ·have h1:=hk 1 (by omega);have:=ov A.1 (by omega);show(aB 1).length+(ax _).length≤230;omega
 ·have h1:=hk 2 (by omega);have:=ov B.1 (by omega);show(aB 2).length+(ax _).length≤230;omega
theorem La (h:dz m):(aM (aT m)).length≤1536:=by
 have h1:=iH h
 have B:(aT m).length≤5:=by
  have d:∀(c:Prop) [Decidable c] (k v:List UInt8),(if c then[(k,v)]else[]).length≤1:=fun c _ k v=>by split<;>simp
  unfold aT;simp only[Qf];have D:=d (ik m=true) (aB 4) m.path;have a2:=d (gP m=true) (aB 5) m.target;have a3:=d (2097151<m.uid) (aB 0) (ax m.uid.toNat);have a4:=d (2097151<m.gid) (aB 1) (ax m.gid.toNat);have a5:=d (8589934591<m.time) (aB 2) (ax m.time.toNat);omega
 have E:=vT (n:=230) (l:=aT m) (fun r A=>⟨h1 r A,LZ h r A⟩);have G:(aT m).length*(230+10)≤5*240:=Nat.mul_le_mul B (Qk _);omega
theorem Dj (h:dz m):512+bg m.body.length≤(fu m).length∧(fu m).length≤512+bg m.body.length+2048∧(fu m).length % 512=0:=by
 have hl:=La h;have D:bg (aM (aT m)).length≤1536:=by unfold bg;omega
 have hm:=PF h;refine⟨hm.2,?_,hm.1⟩;obtain⟨H,_,A,_,(⟨_,e⟩|⟨X,_,B,_,e⟩)⟩:=lJ h
 ·rw[e,Qf,bu,A];omega
 ·rw[e,Qf,Qf,Qf,bu,bu,A,B];omega
theorem pk:∀(ms:List aw),(∀m∈ms,dz m)→512*ms.length+(ms.map fun m=>bg m.body.length).sum≤(bE ms).length∧(bE ms).length≤512*ms.length+(ms.map fun m=>bg m.body.length).sum+2048*ms.length∧(bE ms).length % 512=0
 |[],_=>by simp[bE]
 |m::ms,h=>by
  obtain⟨B,a2,a3⟩:=pk ms fun x A=>h x (List.mem_cons_of_mem _ A)
  obtain⟨D,E,G⟩:=Dj (h m (List.mem_cons_self ..));rw[fK,Qf,List.length_cons,List.map_cons,List.sum_cons];omega
end
end Ea
namespace p8
open Go.ChangeShapes Go.WideShapes Go.ChangeAt Go.RowKit Base cf cN Bk Rec Block Tre Go.Lib
def Ge (t:List aC) (os:List (List UInt8)):Bool:=decide (os.length=t.length)&&(os.all (fun p=>(ei t p).isSome)&&decide os.Nodup)
theorem wG {t:List aC} (hg:cG t=true) (os:List (List UInt8)):Ge t os=true↔cW t os:=by
 rw[oJ hg];simp only[Ge,Bool.and_eq_true,decide_eq_true_eq,List.all_eq_true]
def Wj (t:List aC) (os:List (List UInt8)):List aw × Int:=if Ge t os=true then(dQ t os,0)else([],1)
def p7 (w:World) (r:List aw × Int) (e:Ending) (w':World):Prop:=
 ∃q d ys,e=.returned (.tuple #[.slice q r.1.length d,.int .i64 r.2])∧ys.map MP.m=r.1∧dD w' q r.1.length ys∧r.1.length≤d∧d≤maxLen∧Below w.heap.size w w'
def U3 (w:World) (q:Option Addr) (n:Nat) (cc:List (List (List UInt8))):Prop:=
 cc.length=n∧∃ps:List (Option Addr × Nat),ps.length=n∧(∀i,i<n→ji w (ps.getD i (none,0)).1 (cc.getD i []).length (cc.getD i []))∧
  (0<n→∃b o,q=some ⟨b,o,none⟩∧b<w.heap.size∧∀i,i<n→w.cell? ⟨b,o+i,none⟩=some (.slice (ps.getD i (none,0)).1 (cc.getD i []).length (ps.getD i (none,0)).2))
theorem U3.below {q:Option Addr} {cc:List (List (List UInt8))} (h:U3 w q n cc) (hb:Below w.heap.size w w'):U3 w' q n cc:=by
 obtain⟨h1,ps,D,E,G⟩:=h;refine⟨h1,ps,D,fun i hi=>(E i hi).below hb,fun B=>?_⟩;obtain⟨b,o,rfl,A,hc⟩:=G B;refine⟨b,o,rfl,Nat.lt_of_lt_of_le A hb.size,fun i hi=>?_⟩;rw[hb.cell (p:=⟨b,o+i,none⟩) A];exact hc i hi
structure p9 (w:World) (p:Option Addr) (n c:Nat) (xs:List NP):Prop where
 at_:aV w p n xs
 nc:n≤c
 cm:c≤maxLen
 few:n≤100000
 room:∀x∈xs,x.m.path.length≤140737488351232∧x.m.target.length≤140737488351232∧x.m.ag.length≤140737488351232∧x.m.body.length≤140737488351232
 Vm:cG (xs.map NP.m)=true
theorem p9.below {c:Nat} {xs:List NP} (h:p9 w p n c xs) (hb:Below w.heap.size w w'):p9 w' p n c xs:=⟨h.at_.below hb,h.nc,h.cm,h.few,h.room,h.Vm⟩
structure Ht (w:World) (p:Option Addr) (n c:Nat) (os:List (List UInt8)):Prop where
 at_:ji w p n os
 nc:n≤c
 cm:c≤maxLen
 few:n≤100000
 room:∀s∈os,s.length≤140737488351232
structure yj (w:World) (p:Option Addr) (n c:Nat) (xs:List MP):Prop where
 at_:dD w p n xs
 nc:n≤c
 cm:c≤maxLen
 few:n≤100000
 room:∀x∈xs,x.m.path.length≤140737488351232∧x.m.target.length≤140737488351232∧x.m.body.length≤140737488351232
end p8
namespace Ea
open Go.ChangeShapes Go.WideShapes Go.ChangeAt Go.RowKit Base cf cN Bk Rec Tre p8 Go.Lib
structure uG (w:World) (p:Option Addr) (n c:Nat) (xs:List NP):Prop where
 at_:aV w p n xs
 nc:n≤c
 cm:c≤maxLen
 room:∀x∈xs,x.m.path.length≤140737488351232∧x.m.target.length≤140737488351232∧x.m.ag.length≤140737488351232∧x.m.body.length≤140737488351232
theorem uG.below {c:Nat} {xs:List NP} (h:uG w p n c xs) (hb:Below w.heap.size w w'):uG w' p n c xs:=⟨h.at_.below hb,h.nc,h.cm,h.room⟩
def mW (w:World) (t:List aC) (e:Ending) (w':World):Prop:=
 (cG t=true∧∃p c,e=.returned (.tuple #[.slice p (jw t).length c,.int .i64 0])∧(jw t).length≤c∧c≤maxLen∧cK w' p (jw t).length (jw t)∧Below w.heap.size w w')∨
 (cG t=false∧∃p c,e=.returned (.tuple #[.slice p 0 c,.int .i64 1])∧Below w.heap.size w w')
def tY (w:World) (bs:List UInt8) (e:Ending) (w':World):Prop:=
 ∃q d zs,e=.returned (.tuple #[.slice q zs.length d,.agg #[.int .i64 (kN bs).2.1,.int .i64 ((kN bs).2.2:Nat)]])∧zs.map NP.m=(kN bs).1∧aV w' q zs.length zs∧zs.length≤d∧d≤maxLen∧Below w.heap.size w w'
structure EmitC:Prop where
 pack:∀(w:World) (p:Option Addr) (n c:Nat) (xs:List NP),uG w p n c xs→Need w→Calls Tryz.prog 10 #[.slice p n c] w (mW w (xs.map NP.m))
 unpack:∀(w:World) (p:Option Addr) (n c:Nat) (bs:List UInt8) (q:Option Addr) (m d:Nat) (zs:List Int),cK w p n bs→bs.length=n→n≤140737488351232→Ho w q m zs→zs.length=m→m*8≤140737488351232→Need w→Calls Tryz.prog 13 #[.slice p n c,.slice q m d] w (tY w bs)
 sorted:∀(w:World) (p:Option Addr) (n c:Nat) (xs:List MP),yj w p n c xs→Need w→Calls Tryz.prog 19 #[.slice p n c] w fun e w'=>e=.returned (.bool (mF (xs.map MP.m)))∧Below w.heap.size w w'
theorem OJ (w:World):Ho w none 0 []:=fun h=>by omega
theorem SX {t:List aC} (hg:cG t=true):(jw t).length≤12289000000:=by
 have h1:=pk (fg t) fun m hm=>ga (fT hg m hm)
 have B:((fg t).map fun m=>bg m.body.length).sum≤(fg t).length*1048577*2:=by
  have:∀ms:List aw,(∀m∈ms,dz m)→(ms.map fun m=>bg m.body.length).sum≤ms.length*1048577*2:=fun ms=>by
   induction ms with
   |nil=>intro _;simp
   |cons m ms ih=>
    intro h;have a:=ih fun x A=>h x (List.mem_cons_of_mem _ A)
    have b:=(h m (List.mem_cons_self ..)).body;have c:=(fG m.body.length).2;rw[List.map_cons,List.sum_cons,List.length_cons];omega
  exact this _ fun m hm=>ga (fT hg m hm)
 have D:=jG hg;unfold jw;rw[lr,Qf,List.length_replicate];omega
end Ea
namespace p8
open Tre
variable {f:Nat}
def mJ (xs:List NP) (p:List UInt8):Option NP:=xs.find? fun y=>decide (y.m.path=p)
def jv (xs:List NP) (os:List (List UInt8)) (k:Nat) (p:List UInt8):Option NP:=if p∈os.take k then none else mJ xs p
section
variable {xs:List NP} {os:List (List UInt8)} {k:Nat}
theorem rG (p:List UInt8):(mJ xs p).map NP.m=ei (xs.map NP.m) p:=by
 unfold mJ ei;rw[List.find?_map]
 congr 2
 funext y
 show decide (y.m.path=p)=(y.m.path==p)
 by_cases h:y.m.path=p<;>simp[h]
theorem ud (hk:k<xs.length):xs.getD k aD=xs[k]:=by rw[List.getD,Qd hk];rfl
theorem Ff (hr:fM (xs.map NP.m)) (hk:k<xs.length):mJ (xs.take (k+1))=fun p=>if p=(xs.getD k aD).m.path then some (xs.getD k aD)else mJ (xs.take k) p:=by
 funext p
 unfold mJ;rw[List.take_succ_eq_append_getElem hk,List.find?_append,←ud hk,List.find?_cons]
 by_cases A:p=(xs.getD k aD).m.path
 ·rw[if_pos A,A,decide_eq_true rfl]
  have:(xs.take k).find? (fun y=>decide (y.m.path=(xs.getD k aD).m.path))=none:=by
   rw[List.find?_eq_none];intro x D;obtain⟨i,hi,rfl⟩:=List.mem_take_iff_getElem.1 D;have:=(List.pairwise_iff_getElem.1 hr) i k (by rw[Qi];omega) (by rw[Qi];exact hk) (by omega);rw[List.getElem_map,List.getElem_map]at this;have B:=vX this;rw[ud hk]
   simpa using B
  rw[this];rfl
 ·rw[if_neg A,decide_eq_false (fun e=>A e.symm)]
  simp
theorem FX:jv xs os 0=mJ xs:=by
 funext p
 unfold jv;rw[List.take_zero,if_neg (List.not_mem_nil)]
theorem FW (hk:k<os.length):jv xs os (k+1)=fun p=>if p=os.getD k []then none else jv xs os k p:=by
 funext p
 unfold jv;rw[List.take_succ_eq_append_getElem hk,List.getD,Qd hk,Option.getD_some]
 by_cases B:p=os[k]
 ·rw[if_pos B,if_pos (by rw[B];exact List.mem_append.2 (.inr (List.mem_singleton.2 rfl)))]
 ·rw[if_neg B]
  by_cases A:p∈os.take k
  ·rw[if_pos A,if_pos (by rw[List.mem_append];exact .inl A)]
  ·rw[if_neg A,if_neg (by rw[List.mem_append,List.mem_singleton];exact fun h=>h.elim A B)]
def Jw (xs:List NP) (os:List (List UInt8)) (k:Nat) (zs:List NP):Prop:=∀i,i<k→jv xs os i (os.getD i [])=some (zs.getD i aD)
theorem si {zs:List NP} (h:Jw xs os k zs) (hi:i<k):mJ xs (os.getD i [])=some (zs.getD i aD):=by
 have:=h i hi;unfold jv at this;split at this
 ·cases this
 ·exact this
theorem G7 {zs:List NP} (hg:cG (xs.map NP.m)=true) (hl:os.length=xs.length) (h:Jw xs os os.length zs):cW (xs.map NP.m) os:=by
 rw[oJ hg];refine⟨by rw[Qi];exact hl,fun p B=>?_,?_⟩
 ·obtain⟨i,hi,rfl⟩:=List.mem_iff_getElem.1 B
  have:=si h hi;rw[List.getD,Qd hi,Option.getD_some]at this;rw[←rG,this];rfl
 ·rw[List.nodup_iff_pairwise_ne,List.pairwise_iff_getElem]
  intro i j hi A D e;have:=h j A;unfold jv at this;rw[List.getD,Qd A,Option.getD_some,if_pos]at this
  ·cases this
  ·rw[←e]
   exact List.mem_take_iff_getElem.2 ⟨i,by omega,rfl⟩
theorem Lq (hg:cG (xs.map NP.m)=true) (hk:k<os.length) (h:jv xs os k (os.getD k [])=none):¬cW (xs.map NP.m) os:=fun E=>by
 obtain⟨_,B,D⟩:=(oJ hg os).1 E;have A:os.getD k []=os[k]:=by rw[List.getD,Qd hk];rfl
 unfold jv at h;split at h
 ·next hm=>
  rw[A]at hm;obtain⟨i,hi,e⟩:=List.mem_take_iff_getElem.1 hm;exact(List.pairwise_iff_getElem.1 D) i k (by omega) hk (by omega) e
 ·have:=B (os.getD k []) (by rw[A];exact List.getElem_mem hk)
  rw[←rG,h]at this
  cases this
end
def cQ (t:List aC) (os:List (List UInt8)) (k:Nat) (l:List UInt8):Option Nat:=
 (List.range k).find? fun j=>decide ((nodeAt t (os.getD j [])).kind=48)&&decide ((nodeAt t (os.getD j [])).ag=l)
section
variable {t:List aC} {os:List (List UInt8)} {k:Nat}
theorem kC:cQ t os (k+1)=fun l=>(cQ t os k l).or (if(nodeAt t (os.getD k [])).kind=48∧(nodeAt t (os.getD k [])).ag=l then some k else none):=by
 funext l
 unfold cQ;rw[List.range_succ,List.find?_append,List.find?_cons]
 by_cases h:(nodeAt t (os.getD k [])).kind=48∧(nodeAt t (os.getD k [])).ag=l
 ·rw[if_pos h,decide_eq_true h.1,decide_eq_true h.2];rfl
 ·rw[if_neg h]
  have:(decide ((nodeAt t (os.getD k [])).kind=48)&&decide ((nodeAt t (os.getD k [])).ag=l))=false:=by
   simpa using fun h1 A=>h ⟨h1,A⟩
  rw[this];rfl
theorem Cc (h:(nodeAt t (os.getD k [])).kind≠48):cQ t os (k+1)=cQ t os k:=by
 rw[kC]
 funext l
 rw[if_neg (fun A=>h A.1),Option.or_none]
theorem Ku (h:(nodeAt t (os.getD k [])).kind=48) (hn:cQ t os k (nodeAt t (os.getD k [])).ag=none):cQ t os (k+1)=fun l=>if l=(nodeAt t (os.getD k [])).ag then some k else cQ t os k l:=by
 rw[kC]
 funext l
 by_cases hl:l=(nodeAt t (os.getD k [])).ag
 ·rw[if_pos hl,hl,hn,if_pos ⟨h,rfl⟩];rfl
 ·rw[if_neg hl,if_neg (fun A=>hl A.2.symm),Option.or_none]
theorem Kv (hf:cQ t os k (nodeAt t (os.getD k [])).ag=some f):cQ t os (k+1)=cQ t os k:=by
 rw[kC]
 funext l
 by_cases hl:(nodeAt t (os.getD k [])).ag=l
 ·rw[←hl,hf];rfl
 ·rw[if_neg (fun A=>hl A.2),Option.or_none]
theorem Cb (hf:cQ t os k l=some f):f<k:=by
 unfold cQ at hf;exact List.mem_range.1 (List.mem_of_find?_eq_some hf)
theorem ze (h:(nodeAt t (os.getD k [])).kind=48):aW t os k=(cQ t os k (nodeAt t (os.getD k [])).ag).getD k:=by
 have e:aW t os k=(cQ t os (k+1) (nodeAt t (os.getD k [])).ag).getD k:=by
  unfold aW cQ;rw[if_pos h]
 rw[e,kC]
 dsimp only
 cases cQ t os k (nodeAt t (os.getD k [])).ag with
 |some f=>rfl
 |none=>rw[if_pos ⟨h,rfl⟩];rfl
theorem Lj (h:(nodeAt t (os.getD k [])).kind≠48):eP t os k=(nodeAt t (os.getD k [])).mem:=by
 unfold eP;rw[if_pos (gv h)]
theorem SH (h:(nodeAt t (os.getD k [])).kind=48) (hn:cQ t os k (nodeAt t (os.getD k [])).ag=none):eP t os k=(nodeAt t (os.getD k [])).mem:=by
 unfold eP;rw[if_pos (by rw[ze h,hn];rfl)]
theorem SI (h:(nodeAt t (os.getD k [])).kind=48) (hf:cQ t os k (nodeAt t (os.getD k [])).ag=some f):eP t os k=jt (nodeAt t (os.getD k [])) (os.getD f []):=by
 unfold eP;have:=Cb hf;rw[ze h,hf,Option.getD_some,if_neg (by omega)]
theorem ET {x:aC} (h:bZ x.mem=true) (hk:x.kind≠48):x.body=[]:=by
 unfold bZ at h;simp only[Bool.and_eq_true,Bool.or_eq_true,beq_iff_eq]at h;rcases h.1.2 with h1|h1
 ·exact absurd h1 hk
 ·exact h1
end
end p8
namespace p8
open Go.ChangeShapes Go.WideShapes Go.ChangeAt Go.RowKit Base cf cN Bk Mk Tre Go.Lib
variable {os:List (List UInt8)} {xs zs:List NP}
def kg (f:List UInt8→Option NP):List UInt8→Option Value:=fun x=>(f x).map fun y=>.agg y.cs
theorem Pq (w:World):(zeroValue 52).run Tryz.prog w=.ok (.agg #[.string ⟨#[]⟩,.string ⟨#[]⟩,.string ⟨#[]⟩,.int .u8 0,.int .i64 0,.int .i64 0,.int .i64 0,.int .i64 0,.slice none 0 0]) w:=Tryz.zeroValue52 w
def Hq (w:World) (xs:List NP) (os:List (List UInt8)) (n:Nat) (e:Ending) (w':World):Prop:=
 (∃q zs,e=.returned (.tuple #[.slice q n n,.bool true])∧Jw xs os n zs∧zs.length=n∧os.length=n∧aV w' q n zs∧cW (xs.map NP.m) os∧Below w.heap.size w w')∨
 (e=.returned (.tuple #[.slice none 0 0,.bool false])∧¬cW (xs.map NP.m) os∧Below w.heap.size w w')
structure IoJ (w wr:World) (M:Nat) (xs:List NP) (k:Nat):Prop where
 bel:Below w.heap.size w wr
 map:dd jo wr M (kg (mJ (xs.take k)))
 new:w.heap.size≤M
structure Xi (w wr:World) (M g:Nat) (xs:List NP) (os:List (List UInt8)) (n k:Nat) (zs:List NP):Prop where
 bel:Below w.heap.size w wr
 map:dd jo wr M (kg (jv xs os k))
 new:w.heap.size≤M
 row:Rw wr g zs
 RR:w.heap.size≤g
 len:zs.length=n
 Mt:Jw xs os k zs
theorem Xi.below {wr:World} {M:Nat} (h:Xi w wr M g xs os n k zs) (hb:Below wr.heap.size wr w'):Xi w w' M g xs os n k zs:=
 ⟨h.bel.trans (hb.mono h.bel.size),h.map.kept (Kept.aO hb ai) (fun h=>h.elim),h.new,au.below h.row hb (au.lt h.row),h.RR,h.len,h.Mt⟩
theorem Qo {y:NP} (h:Jw xs os k zs) (hk:k<zs.length) (hy:jv xs os k (os.getD k [])=some y):Jw xs os (k+1) (zs.set k y):=fun i hi=>by
 rw[getSet zs k i y hk]
 by_cases A:i=k
 ·rw[if_pos A,A];exact hy
 ·rw[if_neg A];exact h i (by omega)
theorem Cx (w:World) (p:Option Addr) (n c:Nat) (xs:List NP) (a:Option Addr) (m d:Nat) (os:List (List UInt8)) (hN:p9 w p n c xs) (hO:Ht w a m d os):
 Calls Tryz.prog 48 #[.slice p n c,.slice a m d] w (Hq w xs os n):=by
 obtain⟨i0,hi,eo,dH,dM⟩:=info_parts Ao;have HI:=Qh hi;have jr:=Qh eo;have ib:=Qh dH;have js:=Qh dM;have Ae:=@run_makeMap Tryz.prog;have HM:=Qh hN.at_;have q:=Qh hN.at_.1;have o:=Qh hN.Vm;have Y5:=hN.few;have HO:=Qh hO.at_;have N:=Qh hO.at_.1;clear hi eo dH dM hN hO
 go_enter Tryz.func48,Tryz.ntmps48
 by_cases R8:m=n
 ·subst R8
  obtain⟨w1,V8⟩:∃w1,w.alloc (.map #[] 0)=w1:=⟨_,rfl⟩
  have HJ0:Hid (IoJ w w1 w.heap.size xs 0):=Qh
   {bel:=by rw[←V8];exact(Below.refl _ _).alloc (Qk _) _
    map:=by
     have e:kg (mJ (xs.take 0))=fun _=>none:=by funext l;rfl
     rw[e,←V8];exact jU jo w
    new:=Qk _}
  go_upto_region 4 with fail
  clear V8 Ae;go_wp2_with fail
  go_loopw [8,22] (fun _ i wr=>∃(k:Nat),k≤m∧i=.int .i64 (k:Int)∧Hid (IoJ w wr w.heap.size xs k)) (fun _ i _=>m - (RowKit.intOf i).toNat)
  case atStart=>exact⟨0,Nat.zero_le _,rfl,HJ0⟩
  case round=>
   obtain⟨k,hk,rfl,L⟩:=hrel
   by_cases J:k<m
   ·obtain⟨b1,o1,rfl,ck,mK,hc⟩:=(HM.out.below L.out.bel).dF J
    obtain⟨y,hy⟩:∃y,xs.getD k aD=y:=⟨_,rfl⟩
    rw[hy]at hc mK;have HY:=Qh hy;obtain⟨c0,c1,c2,c3,c4,c5,c6,c7,c8⟩:=hc;obtain⟨W5,H⟩:∃W5,wr.alloc (.cells y.cs 52)=W5:=⟨_,rfl⟩
    have T:Below wr.heap.size wr W5:=by rw[←H];exact(Below.refl _ _).alloc (Qk _) _
    have A:au W5 wr.heap.size 52 y.cs:=by rw[←H];exact au.new wr _ _
    have o4:=Qh T;have gW:=Qh (L.out.map.kept (Kept.aO T ai) (fun h=>h.elim));have z0:=A.cell 0;have X:=A.cell 1;have z2:=A.cell 2;have z3:=A.cell 3;have z4:=A.cell 4;have z5:=A.cell 5;have Y:=A.cell 6;have Z:=A.cell 7;have f:=A.cell 8;unfold NP.cs gB at H;simp only[NP.cs,gB,Qc,Qa,Qb]at z0 X z2 z3 z4 z5 Y Z f;have j5:(k:Int)<(m:Int):=by omega
    clear hy ck mK A T;go_upto_region 7 with fail;clear H c0 c1 c2 c3 c4 c5 c6 c7 c8
    go_wp2_with (at_mapUpdate;refine dB (K:=jo) rfl (.tmp 26) (.tmp 28) (.tmp 29) rfl Tryz.underlying138 Tryz.underlying9 w.heap.size gW.out rfl y.m.path rfl (.agg y.cs) rfl ?_)
    intro w7 W R Sc
    have HN:Hid (IoJ w w7 w.heap.size xs (k+1)):=by
     have I:=L.out.bel.trans (o4.out.mono L.out.bel.size);refine Qh ⟨I.trans (R.out.below I.size (fun b I=>by rw[show b=w.heap.size from I];exact Qk _)),?_,Qk _⟩
     have e:kg (mJ (xs.take (k+1)))=fun z=>if z=y.m.path then some (.agg y.cs)else kg (mJ (xs.take k)) z:=by
      funext z
      unfold kg;rw[Ff (fD o.out) (show k<xs.length by rw[q.out];exact J),HY.out]
      by_cases h:z=y.m.path<;>simp[h]
     rw[e];exact W.out
    clear W R Sc z0 X z2 z3 z4 z5 Y Z f;go_wp2;go_roundw
    case rel=>exact⟨k+1,by omega,by go_num,HN⟩
    case measure=>simp[RowKit.intOf];omega
   ·obtain rfl:k=m:=by omega
    have lP:¬((k:Int)<(k:Int)):=by omega
    have D0:=L.out.bel;have R9:=L.out.map;rw[List.take_of_length_le (by rw[q.out];exact Qk _)]at R9;have V:=Qh R9;have u:=Qh D0;clear L R9 D0
    go_wp2_with (at_make;refine wpList_make_full _ rfl _ _ 22 rfl wr.heap.size 52 i0 _ 9 Tryz.underlying22 HI.out jr.out ib.out .i64 .i64 _ _ k rfl rfl rfl rfl (by rw[js.out];omega) (by unfold maxLen;omega) (Qk _) ?_)
    intro w3 nr aS
    have QS:=Je (B:=wr.heap.size) (w':=w3) (g:=wr.heap.size) (n:=k) (by
     have h9:=nr;rw[vZ]at h9
     exact h9)
    have dt:Kept ai wr w3:=(Kept.refl ai wr).grown aS (fun k h=>by cases h);have t:Below wr.heap.size wr w3:=dt.below (Qk _) (fun _ h=>h.elim)
    have XW:Hid (Xi w w3 w.heap.size wr.heap.size xs os k 0 (List.replicate k aD)):=Qh
     {bel:=u.out.trans (t.mono u.out.size)
      map:=by rw[FX];exact V.out.kept dt (fun h=>h.elim)
      new:=Qk _
      row:=QS
      RR:=u.out.size
      len:=by simp
      Mt:=fun i hi=>by omega}
    obtain⟨g,hg⟩:∃g,wr.heap.size=g:=⟨_,rfl⟩
    rw[hg]at XW⊢;clear nr aS QS dt t V u hg;go_wp2_with fail
    go_loopw [10,11,12,13,36] (fun _ _ _ _ i wr=>∃(j:Nat) (zs:List NP),j≤k∧i=.int .i64 (j:Int)∧Hid (Xi w wr w.heap.size g xs os k j zs)) (fun _ _ _ _ i _=>k - (RowKit.intOf i).toNat)
    case atStart=>exact⟨0,_,Nat.zero_le _,rfl,XW⟩
    case round=>
     obtain⟨j,zs,hj,rfl,G⟩:=hrel
     by_cases J:j<k
     ·obtain⟨b3,o3,rfl,t,Ci⟩:=(HO.out.below G.out.bel).2 (by omega)
      have z0:=Ci j J;obtain⟨x,hx⟩:∃x,os.getD j []=x:=⟨_,rfl⟩
      rw[hx]at z0;have HX:=Qh hx;have O:=G.out.map.look_ok (P:=Tryz.prog) Tryz.underlying138 Tryz.underlying9 Pq x;obtain⟨fo,xE⟩:∃fo,jv xs os j x=fo:=⟨_,rfl⟩
      have zE:=Qh xE;unfold kg at O;rw[xE]at O;have j5:(j:Int)<(k:Int):=by omega
      clear hx xE Ci t
      cases fo with
      |none=>
       have Wi:(Instr.lookup 138 (.map (some w.heap.size)) (.string (str x)) true).run Tryz.prog wr=.ok (.tuple #[.agg #[.string ⟨#[]⟩,.string ⟨#[]⟩,.string ⟨#[]⟩,.int .u8 0,.int .i64 0,.int .i64 0,.int .i64 0,.int .i64 0,.slice none 0 0],.bool false]) wr:=O;have E:Hid (¬cW (xs.map NP.m) os):=Qh (Lq o.out (show j<os.length by rw[N.out];exact J) (by rw[HX.out];exact zE.out));have HB:=Qh G.out.bel;clear O;go_wp2;go_ret2;exact .inr ⟨rfl,E.out,HB.out.alloc HB.out.size _⟩
      |some y=>
       have Wi:(Instr.lookup 138 (.map (some w.heap.size)) (.string (str x)) true).run Tryz.prog wr=.ok (.tuple #[.agg #[.string (str y.m.path),.string (str y.m.target),.string (str y.m.ag),.int .u8 (y.m.kind.toNat:Int),.int .i64 y.m.mode,.int .i64 y.m.uid,.int .i64 y.m.gid,.int .i64 y.m.time,.slice y.p y.m.body.length y.c],.bool true]) wr:=O;obtain⟨W5,H⟩:∃W5,wr.alloc (.cells y.cs 52)=W5:=⟨_,rfl⟩
       have T:Below wr.heap.size wr W5:=by rw[←H];exact(Below.refl _ _).alloc (Qk _) _
       have A:au W5 wr.heap.size 52 y.cs:=by rw[←H];exact au.new wr _ _
       have D:=Qh (G.out.below T);have X:=A.cell 0;have z2:=A.cell 1;have z3:=A.cell 2;have z4:=A.cell 3;have z5:=A.cell 4;have Y:=A.cell 5;have Z:=A.cell 6;have f:=A.cell 7;have z9:=A.cell 8;unfold NP.cs gB at H;simp only[NP.cs,gB,Qc,Qa,Qb]at X z2 z3 z4 z5 Y Z f z9;have M:j<zs.length:=by rw[D.out.len];exact J
       obtain⟨r0,r1,r2,r3,r4,r5,r6,r7,r8⟩:=D.out.row.dF M;have f0:=au.frozen D.out.row (j*9);have f1:=au.frozen D.out.row (j*9+1);have f2:=au.frozen D.out.row (j*9+2);have f3:=au.frozen D.out.row (j*9+3);have f4:=au.frozen D.out.row (j*9+4);have f5:=au.frozen D.out.row (j*9+5);have f6:=au.frozen D.out.row (j*9+6);have f7:=au.frozen D.out.row (j*9+7);have f8:=au.frozen D.out.row (j*9+8);have U:=Qh M;clear O M T A;go_upto_region 14 with fail;clear H Wi z0;go_upto_region 17 with fail;obtain⟨W6,r⟩:∃W6,(((((((((W5.setCell ⟨g,j*9,none⟩ (.string (str y.m.path))).setCell ⟨g,j*9+1,none⟩ (.string (str y.m.target))).setCell ⟨g,j*9+2,none⟩ (.string (str y.m.ag))).setCell ⟨g,j*9+3,none⟩ (.int .u8 (y.m.kind.toNat:Int))).setCell ⟨g,j*9+4,none⟩ (.int .i64 y.m.mode)).setCell ⟨g,j*9+5,none⟩ (.int .i64 y.m.uid)).setCell ⟨g,j*9+6,none⟩ (.int .i64 y.m.gid)).setCell ⟨g,j*9+7,none⟩ (.int .i64 y.m.time)).setCell ⟨g,j*9+8,none⟩ (.slice y.p y.m.body.length y.c))=W6:=⟨_,rfl⟩
       have xt:Kept (ay g) W5 W6:=by rw[←r];exact Jd (S:=ay g) rfl _ _ _ _ _ _ _ _ _
       have Bl:Rw W6 g (zs.set j y):=by rw[←r];exact D.out.row.set U.out y
       have VK:g≠w.heap.size:=na D.out.row D.out.map;have T2:dd jo W6 w.heap.size (kg (jv xs os j)):=D.out.map.kept xt (fun e=>VK e.symm);rw[r];have MZ:=Qh xt;have Hl:=Qh Bl;have pq:=Qh T2;have UA:=Qh VK;clear r xt Bl T2 VK r0 r1 r2 r3 r4 r5 r6 r7 r8 f0 f1 f2 f3 f4 f5 f6 f7 f8 X z2 z3 z4 z5 Y Z f z9
       go_wp2_with (at_delete;refine DS (K:=jo) rfl (.tmp 53) (.tmp 54) 138 9 rfl 52 Tryz.underlying138 Tryz.underlying9 w.heap.size pq.out rfl x rfl ?_)
       intro w7 W R Sc
       have HN:Hid (Xi w w7 w.heap.size g xs os k (j+1) (zs.set j y)):=by
        have qn:Below w.heap.size w W6:=D.out.bel.trans (MZ.out.below D.out.bel.size (fun b I=>by rw[show b=g from I];exact D.out.RR));refine Qh ⟨qn.trans (R.out.below qn.size (fun b I=>by rw[show b=w.heap.size from I];exact Qk _)),?_,Qk _,au.bV Hl.out R.out UA.out,D.out.RR,by rw[List.length_set];exact D.out.len,Qo D.out.Mt U.out (by rw[HX.out];exact zE.out)⟩
        have e:kg (jv xs os (j+1))=fun z=>if z=x then none else kg (jv xs os j) z:=by
         funext z
         unfold kg;rw[FW (show j<os.length by rw[N.out];exact J),HX.out]
         by_cases h:z=x<;>simp[h]
        rw[e];exact W.out
       clear W R Sc;go_wp2;go_roundw
       case rel=>exact⟨j+1,_,by omega,by go_num,HN⟩
       case measure=>simp[RowKit.intOf];omega
     ·obtain rfl:j=k:=by omega
      have lP:¬((j:Int)<(j:Int)):=by omega
      have Oy:cW (xs.map NP.m) os:=G7 o.out (by rw[N.out,q.out]) (by rw[N.out];exact G.out.Mt)
      have tO:aV wr (some ⟨g,0,none⟩) j zs:=by
       have h1:=G.out.row.nodes (fun y hy=>by
        obtain⟨i,hi,rfl⟩:=List.mem_iff_getElem.1 hy;have h2:=si G.out.Mt (show i<j by rw[←G.out.len];exact hi);rw[ud hi]at h2
        exact(HM.out.below G.out.bel).2.1 _ (List.mem_of_find?_eq_some h2))
       rw[G.out.len]at h1;exact h1
      have HF:=Qh (And.intro Oy tO);clear Oy tO;go_wp2;go_ret2;exact .inl ⟨_,zs,rfl,G.out.Mt,G.out.len,N.out,HF.out.2,HF.out.1,G.out.bel⟩
 ·have E:Hid (¬cW (xs.map NP.m) os):=Qh (fun h=>R8 (by
   have h1:=((oJ o.out os).1 h).1;rw[Qi,q.out,N.out]at h1
   exact h1))
  have cX:¬((m:Int)=(n:Int)):=by omega
  go_wp2;go_ret2;exact .inr ⟨rfl,E.out,Below.refl _ _⟩
end p8
namespace p8
open Go.ChangeShapes Go.WideShapes Go.ChangeAt Go.RowKit Base cf cN Bk Rec Block Go.Proofs.YtdhibldkldlfpaaGreatDoor.Mp Tre Go.Lib
variable {cs:Array Value} {a:Nat}
abbrev TF:=List (List UInt8 × List UInt8)
theorem zU {F:TF} (ha:a<F.length):F.getD a ([],[])=F[a]:=by rw[List.getD,Qd ha];rfl
theorem Vg (F:TF) (a:Nat):(F.map (·.1)).getD a []=(F.getD a ([],[])).1:=by
 rw[List.getD,List.getD,List.getElem?_map]
 cases F[a]? <;>rfl
theorem Vh (F:TF) (a:Nat):(F.map (·.2)).getD a []=(F.getD a ([],[])).2:=by
 rw[List.getD,List.getD,List.getElem?_map]
 cases F[a]? <;>rfl
theorem NR {F:TF} (ha:a<F.length) (h:(F.getD a ([],[])).1=l) (h0:∀i,i<a→(F.getD i ([],[])).1≠l):F.find? (fun e=>e.1==l)=some (F.getD a ([],[])):=by
 rw[List.find?_eq_some_iff_getElem];refine⟨by simpa using h,a,ha,(zU ha).symm,fun j A=>?_⟩;have:=h0 j A;rw[zU (show j<F.length by omega)]at this
 simpa using this
theorem Kt {F:TF} (h0:∀i,i<F.length→(F.getD i ([],[])).1≠l):F.find? (fun e=>e.1==l)=none:=by
 rw[List.find?_eq_none];intro e he;obtain⟨i,hi,rfl⟩:=List.mem_iff_getElem.1 he;have:=h0 i hi;rw[zU hi]at this
 simpa using this
theorem uu {w:World} {B m:Nat} {v u:Value} {xs ys:List Value} (h1:w.ownsRow B 48 8 v n xs) (h2:w.ownsRow B 9 1 u m ys):∀k,u.ownBlock=some k→v.ownBlock≠some k:=fun k hu A=>by
 rcases h1.2 with⟨rfl,_⟩|⟨g,cap,cur,rfl,_,hg,_⟩
 ·cases A
 ·rcases h2.2 with⟨rfl,_⟩|⟨g',al1,al2,rfl,_,VJ,_⟩
  ·cases hu
  ·have D:g=k:=by simpa [Value.ownBlock]using A
   have E:g'=k:=by simpa [Value.ownBlock]using hu
   subst D;subst E;rw[hg]at VJ;simp only[Option.some.injEq,Obj.cells.injEq]at VJ;exact absurd VJ.2.1 (by decide)
structure Ei (w wr:World) (F:TF) (ms:List aw) (vo v6 v7:Value) (ys:List MP):Prop where
 bel:Below w.heap.size w wr
 out:wr.ownsRow w.heap.size 48 8 vo ys.length (fz ys)
 same:ys.map MP.m=ms
 RE:∀y∈ys,dP w y
 lh:wr.ownsRow w.heap.size 9 1 v6 F.length (dA (F.map (·.1)))
 fst:wr.ownsRow w.heap.size 9 1 v7 F.length (dA (F.map (·.2)))
 sep:∀k,v6.ownBlock=some k→v7.ownBlock≠some k
section
variable {w wr w':World} {F:TF} {ms:List aw} {vo v6 v7:Value} {ys:List MP}
theorem Ei.below (h:Ei w wr F ms vo v6 v7 ys) (hb:Below wr.heap.size wr w'):Ei w w' F ms vo v6 v7 ys where
 bel:=h.bel.trans (hb.mono h.bel.size)
 out:=cA h.out hb
 same:=h.same
 RE:=h.RE
 lh:=cA h.lh hb
 fst:=cA h.fst hb
 sep:=h.sep
theorem Ei.add (h:Ei w wr F ms vo v6 v7 ys) {y:MP} {m:aw} (hy:y.m=m) (hb:dP w y) {v':Value} (bC:w'.ownsRow w.heap.size 48 8 v' (ys++[y]).length (fz (ys++[y]))) (hg:wr.grownBy w' vo.ownBlock):Ei w w' F (ms++[m]) v' v6 v7 (ys++[y]):=by
 have A:Kept (fun b=>vo.ownBlock=some b) wr w':=(Kept.refl _ wr).grown hg (fun k hk=>.inr hk);exact
 {bel:=h.bel.trans (A.below h.bel.size (fun k hk=>(World.ownsRow.lt h.out _ hk).1))
  out:=bC
  same:=by rw[List.map_append,h.same,←hy];rfl
  RE:=fun x hx=>by
   rcases List.mem_append.1 hx with hx|hx
   ·exact h.RE x hx
   ·rw[List.mem_singleton.1 hx];exact hb
  lh:=bh h.lh A (fun k hk e=>uu h.out h.lh k hk e)
  fst:=bh h.fst A (fun k hk e=>uu h.out h.fst k hk e)
  sep:=h.sep}
theorem Ei.note (h:Ei w wr F ms vo v6 v7 ys) {u6 u7:Value} {e:List UInt8 × List UInt8} (hk:Kept (Qr v6 v7) wr w') (h6:w'.ownsRow w.heap.size 9 1 u6 (F.map (·.1)++[e.1]).length (dA (F.map (·.1)++[e.1]))) (h7:w'.ownsRow w.heap.size 9 1 u7 (F.map (·.2)++[e.2]).length (dA (F.map (·.2)++[e.2]))) (hs:∀k,u6.ownBlock=some k→u7.ownBlock≠some k):Ei w w' (F++[e]) ms vo u6 u7 ys where
 bel:=h.bel.trans (hk.below h.bel.size (fun k hk=>by
  rcases hk with hk|hk
  ·exact(World.ownsRow.lt h.lh _ hk).1
  ·exact(World.ownsRow.lt h.fst _ hk).1))
 out:=bh h.out hk (fun k A e=>by
  rcases e with e|e
  ·exact uu h.out h.lh k e A
  ·exact uu h.out h.fst k e A)
 same:=h.same
 RE:=h.RE
 lh:=by
  rw[List.map_append,show(F++[e]).length=(F.map (·.1)++[e.1]).length by simp];exact h6
 fst:=by
  rw[List.map_append,show(F++[e]).length=(F.map (·.2)++[e.2]).length by simp];exact h7
 sep:=hs
theorem Ei.off (h:Ei w wr F ms vo v6 v7 ys) {t:TypeId} (ht:t≠9) (hb:au wr b t cs):¬Qr v6 v7 b:=fun e=>by
 have key:∀{v:Value} {n:Nat} {xs:List Value},wr.ownsRow w.heap.size 9 1 v n xs→v.ownBlock≠some b:=fun {v n xs} ho e=>by
  rcases ho.2 with⟨rfl,_⟩|⟨g,cap,cur,rfl,_,hg,_⟩
  ·cases e
  ·have A:g=b:=by simpa [Value.ownBlock]using e
   subst A;unfold au at hb;rw[hg]at hb;simp only[Option.some.injEq,Obj.cells.injEq]at hb;exact ht hb.2.1.symm
 rcases e with e|e
 ·exact key h.lh e
 ·exact key h.fst e
theorem Ei.box (h:Ei w wr F ms vo v6 v7 ys) (hb:au wr b 48 cs) (D5:w.heap.size≤b∧vo.ownBlock≠some b) (hk:Kept (ay b) wr w'):Ei w w' F ms vo v6 v7 ys where
 bel:=h.bel.trans (hk.below h.bel.size (fun k hk=>by rw[show k=b from hk];exact D5.1))
 out:=bh h.out hk (fun k A e=>D5.2 (by rw[A,show k=b from e]))
 same:=h.same
 RE:=h.RE
 lh:=bh h.lh hk (fun k A e=>h.off (t:=48) (by decide) hb (.inl (by rw[A,show k=b from e])))
 fst:=bh h.fst hk (fun k A e=>h.off (t:=48) (by decide) hb (.inr (by rw[A,show k=b from e])))
 sep:=h.sep
end
theorem J9 (w:World) (x:aC) (p:List UInt8):dP w ⟨jt x p,none,0⟩:=⟨cK.none_ w none,Qk _,Nat.zero_le _⟩
def BJ (w:World) (m:Nat) (ms:List aw) (e:Ending) (w':World):Prop:=∃q d ys,e=.returned (.slice q m d)∧ys.map MP.m=ms∧dD w' q m ys∧m≤d∧d≤maxLen∧Below w.heap.size w w'
theorem AW (p:Option Addr) (n c:Nat) (xs:List NP) (a1:Option Addr) (m d1:Nat) (os:List (List UInt8)) (w:World) (h:aV w p n xs) (hn:n≤maxLen) (ho:ji w a1 m os) (hm:m≤1000):
 Calls Tryz.prog 28 #[.slice p n c,.slice a1 m d1] w (BJ w m (dQ (xs.map NP.m) os)):=by
 have HM:=Qh h;have HO:=Qh ho;have Js:=Qh ho.1;have HN:=Qh hn;clear h ho hn
 go_enter Tryz.func28,Tryz.ntmps28
 go_wp2_with fail
 go_loopw [5,6,7,8,9,10,11,12] (fun o l f i _ _ _ _ wr=>∃(k:Nat) (F:TF) (ms:List aw) (ys:List MP) (vo v6 v7:Value),k≤m∧vo=o∧v6=l∧v7=f∧i=.int .i64 (k:Int)∧Hid (xO (xs.map NP.m) (os.take k)=⟨F,ms⟩)∧Hid (ms.length=k∧F.length≤k)∧Hid (Ei w wr F ms vo v6 v7 ys)) (fun _ _ _ i _ _ _ _ _=>m - (RowKit.intOf i).toNat)
 case atStart=>exact⟨0,[],[],[],_,_,_,Nat.zero_le _,rfl,rfl,rfl,rfl,Qh rfl,Qh ⟨rfl,Qk _⟩,Qh ⟨Below.refl _ _,World.ownsRow_nil _ _ _ _,rfl,fun y hy=>(by cases hy),World.ownsRow_nil _ _ _ _,World.ownsRow_nil _ _ _ _,fun k hk=>(by cases hk)⟩⟩
 case round=>
  obtain⟨k,F,ms,ys,o,v6,v7,hk,rfl,rfl,rfl,rfl,hS,G,D⟩:=hrel;obtain⟨wo,rfl⟩:∃x,x=wr:=⟨_,rfl⟩
  by_cases ao:k<m
  ·have j5:(k:Int)<(m:Int):=by omega
   obtain⟨bo,oo,rfl,YV,hco⟩:=(HO.out.below D.out.bel).2 (by omega);have hc:=hco k ao;obtain⟨pt,X⟩:∃pt,os.getD k []=pt:=⟨_,rfl⟩
   rw[X]at hc
   have Xe:Hid (xO (xs.map NP.m) (os.take (k+1))=pH (xs.map NP.m) ⟨F,ms⟩ pt):=Qh (by
    have eV:k<os.length:=by rw[Js.out];exact ao
    rw[List.take_succ_eq_append_getElem eV,yQ,hS.out,←X,List.getD,Qd eV]
    rfl)
   have hr:=rY p n c xs pt wo (HM.out.below D.out.bel) HN.out;unfold jN at hr;have Bb:=Qh hr;clear hr hco YV X;go_wp2_with fail;refine Bb.out.mono ?_;rintro e A ⟨u,rfl,hu,hui,bY⟩;have hub:=mA HM.out hui;have ig:u.m=nodeAt (xs.map NP.m) pt:=hu;have M:=Qh (And.intro ig hub);obtain⟨ob,hob⟩:∃ob,(ei (xs.map NP.m) pt).isSome=ob:=⟨_,rfl⟩
   rw[hob];have Ra:=Qh (D.out.below bY);clear hu hui hub ig hob bY Bb hc;unfold NP.cs gB;go_upto_region 8 with fail;obtain⟨w3,g⟩:∃w3,(A.alloc (.cells #[.string (str u.m.path),.string (str u.m.target),.string (str u.m.ag),.int .u8 (u.m.kind.toNat:Int),.int .i64 u.m.mode,.int .i64 u.m.uid,.int .i64 u.m.gid,.int .i64 u.m.time,.slice u.p u.m.body.length u.c] 52)).alloc (.cells #[.string (str u.m.path),.string (str u.m.target),.int .u8 (u.m.kind.toNat:Int),.int .i64 u.m.mode,.int .i64 u.m.uid,.int .i64 u.m.gid,.int .i64 u.m.time,.slice u.p u.m.body.length u.c] 48)=w3:=⟨_,rfl⟩
   have ZN:au w3 A.heap.size 52 #[.string (str u.m.path),.string (str u.m.target),.string (str u.m.ag),.int .u8 (u.m.kind.toNat:Int),.int .i64 u.m.mode,.int .i64 u.m.uid,.int .i64 u.m.gid,.int .i64 u.m.time,.slice u.p u.m.body.length u.c]:=by rw[←g];exact(au.new A _ _).alloc _
   have XC:au w3 (A.heap.size+1) 48 #[.string (str u.m.path),.string (str u.m.target),.int .u8 (u.m.kind.toNat:Int),.int .i64 u.m.mode,.int .i64 u.m.uid,.int .i64 u.m.gid,.int .i64 u.m.time,.slice u.p u.m.body.length u.c]:=by
    rw[←g,←World.size_alloc A (.cells #[.string (str u.m.path),.string (str u.m.target),.string (str u.m.ag),.int .u8 (u.m.kind.toNat:Int),.int .i64 u.m.mode,.int .i64 u.m.uid,.int .i64 u.m.gid,.int .i64 u.m.time,.slice u.p u.m.body.length u.c] 52)];exact au.new _ _ _
   have h23:Below A.heap.size A w3:=by rw[←g];exact((Below.refl _ _).alloc (Qk _) _).alloc (by rw[World.size_alloc];exact Nat.le_succ _) _
   rw[g];have mT:=Qh ZN;have B:=Qh XC;have ye:=Qh (Ra.out.below h23);have ac6:Hid (w.heap.size≤A.heap.size+1∧o.ownBlock≠some (A.heap.size+1)):=Qh ⟨Nat.le_succ_of_le Ra.out.bel.size,fun e=>by have:=(World.ownsRow.lt Ra.out.out _ e).2;omega⟩;have x3:=ZN.cell 3;simp only[Qc,Qa,Qb]at x3;have ek:=qz u.m.kind 48 48 rfl;obtain⟨kn,cu⟩:∃kn:Int,(u.m.kind.toNat:Int)=kn:=⟨_,rfl⟩
   rw[cu]at x3 ek;clear g ZN XC h23 Ra cu
   by_cases b:u.m.kind=48
   ·rw[decide_eq_true b]at ek
    have Tq:=Qh b
    have sx:Hid (pH (xs.map NP.m) ⟨F,ms⟩ pt=match F.find? (fun e=>e.1==u.m.ag)with|some e=>⟨F,ms++[jt u.m e.2]⟩|none=>⟨F++[(u.m.ag,u.m.path)],ms++[u.m.mem]⟩):=Qh (by
     unfold pH
     dsimp only
     rw[←M.out.1,if_pos Tq.out]
     all_goals (cases F.find? (fun e=>e.1==u.m.ag)<;>rfl))
    clear b;go_wp2_with fail;clear x3 ek
    go_loopw [12] (fun j wz=>∃(a:Nat),a≤F.length∧j=.int .i64 (a:Int)∧Hid (∀i,i<a→(F.getD i ([],[])).1≠u.m.ag)∧Hid (Below w3.heap.size w3 wz)) (fun j _=>F.length - (RowKit.intOf j).toNat)
    case atStart=>exact⟨0,Nat.zero_le _,rfl,Qh (fun i h=>absurd h (by omega)),Qh (Below.refl _ _)⟩
    case round=>
     obtain⟨a,ha,rfl,hN,hB⟩:=hrel;have H:=Qh (ye.out.below hB.out);have HXz:=Qh (mT.out.below hB.out mT.out.lt);have I:=Qh (B.out.below hB.out B.out.lt);have J:(F.map (·.1)).length=F.length:=Qi ..;have R7:=H.out.lh;rw[←J]at R7;obtain⟨q6,c6,hv6,U,h62,MK⟩:=xi R7;rw[J]at hv6 U MK;subst hv6;have x2:=HXz.out.cell 2;simp only[Qc,Qa,Qb]at x2;have NZ:F.length≤1000:=by have:=G.out.2;omega
     by_cases Io:a<F.length
     ·obtain⟨b6,o6,rfl,qn,hc6⟩:=MK.2 (by omega)
      have d0:=hc6 a (by omega);rw[Vg]at d0;have e1:=ah9 (F.getD a ([],[])).1 u.m.ag;obtain⟨fl,Co⟩:∃fl,(F.getD a ([],[])).1=fl:=⟨_,rfl⟩
      have ME:=Qh Co;rw[Co]at d0 e1;have ae5:(a:Int)<(F.length:Int):=by omega
      clear hc6 Co U h62 J MK qn R7
      by_cases Z:fl=u.m.ag
      ·rw[decide_eq_true Z]at e1
       have Hh:Hid (F.find? (fun e=>e.1==u.m.ag)=some (F.getD a ([],[]))):=Qh (NR Io (by rw[ME.out];exact Z) hN.out);clear Z;go_upto_region 10 with fail
       go_quiet (fail)
       have Iz:(F.map (·.2)).length=F.length:=Qi ..;have VI:=H.out.fst;rw[←Iz]at VI;obtain⟨q7,c7,hv7,h71,h72,V⟩:=xi VI;rw[Iz]at hv7 h71 V;subst hv7;obtain⟨b7,o7,rfl,Bf,hc7⟩:=V.2 (by omega);have g0:=hc7 a (by omega);rw[Vh]at g0;obtain⟨ft,W⟩:∃ft,(F.getD a ([],[])).2=ft:=⟨_,rfl⟩
       rw[W]at g0;have HFT:=Qh W;have cX:b7≠A.heap.size+1:=fun e=>H.out.off (t:=48) (by decide) I.out (.inr (by rw[←e];rfl))
       have f1:=I.out.frozen 1;have f2:=I.out.frozen 2;have f7:=I.out.frozen 7;have m1:=I.out.cell 1;have m2:=I.out.cell 2;have m7:=I.out.cell 7;simp only[Qc,Qa,Qb]at m1 m2 m7;clear hc7 W h71 h72 Iz V Bf VI d0 e1 x2;go_upto_region 13 with fail
       go_region
       go_upto_region 15 with fail
       obtain⟨wq,gZ⟩:∃wq,World.drewN wr (nq+1)=wq:=⟨_,rfl⟩
       obtain⟨wT,L⟩:∃wT,((wq.setCell ⟨A.heap.size+1,2,none⟩ (.int .u8 49)).setCell ⟨A.heap.size+1,1,none⟩ (.string (str ft))).setCell ⟨A.heap.size+1,7,none⟩ (.slice none 0 0)=wT:=⟨_,rfl⟩
       have hmq:au wq (A.heap.size+1) 48 #[.string (str u.m.path),.string (str u.m.target),.int .u8 (u.m.kind.toNat:Int),.int .i64 u.m.mode,.int .i64 u.m.uid,.int .i64 u.m.gid,.int .i64 u.m.time,.slice u.p u.m.body.length u.c]:=by rw[←gZ];exact I.out.drewN _
       have N:Hid (au wT (A.heap.size+1) 48 #[.string (str u.m.path),.string (str ft),.int .u8 49,.int .i64 u.m.mode,.int .i64 u.m.uid,.int .i64 u.m.gid,.int .i64 u.m.time,.slice none 0 0]):=Qh (by
        rw[←L]
        exact((hmq.set 2 (.int .u8 49) (by decide:2<8)).set 1 (.string (str ft)) (by show 1<8;decide)).set 7 (.slice none 0 0) (by show 7<8;decide))
       have Tt:Hid (Kept (ay (A.heap.size+1)) wr wT):=Qh (by
        rw[←L,←gZ]
        exact(((((Kept.refl (ay (A.heap.size+1)) wr).drewN _).setCell (a:=⟨A.heap.size+1,2,none⟩) (.inr rfl) _).setCell (a:=⟨A.heap.size+1,1,none⟩) (.inr rfl) _).setCell (a:=⟨A.heap.size+1,7,none⟩) (.inr rfl) _))
       have T:=Qh (H.out.box I.out ac6.out Tt.out);rw[gZ,L];have r:Hid (xO (xs.map NP.m) (os.take (k+1))=⟨F,ms++[jt u.m ft]⟩):=Qh (by rw[Xe.out,sx.out,Hh.out,←HFT.out]);clear gZ L hmq f1 f2 f7 m1 m2 m7 g0 cX;have m0:=N.out.cell 0;have m1:=N.out.cell 1;have m2:=N.out.cell 2;have m3:=N.out.cell 3;have m4:=N.out.cell 4;have m5:=N.out.cell 5;have m6:=N.out.cell 6;have m7:=N.out.cell 7;simp only[Qc,Qa,Qb]at m0 m1 m2 m3 m4 m5 m6 m7
       have UX:Hid (ys.length=k):=Qh (by
        have h1:=congrArg List.length D.out.same;rw[Qi]at h1
        exact h1.trans G.out.1)
       go_wp2_with (at_builtin;refine kT rfl _ _ rfl w.heap.size o ys rfl (cA T.out.out ((Below.refl _ _).alloc (Qk _) _)) wT.heap.size 1 ⟨jt u.m ft,none,0⟩ rfl (au.new wT _ _) (by have:=UX.out;omega) (by have:=T.out.bel.size;first|omega|(simp;omega)) ?_)
       intro v9 w9 E R z;rw[show ys.length+1=(ys++[(⟨jt u.m ft,none,0⟩:MP)]).length by simp]at E;have gT:=Qh ((T.out.below ((Below.refl _ _).alloc (Qk _) _)).add (y:=⟨jt u.m ft,none,0⟩) (m:=jt u.m ft) rfl (J9 w u.m ft) E R);have pZ:Hid ((ms++[jt u.m ft]).length=k+1∧F.length≤k+1):=Qh ⟨by rw[Qf,G.out.1];rfl,(by have:=G.out.2;omega)⟩;clear E R z m0 m1 m2 m3 m4 m5 m6 m7;go_wp2;go_roundw
       case rel=>exact⟨k+1,F,_,_,_,_,_,by omega,rfl,rfl,rfl,by go_num,r,pZ,gT⟩
       case measure=>simp[RowKit.intOf];omega
      ·rw[decide_eq_false Z]at e1
       have HN2:Hid (∀i,i<a+1→(F.getD i ([],[])).1≠u.m.ag):=Qh (fun i hi=>by
        by_cases h1:i=a
        ·rw[h1,ME.out];exact Z
        ·exact hN.out i (by omega))
       clear Z;go_upto_region 10 with fail
       go_quiet (fail)
       go_wp2;go_roundw
       case rel=>exact⟨a+1,by omega,by go_num,HN2,Qh (below_drewN hB.out _)⟩
       case measure=>simp[RowKit.intOf];omega
     ·have Ch:a=F.length:=by omega
      have Hh:Hid (F.find? (fun e=>e.1==u.m.ag)=none):=Qh (Kt (fun i hi=>hN.out i (by omega)));have ae5:decide ((a:Int)<(F.length:Int))=false:=decide_eq_false (by omega);have ak5:¬((a:Int)<(F.length:Int)):=by omega
      clear U h62 MK R7 J;go_upto_region 10 with fail
      go_quiet (fail)
      clear x2;go_upto_region 14 with fail;have Ut:=Qh (below_drewN hB.out nq);have Y:=Qh (ye.out.below Ut.out);have ad5:=Qh (mT.out.below Ut.out mT.out.lt);have X0:=Qh (B.out.below Ut.out B.out.lt);refine wp_region_any (by kernel_rfl) (Hb (ops':=cC) (by kernel_rfl) ?_);refine F0 (w1:=wr.drewN nq) w.heap.size A.heap.size _ v7 (F.map (·.1)) (F.map (·.2)) u.m.ag u.m.path _ ?a1 ?a2 ?a3 ?a4 ad5.out rfl rfl (by rw[Qi];exact Y.out.lh) (by rw[Qi];exact Y.out.fst) Y.out.sep (by rw[Qi];exact NZ) (by rw[Qi];exact NZ) Y.out.bel.size ?_
      case a1=>exact Qk 83
      case a2=>rfl
      case a3=>rfl
      case a4=>rfl
      intro γ w5 fS Bl tP oY;obtain⟨u6,u7,gc,gd⟩:=γ;have rp:=Qh (Y.out.note (e:=(u.m.ag,u.m.path)) fS Bl tP oY);have O:=Qh (X0.out.bV fS (Y.out.off (t:=48) (by decide) X0.out));have r:Hid (xO (xs.map NP.m) (os.take (k+1))=⟨F++[(u.m.ag,u.m.path)],ms++[u.m.mem]⟩):=Qh (by rw[Xe.out,sx.out,Hh.out]);clear fS Bl tP oY;simp only[Act.put,List.setIfInBounds_toArray,List.set_cons_zero,List.set_cons_succ];have m0:=O.out.cell 0;have m1:=O.out.cell 1;have m2:=O.out.cell 2;have m3:=O.out.cell 3;have m4:=O.out.cell 4;have m5:=O.out.cell 5;have m6:=O.out.cell 6;have m7:=O.out.cell 7;simp only[Qc,Qa,Qb]at m0 m1 m2 m3 m4 m5 m6 m7
      have UX:Hid (ys.length=k):=Qh (by
       have h1:=congrArg List.length D.out.same;rw[Qi]at h1
       exact h1.trans G.out.1)
      go_wp2_with (at_builtin;refine kT rfl _ _ rfl w.heap.size o ys rfl (cA rp.out.out ((Below.refl _ _).alloc (Qk _) _)) w5.heap.size 1 ⟨u.m.mem,u.p,u.c⟩ rfl (au.new w5 _ _) (by have:=UX.out;omega) (by have:=rp.out.bel.size;first|omega|(simp;omega)) ?_)
      intro v9 w9 E R z;rw[show ys.length+1=(ys++[(⟨u.m.mem,u.p,u.c⟩:MP)]).length by simp]at E;have gT:=Qh ((rp.out.below ((Below.refl _ _).alloc (Qk _) _)).add (y:=⟨u.m.mem,u.p,u.c⟩) (m:=u.m.mem) rfl ⟨M.out.2.gC,M.out.2.le,M.out.2.mx⟩ E R);have pZ:Hid ((ms++[u.m.mem]).length=k+1∧(F++[(u.m.ag,u.m.path)]).length≤k+1):=Qh ⟨by rw[Qf,G.out.1];rfl,(by rw[Qf];have:=G.out.2;simp only[List.length_cons,List.length_nil];omega)⟩;clear E R z m0 m1 m2 m3 m4 m5 m6 m7;go_wp2;go_roundw
      case rel=>exact⟨k+1,(F++[(u.m.ag,u.m.path)]),_,_,_,_,_,by omega,rfl,rfl,rfl,by go_num,r,pZ,gT⟩
      case measure=>simp[RowKit.intOf];omega
   ·rw[decide_eq_false b]at ek
    have r:Hid (xO (xs.map NP.m) (os.take (k+1))=⟨F,ms++[u.m.mem]⟩):=Qh (by
     rw[Xe.out];unfold pH
     dsimp only
     rw[←M.out.1,if_neg b])
    clear b;have m0:=B.out.cell 0;have m1:=B.out.cell 1;have m2:=B.out.cell 2;have m3:=B.out.cell 3;have m4:=B.out.cell 4;have m5:=B.out.cell 5;have m6:=B.out.cell 6;have m7:=B.out.cell 7;simp only[Qc,Qa,Qb]at m0 m1 m2 m3 m4 m5 m6 m7
    have UX:Hid (ys.length=k):=Qh (by
     have h1:=congrArg List.length D.out.same;rw[Qi]at h1
     exact h1.trans G.out.1)
    go_wp2_with (at_builtin;refine kT rfl _ _ rfl w.heap.size o ys rfl (cA ye.out.out ((Below.refl _ _).alloc (Qk _) _)) w3.heap.size 1 ⟨u.m.mem,u.p,u.c⟩ rfl (au.new w3 _ _) (by have:=UX.out;omega) (by have:=ye.out.bel.size;first|omega|(simp;omega)) ?_)
    intro v9 w9 E R z;rw[show ys.length+1=(ys++[(⟨u.m.mem,u.p,u.c⟩:MP)]).length by simp]at E;have gT:=Qh ((ye.out.below ((Below.refl _ _).alloc (Qk _) _)).add (y:=⟨u.m.mem,u.p,u.c⟩) (m:=u.m.mem) rfl ⟨M.out.2.gC,M.out.2.le,M.out.2.mx⟩ E R);have pZ:Hid ((ms++[u.m.mem]).length=k+1∧F.length≤k+1):=Qh ⟨by rw[Qf,G.out.1];rfl,(by have:=G.out.2;omega)⟩;clear E R z m0 m1 m2 m3 m4 m5 m6 m7;go_wp2;go_roundw
    case rel=>exact⟨k+1,F,_,_,_,_,_,by omega,rfl,rfl,rfl,by go_num,r,pZ,gT⟩
    case measure=>simp[RowKit.intOf];omega
  ·have lP:¬((k:Int)<(m:Int)):=by omega
   have e:os.take k=os:=List.take_of_length_le (by rw[Js.out];omega);have hs:=hS.out;rw[e]at hs;have HE:Hid (dQ (xs.map NP.m) os=ms):=Qh (by unfold dQ;rw[hs])
   have XI:ys.length=m:=by
    have h1:=congrArg List.length D.out.same;rw[Qi]at h1;have:=G.out.1;omega
   obtain⟨q,d,rfl,Fu,Fv,Ae⟩:=ja D.out.out (fun y hy=>(D.out.RE y hy).below D.out.bel);rw[XI]at Fu Ae⊢;have Jt:=Qh (And.intro Ae (And.intro Fu Fv));clear e hs XI Fu Fv Ae;go_wp2;go_ret;exact⟨q,d,ys,rfl,by rw[HE.out];exact D.out.same,Jt.out.1,Jt.out.2.1,Jt.out.2.2,D.out.bel⟩
end p8
namespace Ea
open Go.ChangeShapes Go.WideShapes Go.ChangeAt Go.RowKit Base cf cN Bk Block Tre p8 Go.Lib
theorem Mc (p:Option Addr) (n c:Nat) (xs:List NP) (w:World) (h:aV w p n xs) (hn:n≤100) (hg:cG (xs.map NP.m)=true):
 Calls Tryz.prog 14 #[.slice p n c] w fun e w'=>∃v,e=.returned v∧cR w' w.heap.size v (jw (xs.map NP.m)).length (jw (xs.map NP.m))∧Below w.heap.size w w':=by
 have V:=Qh h;have d:=Qh h.1;have U:=Qh hg;have D:=Qh (GN p n c xs w h (by omega));unfold Hu at D;clear h hg
 go_enter Tryz.func14,Tryz.ntmps14
 go_wp2_with fail
 refine D.out.mono ?_;rintro e Z ⟨X,d1,f,rfl,rfl,T,_,_,O,_,G⟩;have hm:=AW p n c xs X n d1 (eY xs) Z (V.out.below G) (by unfold maxLen;omega) O (by omega);unfold BJ at hm;have J:=Qh hm;have N:=Qh G;clear T O G hm D;go_wp2_with fail;refine J.out.mono ?_;rintro e b ⟨Y,d2,ys,rfl,I,L,_,_,M⟩
 have A:ys.map MP.m=fg (xs.map NP.m):=by
  rw[I];unfold fg jm eY;rw[List.map_map];rfl
 have B:=LU b Y n d2 ys L (fun x W=>ga (fT U.out x.m (by rw[←A];exact List.mem_map_of_mem W))) hn;rw[A]at B;unfold lR at B;have H:=Qh B;have E:=Qh (N.out.trans (M.mono N.out.size));clear I L M A B J;go_wp2_with fail;refine H.out.mono ?_;rintro e w3 ⟨v,rfl,R,hk⟩;have F:=Qh (And.intro (R.mono E.out.size) (E.out.trans ((hk.below (Qk _) (fun _ h=>h.elim)).mono E.out.size)));clear R hk H;go_wp2;go_ret;exact⟨v,rfl,F.out.1,F.out.2⟩
end Ea
end Go.Proofs.YtdhibldkldlfpaaGreatDoor
