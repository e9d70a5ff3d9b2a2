/- Merged. -/
import Derived.Test.YtdhibldkldlfpaaGreatDoorEmitLeastX36
import Derived.Laws.Cover1
namespace Go.Proofs.YtdhibldkldlfpaaGreatDoor
set_option linter.unusedVariables false
set_option maxHeartbeats 20000000
set_option maxRecDepth 100000
namespace Tre
open Go.ChangeShapes Go.WideShapes Go.ChangeAt Go.RowKit Base bJ cn Bk Mem Go.Lib
attribute [local irreducible] wpQuiet
def OK (x:NP):Prop:=x.m.path.length≤140737488351232∧x.m.target.length≤140737488351232
theorem geB (a b:List UInt8):(!(Op.bytesLess (str a).toList (str b).toList))=!dI a b:=by
 rw[ay,ay];rfl
theorem rN (a b c d a' b' c' d':Int) (w:World):(binOp .neq 46 (.agg #[.int .i64 a,.int .i64 b,.int .i64 c,.int .i64 d]) (.agg #[.int .i64 a',.int .i64 b',.int .i64 c',.int .i64 d'])).run Tryz.prog w=.ok (.bool (!decide (a=a'∧b=b'∧c=c'∧d=d'))) w:=by
 rw[run_neq_struct,show(10000:Nat)=9998+1+1 from rfl,qo];rfl
theorem DF (p:Option Addr) (n c:Nat) (xs:List NP) (w:World) (h:aY w p n xs) (hc:n≤c) (hm:c≤maxLen) (hF:∀x∈xs,OK x):
 Calls Tryz.prog 12 #[.slice p n c] w fun e w'=>e=.returned (.bool (bD (xs.map NP.m)))∧Below w.heap.size w w':=by
 unfold maxLen at hm;have HM:=Qh h;have J:=Qh h.1;have HF:=Qh hF;obtain⟨r,hr⟩:∃r,bD (xs.map NP.m)=r:=⟨_,rfl⟩
 rw[hr];have M:=Qh hr;clear h hF hr
 go_enter Tryz.func12,Tryz.ntmps12
 go_wp2_with fail
 go_loopw [3,4,5,6,56] (fun i _ _ _ _ wr=>∃(k:Nat),k≤n∧i=.int .i64 (k:Int)∧Hid (∀j,j<k→eo (xs.map NP.m) j=true)∧Hid (Below w.heap.size w wr)) (fun i _ _ _ _ _=>n - (RowKit.intOf i).toNat)
 case atStart=>exact⟨0,Nat.zero_le _,rfl,Qh (fun j Z=>absurd Z (by omega)),Qh (Below.refl _ _)⟩
 case round=>
  obtain⟨k,hk,rfl,hG,hB⟩:=hrel
  by_cases N:k<n
  ·obtain⟨b1,o1,rfl,cf,b6,gR⟩:=(HM.out.below hB.out).dD N
   obtain⟨u,hu⟩:∃u,xs.getD k aG=u:=⟨_,rfl⟩
   rw[hu]at b6 gR;have Sa:OK u:=HF.out u (by rw[←hu];exact oB xs k (by rw[J.out];exact N));obtain⟨W,hW⟩:∃W,wr.alloc (.cells u.cs 52)=W:=⟨_,rfl⟩
   have I2:Below wr.heap.size wr W:=by rw[←hW];exact(Below.refl _ _).alloc (Qk _) _
   have hX:ao W wr.heap.size 52 u.cs:=by rw[←hW];exact ao.new wr _ _
   have g:=Qh (hB.out.trans (I2.mono hB.out.size));have yD:Hid (∀p:fW W,Calls Tryz.prog 24 #[.agg (cO u.m.mem u.p u.c)] p.w' fun e w'=>e=.returned (.bool (bC u.m.mem))∧Below p.w'.heap.size p.w' w'):=Qh (fun p=>Io u.m.mem u.p u.c p.w' Sa.1 Sa.2);have sX:ga W wr.heap.size 0 u:=pW (aU hX) hX.lt;have HX:=Qh hX;have b8:=Qh (b6.below I2);have Jm:=Qh (HM.out.below g.out);have H:Hid ((xs.map NP.m).getD k bT=u.m):=Qh (by rw[fI,hu]);have ek:=xP u.m.kind 49 49 rfl;have Tb:=kM u.m.kind 48 48 rfl;obtain⟨kn,bQ⟩:∃k:Int,(u.m.kind.toNat:Int)=k:=⟨_,rfl⟩
   unfold NP.cs fT at hW;unfold cO aw.mem at yD;unfold ga eP at sX;simp only[Nat.zero_add]at sX;obtain⟨c0,c1,c2,c3,c4,c5,c6,c7,c8⟩:=gR;rw[bQ]at hW yD sX c3 ek Tb;have fR:=Qh bQ;have kK:(k:Int)<(n:Int):=by omega
   obtain⟨q,hq⟩:∃q,bC ⟨u.m.path,u.m.target,u.m.kind,u.m.mode,u.m.uid,u.m.gid,u.m.time,u.m.body⟩=q:=⟨_,rfl⟩
   rw[hq]at yD;have HQ:Hid (bC u.m.mem=q):=Qh hq;obtain⟨x49,Q5⟩:∃x,decide (u.m.kind=49)=x:=⟨_,rfl⟩
   rw[Q5]at ek;have OA:=Qh Q5;clear hu b6 I2 hX hq Sa cf bQ Q5;go_upto_region 5 with fail;clear hW c0 c1 c2 c3 c4 c5 c6 c7 c8
   by_cases eA:k=0
   ·have Jn:Hid ((decide (k=0)||dI ((xs.map NP.m).getD (k - 1) bT).path u.m.path)=true):=Qh (by rw[decide_eq_true eA];rfl)
    have oD:decide ((0:Int)<(k:Int))=false:=decide_eq_false (by omega);have bQ:decide (0<k)=false:=decide_eq_false (by omega);clear eA
    cases x49 with
    |true=>
     have E:Hid (r=false):=Qh (by
      rw[←M.out];refine aD (k:=k) (by rw[Qi,J.out];exact N) ?_
      rw[aB,stepT,H.out,eJ,show decide (u.m.kind≠49)=false by rw[decide_eq_false_iff_not];exact fun h=>h (of_decide_eq_true OA.out)];rfl)
     refine aK (by kernel_rfl) (by kernel_rfl) ?_
     repeat (quiet_step (first
      |(go_at_call 24;exact Calls.cX (yD.out _))))
     refine wpQuiet_nil ?_;intro A X;have R:=cb X;clear X;have F:=Qh (g.out.trans (R.mono g.out.size));clear R sX;go_wp2;go_ret;exact⟨by rw[E.out];rfl,F.out⟩
    |false=>
     have Je:Hid (decide (u.m.kind≠49)=true):=Qh (decide_eq_true (of_decide_eq_false OA.out))
     cases q with
     |false=>
      have E:Hid (r=false):=Qh (by
       rw[←M.out];refine aD (k:=k) (by rw[Qi,J.out];exact N) ?_
       rw[aB,stepT,H.out,eJ,HQ.out,Je.out];rfl)
      refine aK (by kernel_rfl) (by kernel_rfl) ?_
      repeat (quiet_step (first
       |(go_at_call 24;exact Calls.cX (yD.out _))))
      refine wpQuiet_nil ?_;intro A X;have R:=cb X;clear X;have F:=Qh (g.out.trans (R.mono g.out.size));clear R sX;go_wp2;go_ret;exact⟨by rw[E.out];rfl,F.out⟩
     |true=>
      have sa:Hid (stepT (xs.map NP.m) k=true):=Qh (by rw[stepT,H.out,eJ,HQ.out,Je.out,Jn.out];rfl);refine aK (by kernel_rfl) (by kernel_rfl) ?_
      repeat (quiet_step (first
       |(go_at_call 24;exact Calls.cX (yD.out _))))
      refine wpQuiet_nil ?_;intro A X;have R:=cb X;clear X;clear oD bQ;have D:=Qh (g.out.trans (R.mono g.out.size));have Co:=HX.out.below R HX.out.lt;obtain⟨x0,x1,x2,x3,x4,x5,x6,x7,x8⟩:=aU Co;simp only[Nat.zero_add,fR.out]at x0 x1 x2 x3 x4 x5 x6 x7 x8;have fz:=Qh Co;have eI:=Qh (Jm.out.below R);have bI:=Qh (b8.out.below R);clear R Co sX
      by_cases b:u.m.kind=48
      ·rw[decide_eq_true b,Bool.not_true]at Tb
       have w1:IntKind.i64.wrap ((k:Int)+1)=(k:Int)+1:=by rw[IntKind.wrap_i64];omega
       have XT:(k:Int)+1≤(c:Int):=by omega
       have eA:(0:Int)≤(k:Int)+1:=by omega
       have Nz:((k:Int)+1).toNat=k+1:=by omega
       have PB:Hid (∀w',Below A.heap.size A w'→w'.cell? ⟨wr.heap.size,2,none⟩=some (.string (str u.m.af))):=Qh (fun w' h=>(h.cell (p:=⟨wr.heap.size,2,none⟩) fz.out.lt).trans x2);have G:Hid (Below A.heap.size A A.drew):=Qh (below_drewN (Below.refl A.heap.size A) 1);have d:Hid (∀o,Below A.heap.size A (A.alloc o).drew):=Qh (fun o=>below_drewN ((Below.refl A.heap.size A).alloc (Qk _) o) 1)
       have f:Hid (∀w',Below A.heap.size A w'→Calls Tryz.prog 25 #[.slice (some ⟨b1,o1,none⟩) (k+1) c,.string (str u.m.af)] w' (j3 w' (xs.take (k+1)) u.m.af)):=Qh (fun w' hb=>by
        have hm:=(eI.out.below hb).drop (show k+1≤n by omega);have:=wJ (some ⟨b1,o1,none⟩) (k+1) c (xs.take (k+1)) u.m.af w' hm (by unfold maxLen;omega)
        exact this)
       have Ji:Hid (iH ((xs.map NP.m).take (k+1)) u.m=CW (dE ((xs.map NP.m).take (k+1)) u.m.af) u.m):=Qh (by rw[iH,if_pos b]);unfold j3 at f;simp only[List.map_take]at f;obtain⟨fo,uC⟩:∃fo,dE ((xs.map NP.m).take (k+1)) u.m.af=fo:=⟨_,rfl⟩
       rw[uC]at f Ji;clear x0 x1 x4 x5 x6 x7 x8 b uC
       cases fo with
       |none=>
        have E:Hid (r=false):=Qh (by
         rw[←M.out];refine aD (k:=k) (by rw[Qi,J.out];exact N) ?_
         rw[aB,H.out,Ji.out,CW,Bool.and_false])
        go_wp2_with fail
        go_region_held_law (fun w'=>w'.cell? ⟨wr.heap.size,2,none⟩=some (.string (str u.m.af))) ((refine PB.out _ ?_;first|with_reducible exact G.out|with_reducible exact G.out.alloc G.out.size _|with_reducible exact d.out _|with_reducible exact dC G.out (Qk _) _ _ _ _ _ _ _ _ _)) (first
         |(go_at_call 25
           refine(f.out _ ?_).mono ?_
           (with_reducible exact G.out)
           rintro e V ⟨y,he,hy,U,O⟩;unfold NP.cs fT at he;subst he;have Jr:Hid (cT A y):=Qh (l9 (eI.out.drop (show k+1≤n by omega)) U);have Js:=Qh hy;have G:=Qh (G.out.trans (O.mono G.out.size))
           clear O U hy)
         |(go_at_call 25
           refine(f.out _ ?_).mono ?_
           (with_reducible exact d.out _)
           rintro e V ⟨y,he,hy,U,O⟩;unfold NP.cs fT at he;subst he;have Jr:Hid (cT A y):=Qh (l9 (eI.out.drop (show k+1≤n by omega)) U);have Js:=Qh hy;have B:ao V A.heap.size 52 aG.cs:=(ao.new A _ aG.cs).drew.below O (by simp);have MB:=Qh B;have G:=Qh ((d.out _).trans (O.mono (d.out _).size));obtain⟨r0,r1,r2,r3,r4,r5,r6,r7,r8⟩:=aU B;simp only[Nat.zero_add]at r0 r1 r2 r3 r4 r5 r6 r7 r8;have f0:=B.frozen 0;have f1:=B.frozen 1;have f2:=B.frozen 2;have f3:=B.frozen 3;have f4:=B.frozen 4;have f5:=B.frozen 5;have f6:=B.frozen 6;have f7:=B.frozen 7;have f8:=B.frozen 8
           clear B O U hy))
        all_goals
         first
         |(have I:=Qh (dC G.out (Qk _) (.string (str y.m.path)) (.string (str y.m.target)) (.string (str y.m.af)) (.int .u8 (y.m.kind.toNat:Int)) (.int .i64 y.m.mode) (.int .i64 y.m.uid) (.int .i64 y.m.gid) (.int .i64 y.m.time) (.slice y.p y.m.body.length y.c))
           clear MB;go_wp2;go_ret
           exact⟨by rw[E.out];rfl,D.out.trans (I.out.mono D.out.size)⟩)
         |(have I:Hid (Below A.heap.size A (V.alloc (.cells #[.string (str y.m.path),.string (str y.m.target),.string (str y.m.af),.int .u8 (y.m.kind.toNat:Int),.int .i64 y.m.mode,.int .i64 y.m.uid,.int .i64 y.m.gid,.int .i64 y.m.time,.slice y.p y.m.body.length y.c] 52))):=Qh (G.out.alloc G.out.size _)
           go_wp2;go_ret
           exact⟨by rw[E.out];rfl,D.out.trans (I.out.mono D.out.size)⟩)
       |some z=>
        go_wp2_with fail
        go_region_held_law (fun w'=>w'.cell? ⟨wr.heap.size,2,none⟩=some (.string (str u.m.af))) ((refine PB.out _ ?_;first|with_reducible exact G.out|with_reducible exact G.out.alloc G.out.size _|with_reducible exact d.out _|with_reducible exact dC G.out (Qk _) _ _ _ _ _ _ _ _ _)) (first
         |(go_at_call 25
           refine(f.out _ ?_).mono ?_
           (with_reducible exact G.out)
           rintro e V ⟨y,he,hy,U,O⟩;unfold NP.cs fT at he;subst he;have Jr:Hid (cT A y):=Qh (l9 (eI.out.drop (show k+1≤n by omega)) U);have Js:=Qh hy;have G:=Qh (G.out.trans (O.mono G.out.size))
           clear O U hy)
         |(go_at_call 25
           refine(f.out _ ?_).mono ?_
           (with_reducible exact d.out _)
           rintro e V ⟨y,he,hy,U,O⟩;unfold NP.cs fT at he;subst he;have Jr:Hid (cT A y):=Qh (l9 (eI.out.drop (show k+1≤n by omega)) U);have Js:=Qh hy;have B:ao V A.heap.size 52 aG.cs:=(ao.new A _ aG.cs).drew.below O (by simp);have MB:=Qh B;have G:=Qh ((d.out _).trans (O.mono (d.out _).size));obtain⟨r0,r1,r2,r3,r4,r5,r6,r7,r8⟩:=aU B;simp only[Nat.zero_add]at r0 r1 r2 r3 r4 r5 r6 r7 r8;have f0:=B.frozen 0;have f1:=B.frozen 1;have f2:=B.frozen 2;have f3:=B.frozen 3;have f4:=B.frozen 4;have f5:=B.frozen 5;have f6:=B.frozen 6;have f7:=B.frozen 7;have f8:=B.frozen 8
           clear B O U hy))
        all_goals
         first
         |(have MB2:=MB
           clear r0 r1 r2 r3 r4 r5 r6 r7 r8 f0 f1 f2 f3 f4 f5 f6 f7 f8;obtain⟨Wz,Y⟩:∃Wz,(((((((((V.setCell ⟨A.heap.size,0,none⟩ (.string (str y.m.path))).setCell ⟨A.heap.size,1,none⟩ (.string (str y.m.target))).setCell ⟨A.heap.size,2,none⟩ (.string (str y.m.af))).setCell ⟨A.heap.size,3,none⟩ (.int .u8 (y.m.kind.toNat:Int))).setCell ⟨A.heap.size,4,none⟩ (.int .i64 y.m.mode)).setCell ⟨A.heap.size,5,none⟩ (.int .i64 y.m.uid)).setCell ⟨A.heap.size,6,none⟩ (.int .i64 y.m.gid)).setCell ⟨A.heap.size,7,none⟩ (.int .i64 y.m.time)).setCell ⟨A.heap.size,8,none⟩ (.slice y.p y.m.body.length y.c))=Wz:=⟨_,rfl⟩
           have hZ:ao Wz A.heap.size 52 y.cs:=by rw[←Y];exact lG MB.out (.string (str y.m.path)) (.string (str y.m.target)) (.string (str y.m.af)) (.int .u8 (y.m.kind.toNat:Int)) (.int .i64 y.m.mode) (.int .i64 y.m.uid) (.int .i64 y.m.gid) (.int .i64 y.m.time) (.slice y.p y.m.body.length y.c)
           have T:Below A.heap.size A Wz:=by rw[←Y];exact dC G.out (Qk _) (.string (str y.m.path)) (.string (str y.m.target)) (.string (str y.m.af)) (.int .u8 (y.m.kind.toNat:Int)) (.int .i64 y.m.mode) (.int .i64 y.m.uid) (.int .i64 y.m.gid) (.int .i64 y.m.time) (.slice y.p y.m.body.length y.c)
           rw[Y];clear Y;have I:=Qh T;obtain⟨y0,y1,y2,y3,y4,y5,y6,y7,y8⟩:=aU hZ;obtain⟨x0,x1,x2,x3,x4,x5,x6,x7,x8⟩:=aU (fz.out.below T fz.out.lt);simp only[Nat.zero_add,fR.out]at y0 y1 y2 y3 y4 y5 y6 y7 y8 x0 x1 x2 x3 x4 x5 x6 x7 x8;have v1:(convert 26 9 (.slice y.p y.m.body.length y.c)).run Tryz.prog Wz=.ok (.string (str y.m.body)) Wz:=cD (Jr.out.below T).gZ rfl _ _ _ Tryz.underlying26 Tryz.underlying5 Tryz.underlying9 _;have v2:(convert 26 9 (.slice u.p u.m.body.length u.c)).run Tryz.prog Wz=.ok (.string (str u.m.body)) Wz:=cD (bI.out.below T).gZ rfl _ _ _ Tryz.underlying26 Tryz.underlying5 Tryz.underlying9 _;have Eo:=kM y.m.kind 48 48 rfl;obtain⟨ky,EG⟩:∃k:Int,(y.m.kind.toNat:Int)=k:=⟨_,rfl⟩
           rw[EG]at Eo y3;have e2:=iJ y.m.af y.m.path;have e4:=fun w=>rN y.m.mode y.m.uid y.m.gid y.m.time u.m.mode u.m.uid u.m.gid u.m.time w
           have e5:=iJ y.m.body u.m.body
           have L:Hid (iH ((xs.map NP.m).take (k+1)) u.m=(decide (y.m.kind=48)&&(decide (y.m.af=y.m.path)&&(decide (y.m.mode=u.m.mode∧y.m.uid=u.m.uid∧y.m.gid=u.m.gid∧y.m.time=u.m.time)&&decide (y.m.body=u.m.body))))):=Qh (by
            have B:z=y.m:=Js.out.symm
            rw[Ji.out,B];rfl)
           obtain⟨q1,t⟩:∃q,decide (y.m.kind=48)=q:=⟨_,rfl⟩
           obtain⟨q2,l⟩:∃q,decide (y.m.af=y.m.path)=q:=⟨_,rfl⟩
           obtain⟨q3,xI⟩:∃q,decide (y.m.mode=u.m.mode∧y.m.uid=u.m.uid∧y.m.gid=u.m.gid∧y.m.time=u.m.time)=q:=⟨_,rfl⟩
           obtain⟨q4,xJ⟩:∃q,decide (y.m.body=u.m.body)=q:=⟨_,rfl⟩
           rw[t]at Eo;rw[l]at e2;simp only[xI]at e4;rw[xJ]at e5;rw[t,l,xI,xJ]at L;clear t l xI xJ hZ T EG
           cases q1 with
           |false=>
            have E:Hid (r=false):=Qh (by
             rw[←M.out];refine aD (k:=k) (by rw[Qi,J.out];exact N) ?_
             rw[aB,H.out,L.out];simp)
            go_wp2;go_ret;exact⟨by rw[E.out];rfl,D.out.trans (I.out.mono D.out.size)⟩
           |true=>
            cases q2 with
            |false=>
             have E:Hid (r=false):=Qh (by
              rw[←M.out];refine aD (k:=k) (by rw[Qi,J.out];exact N) ?_
              rw[aB,H.out,L.out];simp)
             go_wp2;go_ret;exact⟨by rw[E.out];rfl,D.out.trans (I.out.mono D.out.size)⟩
            |true=>
             cases q3 with
             |false=>
              have E:Hid (r=false):=Qh (by
               rw[←M.out];refine aD (k:=k) (by rw[Qi,J.out];exact N) ?_
               rw[aB,H.out,L.out];simp)
              go_wp2;go_ret;exact⟨by rw[E.out];rfl,D.out.trans (I.out.mono D.out.size)⟩
             |true=>
              cases q4 with
              |false=>
               have E:Hid (r=false):=Qh (by
                rw[←M.out];refine aD (k:=k) (by rw[Qi,J.out];exact N) ?_
                rw[aB,H.out,L.out];simp)
               go_wp2;go_ret;exact⟨by rw[E.out];rfl,D.out.trans (I.out.mono D.out.size)⟩
              |true=>
               have nX:Hid (∀j,j<k+1→eo (xs.map NP.m) j=true):=Qh (fun j Z=>by
                rcases Nat.lt_succ_iff_lt_or_eq.1 Z with h|rfl
                ·exact hG.out j h
                ·rw[aB,sa.out,H.out,L.out];rfl)
               have PD:=Qh (D.out.trans (I.out.mono D.out.size));go_wp2;go_roundw
               case rel=>exact⟨k+1,by omega,by go_num,nX,PD⟩
               case measure=>simp[RowKit.intOf];omega)
         |(obtain⟨Wz,Y⟩:∃Wz,V.alloc (.cells #[.string (str y.m.path),.string (str y.m.target),.string (str y.m.af),.int .u8 (y.m.kind.toNat:Int),.int .i64 y.m.mode,.int .i64 y.m.uid,.int .i64 y.m.gid,.int .i64 y.m.time,.slice y.p y.m.body.length y.c] 52)=Wz:=⟨_,rfl⟩
           have hZ:ao Wz V.heap.size 52 y.cs:=by rw[←Y];exact ao.new V _ _
           have T:Below A.heap.size A Wz:=by rw[←Y];exact G.out.alloc G.out.size _
           rw[Y];clear Y;have I:=Qh T;obtain⟨y0,y1,y2,y3,y4,y5,y6,y7,y8⟩:=aU hZ;obtain⟨x0,x1,x2,x3,x4,x5,x6,x7,x8⟩:=aU (fz.out.below T fz.out.lt);simp only[Nat.zero_add,fR.out]at y0 y1 y2 y3 y4 y5 y6 y7 y8 x0 x1 x2 x3 x4 x5 x6 x7 x8;have v1:(convert 26 9 (.slice y.p y.m.body.length y.c)).run Tryz.prog Wz=.ok (.string (str y.m.body)) Wz:=cD (Jr.out.below T).gZ rfl _ _ _ Tryz.underlying26 Tryz.underlying5 Tryz.underlying9 _;have v2:(convert 26 9 (.slice u.p u.m.body.length u.c)).run Tryz.prog Wz=.ok (.string (str u.m.body)) Wz:=cD (bI.out.below T).gZ rfl _ _ _ Tryz.underlying26 Tryz.underlying5 Tryz.underlying9 _;have Eo:=kM y.m.kind 48 48 rfl;obtain⟨ky,EG⟩:∃k:Int,(y.m.kind.toNat:Int)=k:=⟨_,rfl⟩
           rw[EG]at Eo y3;have e2:=iJ y.m.af y.m.path;have e4:=fun w=>rN y.m.mode y.m.uid y.m.gid y.m.time u.m.mode u.m.uid u.m.gid u.m.time w
           have e5:=iJ y.m.body u.m.body
           have L:Hid (iH ((xs.map NP.m).take (k+1)) u.m=(decide (y.m.kind=48)&&(decide (y.m.af=y.m.path)&&(decide (y.m.mode=u.m.mode∧y.m.uid=u.m.uid∧y.m.gid=u.m.gid∧y.m.time=u.m.time)&&decide (y.m.body=u.m.body))))):=Qh (by
            have B:z=y.m:=Js.out.symm
            rw[Ji.out,B];rfl)
           obtain⟨q1,t⟩:∃q,decide (y.m.kind=48)=q:=⟨_,rfl⟩
           obtain⟨q2,l⟩:∃q,decide (y.m.af=y.m.path)=q:=⟨_,rfl⟩
           obtain⟨q3,xI⟩:∃q,decide (y.m.mode=u.m.mode∧y.m.uid=u.m.uid∧y.m.gid=u.m.gid∧y.m.time=u.m.time)=q:=⟨_,rfl⟩
           obtain⟨q4,xJ⟩:∃q,decide (y.m.body=u.m.body)=q:=⟨_,rfl⟩
           rw[t]at Eo;rw[l]at e2;simp only[xI]at e4;rw[xJ]at e5;rw[t,l,xI,xJ]at L;clear t l xI xJ hZ T EG
           cases q1 with
           |false=>
            have E:Hid (r=false):=Qh (by
             rw[←M.out];refine aD (k:=k) (by rw[Qi,J.out];exact N) ?_
             rw[aB,H.out,L.out];simp)
            go_wp2;go_ret;exact⟨by rw[E.out];rfl,D.out.trans (I.out.mono D.out.size)⟩
           |true=>
            cases q2 with
            |false=>
             have E:Hid (r=false):=Qh (by
              rw[←M.out];refine aD (k:=k) (by rw[Qi,J.out];exact N) ?_
              rw[aB,H.out,L.out];simp)
             go_wp2;go_ret;exact⟨by rw[E.out];rfl,D.out.trans (I.out.mono D.out.size)⟩
            |true=>
             cases q3 with
             |false=>
              have E:Hid (r=false):=Qh (by
               rw[←M.out];refine aD (k:=k) (by rw[Qi,J.out];exact N) ?_
               rw[aB,H.out,L.out];simp)
              go_wp2;go_ret;exact⟨by rw[E.out];rfl,D.out.trans (I.out.mono D.out.size)⟩
             |true=>
              cases q4 with
              |false=>
               have E:Hid (r=false):=Qh (by
                rw[←M.out];refine aD (k:=k) (by rw[Qi,J.out];exact N) ?_
                rw[aB,H.out,L.out];simp)
               go_wp2;go_ret;exact⟨by rw[E.out];rfl,D.out.trans (I.out.mono D.out.size)⟩
              |true=>
               have nX:Hid (∀j,j<k+1→eo (xs.map NP.m) j=true):=Qh (fun j Z=>by
                rcases Nat.lt_succ_iff_lt_or_eq.1 Z with h|rfl
                ·exact hG.out j h
                ·rw[aB,sa.out,H.out,L.out];rfl)
               have PD:=Qh (D.out.trans (I.out.mono D.out.size));go_wp2;go_roundw
               case rel=>exact⟨k+1,by omega,by go_num,nX,PD⟩
               case measure=>simp[RowKit.intOf];omega)
      ·rw[decide_eq_false b,Bool.not_false]at Tb
       have e2:=aV u.m.af
       by_cases hle:u.m.af=[]
       ·rw[decide_eq_true hle]at e2
        have nX:Hid (∀j,j<k+1→eo (xs.map NP.m) j=true):=Qh (fun j Z=>by
         rcases Nat.lt_succ_iff_lt_or_eq.1 Z with h|rfl
         ·exact hG.out j h
         ·rw[aB,sa.out,H.out,iH,if_neg b,decide_eq_true hle];rfl)
        clear b hle;go_wp2;go_roundw
        case rel=>exact⟨k+1,by omega,by go_num,nX,D⟩
        case measure=>simp[RowKit.intOf];omega
       ·rw[decide_eq_false hle]at e2
        have E:Hid (r=false):=Qh (by
         rw[←M.out];refine aD (k:=k) (by rw[Qi,J.out];exact N) ?_
         rw[aB,sa.out,H.out,iH,if_neg b,decide_eq_false hle];rfl)
        clear b hle;go_wp2;go_ret;exact⟨by rw[E.out];rfl,D.out⟩
   ·have dR:k - 1<n:=by omega
    obtain⟨b2,o2,zA,bZ,ej,kr⟩:=Jm.out.dD dR;simp only[Option.some.injEq,Addr.mk.injEq,and_true]at zA;obtain⟨rfl,rfl⟩:=zA;obtain⟨v,hv⟩:∃v,xs.getD (k - 1) aG=v:=⟨_,rfl⟩
    rw[hv]at kr;have RL:Hid ((xs.map NP.m).getD (k - 1) bT=v.m):=Qh (by rw[fI,hv]);have sV:ga W b1 (o1+(k - 1)*9) v:=pW kr bZ;unfold ga eP at sV;have ge:=geB v.m.path u.m.path;have Zl:Op.bytesLess (str v.m.path).toList (str u.m.path).toList=dI v.m.path u.m.path:=by rw[ay,ay];rfl
    obtain⟨lt,Cw⟩:∃x,dI v.m.path u.m.path=x:=⟨_,rfl⟩
    rw[Cw]at ge Zl;have Be:=Qh Cw;have oD:(0:Int)<(k:Int):=by omega
    have bQ:0<k:=by omega
    have TW:(1:Int)≤(k:Int):=by omega
    have wk:IntKind.i64.wrap ((k:Int) - 1)=(k:Int) - 1:=by rw[IntKind.wrap_i64];omega
    have wk0:(0:Int)≤(k:Int) - 1:=by omega
    have wk2:(k:Int) - 1<(n:Int):=by omega
    have wk3:((k:Int) - 1).toNat=k - 1:=by omega
    clear hv kr ej bZ Cw
    cases lt with
    |false=>
     have E:Hid (r=false):=Qh (by
      rw[←M.out];refine aD (k:=k) (by rw[Qi,J.out];exact N) ?_;rw[aB,stepT,H.out,RL.out,Be.out,decide_eq_false eA,Bool.or_false,Bool.and_false]
      rfl)
     refine aK (by kernel_rfl) (by kernel_rfl) ?_
     repeat (quiet_step (first
      |(go_at_call 24;exact Calls.cX (yD.out _))))
     refine wpQuiet_nil ?_;intro A X;have R:=cb X;clear X;have F:=Qh (g.out.trans (R.mono g.out.size));clear R sX sV;go_wp2;go_ret;exact⟨by rw[E.out];rfl,F.out⟩
    |true=>
     have Jn:Hid ((decide (k=0)||dI ((xs.map NP.m).getD (k - 1) bT).path u.m.path)=true):=Qh (by rw[RL.out,Be.out,Bool.or_true]);clear eA
     cases x49 with
     |true=>
      have E:Hid (r=false):=Qh (by
       rw[←M.out];refine aD (k:=k) (by rw[Qi,J.out];exact N) ?_
       rw[aB,stepT,H.out,eJ,show decide (u.m.kind≠49)=false by rw[decide_eq_false_iff_not];exact fun h=>h (of_decide_eq_true OA.out)];rfl)
      refine aK (by kernel_rfl) (by kernel_rfl) ?_
      repeat (quiet_step (first
       |(go_at_call 24;exact Calls.cX (yD.out _))))
      refine wpQuiet_nil ?_;intro A X;have R:=cb X;clear X;have F:=Qh (g.out.trans (R.mono g.out.size));clear R sX;go_wp2;go_ret;exact⟨by rw[E.out];rfl,F.out⟩
     |false=>
      have Je:Hid (decide (u.m.kind≠49)=true):=Qh (decide_eq_true (of_decide_eq_false OA.out))
      cases q with
      |false=>
       have E:Hid (r=false):=Qh (by
        rw[←M.out];refine aD (k:=k) (by rw[Qi,J.out];exact N) ?_
        rw[aB,stepT,H.out,eJ,HQ.out,Je.out];rfl)
       refine aK (by kernel_rfl) (by kernel_rfl) ?_
       repeat (quiet_step (first
        |(go_at_call 24;exact Calls.cX (yD.out _))))
       refine wpQuiet_nil ?_;intro A X;have R:=cb X;clear X;have F:=Qh (g.out.trans (R.mono g.out.size));clear R sX;go_wp2;go_ret;exact⟨by rw[E.out];rfl,F.out⟩
      |true=>
       have sa:Hid (stepT (xs.map NP.m) k=true):=Qh (by rw[stepT,H.out,eJ,HQ.out,Je.out,Jn.out];rfl);refine aK (by kernel_rfl) (by kernel_rfl) ?_
       repeat (quiet_step (first
        |(go_at_call 24;exact Calls.cX (yD.out _))))
       refine wpQuiet_nil ?_;intro A X;have R:=cb X;clear X;clear sV oD bQ TW wk wk0 wk2 wk3 ge Zl;have D:=Qh (g.out.trans (R.mono g.out.size));have Co:=HX.out.below R HX.out.lt;obtain⟨x0,x1,x2,x3,x4,x5,x6,x7,x8⟩:=aU Co;simp only[Nat.zero_add,fR.out]at x0 x1 x2 x3 x4 x5 x6 x7 x8;have fz:=Qh Co;have eI:=Qh (Jm.out.below R);have bI:=Qh (b8.out.below R);clear R Co sX
       by_cases b:u.m.kind=48
       ·rw[decide_eq_true b,Bool.not_true]at Tb
        have w1:IntKind.i64.wrap ((k:Int)+1)=(k:Int)+1:=by rw[IntKind.wrap_i64];omega
        have XT:(k:Int)+1≤(c:Int):=by omega
        have eA:(0:Int)≤(k:Int)+1:=by omega
        have Nz:((k:Int)+1).toNat=k+1:=by omega
        have PB:Hid (∀w',Below A.heap.size A w'→w'.cell? ⟨wr.heap.size,2,none⟩=some (.string (str u.m.af))):=Qh (fun w' h=>(h.cell (p:=⟨wr.heap.size,2,none⟩) fz.out.lt).trans x2);have G:Hid (Below A.heap.size A A.drew):=Qh (below_drewN (Below.refl A.heap.size A) 1);have d:Hid (∀o,Below A.heap.size A (A.alloc o).drew):=Qh (fun o=>below_drewN ((Below.refl A.heap.size A).alloc (Qk _) o) 1)
        have f:Hid (∀w',Below A.heap.size A w'→Calls Tryz.prog 25 #[.slice (some ⟨b1,o1,none⟩) (k+1) c,.string (str u.m.af)] w' (j3 w' (xs.take (k+1)) u.m.af)):=Qh (fun w' hb=>by
         have hm:=(eI.out.below hb).drop (show k+1≤n by omega);have:=wJ (some ⟨b1,o1,none⟩) (k+1) c (xs.take (k+1)) u.m.af w' hm (by unfold maxLen;omega)
         exact this)
        have Ji:Hid (iH ((xs.map NP.m).take (k+1)) u.m=CW (dE ((xs.map NP.m).take (k+1)) u.m.af) u.m):=Qh (by rw[iH,if_pos b]);unfold j3 at f;simp only[List.map_take]at f;obtain⟨fo,uC⟩:∃fo,dE ((xs.map NP.m).take (k+1)) u.m.af=fo:=⟨_,rfl⟩
        rw[uC]at f Ji;clear x0 x1 x4 x5 x6 x7 x8 b uC
        cases fo with
        |none=>
         have E:Hid (r=false):=Qh (by
          rw[←M.out];refine aD (k:=k) (by rw[Qi,J.out];exact N) ?_
          rw[aB,H.out,Ji.out,CW,Bool.and_false])
         go_wp2_with fail
         go_region_held_law (fun w'=>w'.cell? ⟨wr.heap.size,2,none⟩=some (.string (str u.m.af))) ((refine PB.out _ ?_;first|with_reducible exact G.out|with_reducible exact G.out.alloc G.out.size _|with_reducible exact d.out _|with_reducible exact dC G.out (Qk _) _ _ _ _ _ _ _ _ _)) (first
          |(go_at_call 25
            refine(f.out _ ?_).mono ?_
            (with_reducible exact G.out)
            rintro e V ⟨y,he,hy,U,O⟩;unfold NP.cs fT at he;subst he;have Jr:Hid (cT A y):=Qh (l9 (eI.out.drop (show k+1≤n by omega)) U);have Js:=Qh hy;have G:=Qh (G.out.trans (O.mono G.out.size))
            clear O U hy)
          |(go_at_call 25
            refine(f.out _ ?_).mono ?_
            (with_reducible exact d.out _)
            rintro e V ⟨y,he,hy,U,O⟩;unfold NP.cs fT at he;subst he;have Jr:Hid (cT A y):=Qh (l9 (eI.out.drop (show k+1≤n by omega)) U);have Js:=Qh hy;have B:ao V A.heap.size 52 aG.cs:=(ao.new A _ aG.cs).drew.below O (by simp);have MB:=Qh B;have G:=Qh ((d.out _).trans (O.mono (d.out _).size));obtain⟨r0,r1,r2,r3,r4,r5,r6,r7,r8⟩:=aU B;simp only[Nat.zero_add]at r0 r1 r2 r3 r4 r5 r6 r7 r8;have f0:=B.frozen 0;have f1:=B.frozen 1;have f2:=B.frozen 2;have f3:=B.frozen 3;have f4:=B.frozen 4;have f5:=B.frozen 5;have f6:=B.frozen 6;have f7:=B.frozen 7;have f8:=B.frozen 8
            clear B O U hy))
         all_goals
          first
          |(have I:=Qh (dC G.out (Qk _) (.string (str y.m.path)) (.string (str y.m.target)) (.string (str y.m.af)) (.int .u8 (y.m.kind.toNat:Int)) (.int .i64 y.m.mode) (.int .i64 y.m.uid) (.int .i64 y.m.gid) (.int .i64 y.m.time) (.slice y.p y.m.body.length y.c))
            clear MB;go_wp2;go_ret
            exact⟨by rw[E.out];rfl,D.out.trans (I.out.mono D.out.size)⟩)
          |(have I:Hid (Below A.heap.size A (V.alloc (.cells #[.string (str y.m.path),.string (str y.m.target),.string (str y.m.af),.int .u8 (y.m.kind.toNat:Int),.int .i64 y.m.mode,.int .i64 y.m.uid,.int .i64 y.m.gid,.int .i64 y.m.time,.slice y.p y.m.body.length y.c] 52))):=Qh (G.out.alloc G.out.size _)
            go_wp2;go_ret
            exact⟨by rw[E.out];rfl,D.out.trans (I.out.mono D.out.size)⟩)
        |some z=>
         go_wp2_with fail
         go_region_held_law (fun w'=>w'.cell? ⟨wr.heap.size,2,none⟩=some (.string (str u.m.af))) ((refine PB.out _ ?_;first|with_reducible exact G.out|with_reducible exact G.out.alloc G.out.size _|with_reducible exact d.out _|with_reducible exact dC G.out (Qk _) _ _ _ _ _ _ _ _ _)) (first
          |(go_at_call 25
            refine(f.out _ ?_).mono ?_
            (with_reducible exact G.out)
            rintro e V ⟨y,he,hy,U,O⟩;unfold NP.cs fT at he;subst he;have Jr:Hid (cT A y):=Qh (l9 (eI.out.drop (show k+1≤n by omega)) U);have Js:=Qh hy;have G:=Qh (G.out.trans (O.mono G.out.size))
            clear O U hy)
          |(go_at_call 25
            refine(f.out _ ?_).mono ?_
            (with_reducible exact d.out _)
            rintro e V ⟨y,he,hy,U,O⟩;unfold NP.cs fT at he;subst he;have Jr:Hid (cT A y):=Qh (l9 (eI.out.drop (show k+1≤n by omega)) U);have Js:=Qh hy;have B:ao V A.heap.size 52 aG.cs:=(ao.new A _ aG.cs).drew.below O (by simp);have MB:=Qh B;have G:=Qh ((d.out _).trans (O.mono (d.out _).size));obtain⟨r0,r1,r2,r3,r4,r5,r6,r7,r8⟩:=aU B;simp only[Nat.zero_add]at r0 r1 r2 r3 r4 r5 r6 r7 r8;have f0:=B.frozen 0;have f1:=B.frozen 1;have f2:=B.frozen 2;have f3:=B.frozen 3;have f4:=B.frozen 4;have f5:=B.frozen 5;have f6:=B.frozen 6;have f7:=B.frozen 7;have f8:=B.frozen 8
            clear B O U hy))
         all_goals
          first
          |(have MB2:=MB
            clear r0 r1 r2 r3 r4 r5 r6 r7 r8 f0 f1 f2 f3 f4 f5 f6 f7 f8;obtain⟨Wz,Y⟩:∃Wz,(((((((((V.setCell ⟨A.heap.size,0,none⟩ (.string (str y.m.path))).setCell ⟨A.heap.size,1,none⟩ (.string (str y.m.target))).setCell ⟨A.heap.size,2,none⟩ (.string (str y.m.af))).setCell ⟨A.heap.size,3,none⟩ (.int .u8 (y.m.kind.toNat:Int))).setCell ⟨A.heap.size,4,none⟩ (.int .i64 y.m.mode)).setCell ⟨A.heap.size,5,none⟩ (.int .i64 y.m.uid)).setCell ⟨A.heap.size,6,none⟩ (.int .i64 y.m.gid)).setCell ⟨A.heap.size,7,none⟩ (.int .i64 y.m.time)).setCell ⟨A.heap.size,8,none⟩ (.slice y.p y.m.body.length y.c))=Wz:=⟨_,rfl⟩
            have hZ:ao Wz A.heap.size 52 y.cs:=by rw[←Y];exact lG MB.out (.string (str y.m.path)) (.string (str y.m.target)) (.string (str y.m.af)) (.int .u8 (y.m.kind.toNat:Int)) (.int .i64 y.m.mode) (.int .i64 y.m.uid) (.int .i64 y.m.gid) (.int .i64 y.m.time) (.slice y.p y.m.body.length y.c)
            have T:Below A.heap.size A Wz:=by rw[←Y];exact dC G.out (Qk _) (.string (str y.m.path)) (.string (str y.m.target)) (.string (str y.m.af)) (.int .u8 (y.m.kind.toNat:Int)) (.int .i64 y.m.mode) (.int .i64 y.m.uid) (.int .i64 y.m.gid) (.int .i64 y.m.time) (.slice y.p y.m.body.length y.c)
            rw[Y];clear Y;have I:=Qh T;obtain⟨y0,y1,y2,y3,y4,y5,y6,y7,y8⟩:=aU hZ;obtain⟨x0,x1,x2,x3,x4,x5,x6,x7,x8⟩:=aU (fz.out.below T fz.out.lt);simp only[Nat.zero_add,fR.out]at y0 y1 y2 y3 y4 y5 y6 y7 y8 x0 x1 x2 x3 x4 x5 x6 x7 x8;have v1:(convert 26 9 (.slice y.p y.m.body.length y.c)).run Tryz.prog Wz=.ok (.string (str y.m.body)) Wz:=cD (Jr.out.below T).gZ rfl _ _ _ Tryz.underlying26 Tryz.underlying5 Tryz.underlying9 _;have v2:(convert 26 9 (.slice u.p u.m.body.length u.c)).run Tryz.prog Wz=.ok (.string (str u.m.body)) Wz:=cD (bI.out.below T).gZ rfl _ _ _ Tryz.underlying26 Tryz.underlying5 Tryz.underlying9 _;have Eo:=kM y.m.kind 48 48 rfl;obtain⟨ky,EG⟩:∃k:Int,(y.m.kind.toNat:Int)=k:=⟨_,rfl⟩
            rw[EG]at Eo y3;have e2:=iJ y.m.af y.m.path;have e4:=fun w=>rN y.m.mode y.m.uid y.m.gid y.m.time u.m.mode u.m.uid u.m.gid u.m.time w
            have e5:=iJ y.m.body u.m.body
            have L:Hid (iH ((xs.map NP.m).take (k+1)) u.m=(decide (y.m.kind=48)&&(decide (y.m.af=y.m.path)&&(decide (y.m.mode=u.m.mode∧y.m.uid=u.m.uid∧y.m.gid=u.m.gid∧y.m.time=u.m.time)&&decide (y.m.body=u.m.body))))):=Qh (by
             have B:z=y.m:=Js.out.symm
             rw[Ji.out,B];rfl)
            obtain⟨q1,t⟩:∃q,decide (y.m.kind=48)=q:=⟨_,rfl⟩
            obtain⟨q2,l⟩:∃q,decide (y.m.af=y.m.path)=q:=⟨_,rfl⟩
            obtain⟨q3,xI⟩:∃q,decide (y.m.mode=u.m.mode∧y.m.uid=u.m.uid∧y.m.gid=u.m.gid∧y.m.time=u.m.time)=q:=⟨_,rfl⟩
            obtain⟨q4,xJ⟩:∃q,decide (y.m.body=u.m.body)=q:=⟨_,rfl⟩
            rw[t]at Eo;rw[l]at e2;simp only[xI]at e4;rw[xJ]at e5;rw[t,l,xI,xJ]at L;clear t l xI xJ hZ T EG
            cases q1 with
            |false=>
             have E:Hid (r=false):=Qh (by
              rw[←M.out];refine aD (k:=k) (by rw[Qi,J.out];exact N) ?_
              rw[aB,H.out,L.out];simp)
             go_wp2;go_ret;exact⟨by rw[E.out];rfl,D.out.trans (I.out.mono D.out.size)⟩
            |true=>
             cases q2 with
             |false=>
              have E:Hid (r=false):=Qh (by
               rw[←M.out];refine aD (k:=k) (by rw[Qi,J.out];exact N) ?_
               rw[aB,H.out,L.out];simp)
              go_wp2;go_ret;exact⟨by rw[E.out];rfl,D.out.trans (I.out.mono D.out.size)⟩
             |true=>
              cases q3 with
              |false=>
               have E:Hid (r=false):=Qh (by
                rw[←M.out];refine aD (k:=k) (by rw[Qi,J.out];exact N) ?_
                rw[aB,H.out,L.out];simp)
               go_wp2;go_ret;exact⟨by rw[E.out];rfl,D.out.trans (I.out.mono D.out.size)⟩
              |true=>
               cases q4 with
               |false=>
                have E:Hid (r=false):=Qh (by
                 rw[←M.out];refine aD (k:=k) (by rw[Qi,J.out];exact N) ?_
                 rw[aB,H.out,L.out];simp)
                go_wp2;go_ret;exact⟨by rw[E.out];rfl,D.out.trans (I.out.mono D.out.size)⟩
               |true=>
                have nX:Hid (∀j,j<k+1→eo (xs.map NP.m) j=true):=Qh (fun j Z=>by
                 rcases Nat.lt_succ_iff_lt_or_eq.1 Z with h|rfl
                 ·exact hG.out j h
                 ·rw[aB,sa.out,H.out,L.out];rfl)
                have PD:=Qh (D.out.trans (I.out.mono D.out.size));go_wp2;go_roundw
                case rel=>exact⟨k+1,by omega,by go_num,nX,PD⟩
                case measure=>simp[RowKit.intOf];omega)
          |(obtain⟨Wz,Y⟩:∃Wz,V.alloc (.cells #[.string (str y.m.path),.string (str y.m.target),.string (str y.m.af),.int .u8 (y.m.kind.toNat:Int),.int .i64 y.m.mode,.int .i64 y.m.uid,.int .i64 y.m.gid,.int .i64 y.m.time,.slice y.p y.m.body.length y.c] 52)=Wz:=⟨_,rfl⟩
            have hZ:ao Wz V.heap.size 52 y.cs:=by rw[←Y];exact ao.new V _ _
            have T:Below A.heap.size A Wz:=by rw[←Y];exact G.out.alloc G.out.size _
            rw[Y];clear Y;have I:=Qh T;obtain⟨y0,y1,y2,y3,y4,y5,y6,y7,y8⟩:=aU hZ;obtain⟨x0,x1,x2,x3,x4,x5,x6,x7,x8⟩:=aU (fz.out.below T fz.out.lt);simp only[Nat.zero_add,fR.out]at y0 y1 y2 y3 y4 y5 y6 y7 y8 x0 x1 x2 x3 x4 x5 x6 x7 x8;have v1:(convert 26 9 (.slice y.p y.m.body.length y.c)).run Tryz.prog Wz=.ok (.string (str y.m.body)) Wz:=cD (Jr.out.below T).gZ rfl _ _ _ Tryz.underlying26 Tryz.underlying5 Tryz.underlying9 _;have v2:(convert 26 9 (.slice u.p u.m.body.length u.c)).run Tryz.prog Wz=.ok (.string (str u.m.body)) Wz:=cD (bI.out.below T).gZ rfl _ _ _ Tryz.underlying26 Tryz.underlying5 Tryz.underlying9 _;have Eo:=kM y.m.kind 48 48 rfl;obtain⟨ky,EG⟩:∃k:Int,(y.m.kind.toNat:Int)=k:=⟨_,rfl⟩
            rw[EG]at Eo y3;have e2:=iJ y.m.af y.m.path;have e4:=fun w=>rN y.m.mode y.m.uid y.m.gid y.m.time u.m.mode u.m.uid u.m.gid u.m.time w
            have e5:=iJ y.m.body u.m.body
            have L:Hid (iH ((xs.map NP.m).take (k+1)) u.m=(decide (y.m.kind=48)&&(decide (y.m.af=y.m.path)&&(decide (y.m.mode=u.m.mode∧y.m.uid=u.m.uid∧y.m.gid=u.m.gid∧y.m.time=u.m.time)&&decide (y.m.body=u.m.body))))):=Qh (by
             have B:z=y.m:=Js.out.symm
             rw[Ji.out,B];rfl)
            obtain⟨q1,t⟩:∃q,decide (y.m.kind=48)=q:=⟨_,rfl⟩
            obtain⟨q2,l⟩:∃q,decide (y.m.af=y.m.path)=q:=⟨_,rfl⟩
            obtain⟨q3,xI⟩:∃q,decide (y.m.mode=u.m.mode∧y.m.uid=u.m.uid∧y.m.gid=u.m.gid∧y.m.time=u.m.time)=q:=⟨_,rfl⟩
            obtain⟨q4,xJ⟩:∃q,decide (y.m.body=u.m.body)=q:=⟨_,rfl⟩
            rw[t]at Eo;rw[l]at e2;simp only[xI]at e4;rw[xJ]at e5;rw[t,l,xI,xJ]at L;clear t l xI xJ hZ T EG
            cases q1 with
            |false=>
             have E:Hid (r=false):=Qh (by
              rw[←M.out];refine aD (k:=k) (by rw[Qi,J.out];exact N) ?_
              rw[aB,H.out,L.out];simp)
             go_wp2;go_ret;exact⟨by rw[E.out];rfl,D.out.trans (I.out.mono D.out.size)⟩
            |true=>
             cases q2 with
             |false=>
              have E:Hid (r=false):=Qh (by
               rw[←M.out];refine aD (k:=k) (by rw[Qi,J.out];exact N) ?_
               rw[aB,H.out,L.out];simp)
              go_wp2;go_ret;exact⟨by rw[E.out];rfl,D.out.trans (I.out.mono D.out.size)⟩
             |true=>
              cases q3 with
              |false=>
               have E:Hid (r=false):=Qh (by
                rw[←M.out];refine aD (k:=k) (by rw[Qi,J.out];exact N) ?_
                rw[aB,H.out,L.out];simp)
               go_wp2;go_ret;exact⟨by rw[E.out];rfl,D.out.trans (I.out.mono D.out.size)⟩
              |true=>
               cases q4 with
               |false=>
                have E:Hid (r=false):=Qh (by
                 rw[←M.out];refine aD (k:=k) (by rw[Qi,J.out];exact N) ?_
                 rw[aB,H.out,L.out];simp)
                go_wp2;go_ret;exact⟨by rw[E.out];rfl,D.out.trans (I.out.mono D.out.size)⟩
               |true=>
                have nX:Hid (∀j,j<k+1→eo (xs.map NP.m) j=true):=Qh (fun j Z=>by
                 rcases Nat.lt_succ_iff_lt_or_eq.1 Z with h|rfl
                 ·exact hG.out j h
                 ·rw[aB,sa.out,H.out,L.out];rfl)
                have PD:=Qh (D.out.trans (I.out.mono D.out.size));go_wp2;go_roundw
                case rel=>exact⟨k+1,by omega,by go_num,nX,PD⟩
                case measure=>simp[RowKit.intOf];omega)
       ·rw[decide_eq_false b,Bool.not_false]at Tb
        have e2:=aV u.m.af
        by_cases hle:u.m.af=[]
        ·rw[decide_eq_true hle]at e2
         have nX:Hid (∀j,j<k+1→eo (xs.map NP.m) j=true):=Qh (fun j Z=>by
          rcases Nat.lt_succ_iff_lt_or_eq.1 Z with h|rfl
          ·exact hG.out j h
          ·rw[aB,sa.out,H.out,iH,if_neg b,decide_eq_true hle];rfl)
         clear b hle;go_wp2;go_roundw
         case rel=>exact⟨k+1,by omega,by go_num,nX,D⟩
         case measure=>simp[RowKit.intOf];omega
        ·rw[decide_eq_false hle]at e2
         have E:Hid (r=false):=Qh (by
          rw[←M.out];refine aD (k:=k) (by rw[Qi,J.out];exact N) ?_
          rw[aB,sa.out,H.out,iH,if_neg b,decide_eq_false hle];rfl)
         clear b hle;go_wp2;go_ret;exact⟨by rw[E.out];rfl,D.out⟩
  ·have ng:¬((k:Int)<(n:Int)):=by omega
   have H0:Hid (∀j,j<xs.length→eo (xs.map NP.m) j=true):=Qh (fun j Z=>hG.out j (by rw[J.out]at Z;omega))
   by_cases Ke:n≤4096
   ·have E:Hid (r=true):=Qh (by
     rw[←M.out]
     exact sF (by rw[Qi,J.out];exact Ke) (fun j Z=>H0.out j (by rw[Qi]at Z;exact Z)))
    have Mt:(n:Int)≤4096:=by omega
    go_wp2;go_ret;exact⟨by rw[E.out];rfl,hB.out⟩
   ·have E:Hid (r=false):=Qh (by
     rw[←M.out];unfold bD
     rw[Qi,J.out,decide_eq_false Ke,Bool.false_and])
    have Mt:¬(n:Int)≤4096:=by omega
    have ur:decide ((n:Int)≤4096)=false:=decide_eq_false Mt;go_wp2;go_ret;exact⟨by rw[E.out];rfl,hB.out⟩
end Tre
end Go.Proofs.YtdhibldkldlfpaaGreatDoor
