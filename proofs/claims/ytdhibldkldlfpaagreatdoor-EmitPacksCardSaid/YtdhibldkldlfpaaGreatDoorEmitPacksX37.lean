/- Merged. -/
import Derived.Test.YtdhibldkldlfpaaGreatDoorEmitPacksX36
import Derived.Laws.Cover1
namespace Go.Proofs.YtdhibldkldlfpaaGreatDoor
set_option linter.unusedVariables false
set_option maxHeartbeats 20000000
set_option maxRecDepth 100000
namespace Tre
open Go.ChangeShapes Go.WideShapes Go.ChangeAt Go.RowKit Base cf cN Bk Mem Go.Lib
attribute [local irreducible] wpQuiet
def TH (x:NP):Prop:=x.m.path.length≤140737488351232∧x.m.target.length≤140737488351232
theorem geB (a b:List UInt8):(!(Op.bytesLess (str a).toList (str b).toList))=!eH a b:=by
 rw[av,av];rfl
theorem uq (a b c d a' b' c' d':Int) (w:World):(binOp .neq 46 (.agg #[.int .i64 a,.int .i64 b,.int .i64 c,.int .i64 d]) (.agg #[.int .i64 a',.int .i64 b',.int .i64 c',.int .i64 d'])).run Tryz.prog w=.ok (.bool (!decide (a=a'∧b=b'∧c=c'∧d=d'))) w:=by
 rw[run_neq_struct,show(10000:Nat)=9998+1+1 from rfl,sL];rfl
theorem wR (p:Option Addr) (n c:Nat) (xs:List NP) (w:World) (h:aV w p n xs) (hc:n≤c) (hm:c≤maxLen) (hF:∀x∈xs,TH x):
 Calls Tryz.prog 12 #[.slice p n c] w fun e w'=>e=.returned (.bool (cG (xs.map NP.m)))∧Below w.heap.size w w':=by
 unfold maxLen at hm;have HM:=Qh h;have J:=Qh h.1;have HF:=Qh hF;obtain⟨r,hr⟩:∃r,cG (xs.map NP.m)=r:=⟨_,rfl⟩
 rw[hr];have M:=Qh hr;clear h hF hr
 go_enter Tryz.func12,Tryz.ntmps12
 go_wp2_with fail
 go_loopw [3,4,5,6,56] (fun i _ _ _ _ wr=>∃(k:Nat),k≤n∧i=.int .i64 (k:Int)∧Hid (∀j,j<k→fk (xs.map NP.m) j=true)∧Hid (Below w.heap.size w wr)) (fun i _ _ _ _ _=>n - (RowKit.intOf i).toNat)
 case atStart=>exact⟨0,Nat.zero_le _,rfl,Qh (fun j Z=>absurd Z (by omega)),Qh (Below.refl _ _)⟩
 case round=>
  obtain⟨k,hk,rfl,hG,hB⟩:=hrel
  by_cases N:k<n
  ·obtain⟨b1,o1,rfl,ck,cF,gw⟩:=(HM.out.below hB.out).dF N
   obtain⟨u,hu⟩:∃u,xs.getD k aD=u:=⟨_,rfl⟩
   rw[hu]at cF gw;have Xv:TH u:=HF.out u (by rw[←hu];exact nh xs k (by rw[J.out];exact N));obtain⟨W,hW⟩:∃W,wr.alloc (.cells u.cs 52)=W:=⟨_,rfl⟩
   have ML:Below wr.heap.size wr W:=by rw[←hW];exact(Below.refl _ _).alloc (Qk _) _
   have hX:au W wr.heap.size 52 u.cs:=by rw[←hW];exact au.new wr _ _
   have t:=Qh (hB.out.trans (ML.mono hB.out.size));have Bt:Hid (∀p:ie W,Calls Tryz.prog 24 #[.agg (dj u.m.mem u.p u.c)] p.w' fun e w'=>e=.returned (.bool (bZ u.m.mem))∧Below p.w'.heap.size p.w' w'):=Qh (fun p=>L1 u.m.mem u.p u.c p.w' Xv.1 Xv.2);have sX:iq W wr.heap.size 0 u:=rZ (bt hX) hX.lt;have HX:=Qh hX;have cr:=Qh (cF.below ML);have M4:=Qh (HM.out.below t.out);have H:Hid ((xs.map NP.m).getD k cz=u.m):=Qh (by rw[gK,hu]);have ek:=Aq u.m.kind 49 49 rfl;have Ys:=mj u.m.kind 48 48 rfl;obtain⟨kn,cu⟩:∃k:Int,(u.m.kind.toNat:Int)=k:=⟨_,rfl⟩
   unfold NP.cs gB at hW;unfold dj aC.mem at Bt;unfold iq eS at sX;simp only[Nat.zero_add]at sX;obtain⟨c0,c1,c2,c3,c4,c5,c6,c7,c8⟩:=gw;rw[cu]at hW Bt sX c3 ek Ys;have gV:=Qh cu;have j5:(k:Int)<(n:Int):=by omega
   obtain⟨q,hq⟩:∃q,bZ ⟨u.m.path,u.m.target,u.m.kind,u.m.mode,u.m.uid,u.m.gid,u.m.time,u.m.body⟩=q:=⟨_,rfl⟩
   rw[hq]at Bt;have HQ:Hid (bZ u.m.mem=q):=Qh hq;obtain⟨x49,V9⟩:∃x,decide (u.m.kind=49)=x:=⟨_,rfl⟩
   rw[V9]at ek;have Tr:=Qh V9;clear hu cF ML hX hq Xv ck cu V9;go_upto_region 5 with fail;clear hW c0 c1 c2 c3 c4 c5 c6 c7 c8
   by_cases fc:k=0
   ·have M5:Hid ((decide (k=0)||eH ((xs.map NP.m).getD (k - 1) cz).path u.m.path)=true):=Qh (by rw[decide_eq_true fc];rfl)
    have pb:decide ((0:Int)<(k:Int))=false:=decide_eq_false (by omega);have cu:decide (0<k)=false:=decide_eq_false (by omega);clear fc
    cases x49 with
    |true=>
     have E:Hid (r=false):=Qh (by
      rw[←M.out];refine aG (k:=k) (by rw[Qi,J.out];exact N) ?_
      rw[aE,stepT,H.out,fI,show decide (u.m.kind≠49)=false by rw[decide_eq_false_iff_not];exact fun h=>h (of_decide_eq_true Tr.out)];rfl)
     refine aP (by kernel_rfl) (by kernel_rfl) ?_
     repeat (quiet_step (first
      |(go_at_call 24;exact Calls.dK (Bt.out _))))
     refine wpQuiet_nil ?_;intro A X;have R:=cJ X;clear X;have F:=Qh (t.out.trans (R.mono t.out.size));clear R sX;go_wp2;go_ret;exact⟨by rw[E.out];rfl,F.out⟩
    |false=>
     have MW:Hid (decide (u.m.kind≠49)=true):=Qh (decide_eq_true (of_decide_eq_false Tr.out))
     cases q with
     |false=>
      have E:Hid (r=false):=Qh (by
       rw[←M.out];refine aG (k:=k) (by rw[Qi,J.out];exact N) ?_
       rw[aE,stepT,H.out,fI,HQ.out,MW.out];rfl)
      refine aP (by kernel_rfl) (by kernel_rfl) ?_
      repeat (quiet_step (first
       |(go_at_call 24;exact Calls.dK (Bt.out _))))
      refine wpQuiet_nil ?_;intro A X;have R:=cJ X;clear X;have F:=Qh (t.out.trans (R.mono t.out.size));clear R sX;go_wp2;go_ret;exact⟨by rw[E.out];rfl,F.out⟩
     |true=>
      have sx:Hid (stepT (xs.map NP.m) k=true):=Qh (by rw[stepT,H.out,fI,HQ.out,MW.out,M5.out];rfl);refine aP (by kernel_rfl) (by kernel_rfl) ?_
      repeat (quiet_step (first
       |(go_at_call 24;exact Calls.dK (Bt.out _))))
      refine wpQuiet_nil ?_;intro A X;have R:=cJ X;clear X;clear pb cu;have D:=Qh (t.out.trans (R.mono t.out.size));have yB:=HX.out.below R HX.out.lt;obtain⟨x0,x1,x2,x3,x4,x5,x6,x7,x8⟩:=bt yB;simp only[Nat.zero_add,gV.out]at x0 x1 x2 x3 x4 x5 x6 x7 x8;have fX:=Qh yB;have fy:=Qh (M4.out.below R);have bT:=Qh (cr.out.below R);clear R yB sX
      by_cases b:u.m.kind=48
      ·rw[decide_eq_true b,Bool.not_true]at Ys
       have w1:IntKind.i64.wrap ((k:Int)+1)=(k:Int)+1:=by rw[IntKind.wrap_i64];omega
       have hkc:(k:Int)+1≤(c:Int):=by omega
       have fc:(0:Int)≤(k:Int)+1:=by omega
       have R4:((k:Int)+1).toNat=k+1:=by omega
       have QA:Hid (∀w',Below A.heap.size A w'→w'.cell? ⟨wr.heap.size,2,none⟩=some (.string (str u.m.ag))):=Qh (fun w' h=>(h.cell (p:=⟨wr.heap.size,2,none⟩) fX.out.lt).trans x2);have G:Hid (Below A.heap.size A A.drew):=Qh (below_drewN (Below.refl A.heap.size A) 1);have d:Hid (∀o,Below A.heap.size A (A.alloc o).drew):=Qh (fun o=>below_drewN ((Below.refl A.heap.size A).alloc (Qk _) o) 1)
       have l:Hid (∀w',Below A.heap.size A w'→Calls Tryz.prog 25 #[.slice (some ⟨b1,o1,none⟩) (k+1) c,.string (str u.m.ag)] w' (jN w' (xs.take (k+1)) u.m.ag)):=Qh (fun w' hb=>by
        have hm:=(fy.out.below hb).drop (show k+1≤n by omega);have:=rY (some ⟨b1,o1,none⟩) (k+1) c (xs.take (k+1)) u.m.ag w' hm (by unfold maxLen;omega)
        exact this)
       have Hj:Hid (jF ((xs.map NP.m).take (k+1)) u.m=FV (ei ((xs.map NP.m).take (k+1)) u.m.ag) u.m):=Qh (by rw[jF,if_pos b]);unfold jN at l;simp only[List.map_take]at l;obtain⟨fo,xE⟩:∃fo,ei ((xs.map NP.m).take (k+1)) u.m.ag=fo:=⟨_,rfl⟩
       rw[xE]at l Hj;clear x0 x1 x4 x5 x6 x7 x8 b xE
       cases fo with
       |none=>
        have E:Hid (r=false):=Qh (by
         rw[←M.out];refine aG (k:=k) (by rw[Qi,J.out];exact N) ?_
         rw[aE,H.out,Hj.out,FV,Bool.and_false])
        go_wp2_with fail
        go_region_held_law (fun w'=>w'.cell? ⟨wr.heap.size,2,none⟩=some (.string (str u.m.ag))) ((refine QA.out _ ?_;first|with_reducible exact G.out|with_reducible exact G.out.alloc G.out.size _|with_reducible exact d.out _|with_reducible exact eC G.out (Qk _) _ _ _ _ _ _ _ _ _)) (first
         |(go_at_call 25
           refine(l.out _ ?_).mono ?_
           (with_reducible exact G.out)
           rintro e V ⟨y,he,hy,T,O⟩;unfold NP.cs gB at he;subst he;have M8:Hid (cY A y):=Qh (mA (fy.out.drop (show k+1≤n by omega)) T);have M9:=Qh hy;have G:=Qh (G.out.trans (O.mono G.out.size))
           clear O T hy)
         |(go_at_call 25
           refine(l.out _ ?_).mono ?_
           (with_reducible exact d.out _)
           rintro e V ⟨y,he,hy,T,O⟩;unfold NP.cs gB at he;subst he;have M8:Hid (cY A y):=Qh (mA (fy.out.drop (show k+1≤n by omega)) T);have M9:=Qh hy;have B:au V A.heap.size 52 aD.cs:=(au.new A _ aD.cs).drew.below O (by simp);have MB:=Qh B;have G:=Qh ((d.out _).trans (O.mono (d.out _).size));obtain⟨r0,r1,r2,r3,r4,r5,r6,r7,r8⟩:=bt B;simp only[Nat.zero_add]at r0 r1 r2 r3 r4 r5 r6 r7 r8;have f0:=B.frozen 0;have f1:=B.frozen 1;have f2:=B.frozen 2;have f3:=B.frozen 3;have f4:=B.frozen 4;have f5:=B.frozen 5;have f6:=B.frozen 6;have f7:=B.frozen 7;have f8:=B.frozen 8
           clear B O T hy))
        all_goals
         first
         |(have I:=Qh (eC G.out (Qk _) (.string (str y.m.path)) (.string (str y.m.target)) (.string (str y.m.ag)) (.int .u8 (y.m.kind.toNat:Int)) (.int .i64 y.m.mode) (.int .i64 y.m.uid) (.int .i64 y.m.gid) (.int .i64 y.m.time) (.slice y.p y.m.body.length y.c))
           clear MB;go_wp2;go_ret
           exact⟨by rw[E.out];rfl,D.out.trans (I.out.mono D.out.size)⟩)
         |(have I:Hid (Below A.heap.size A (V.alloc (.cells #[.string (str y.m.path),.string (str y.m.target),.string (str y.m.ag),.int .u8 (y.m.kind.toNat:Int),.int .i64 y.m.mode,.int .i64 y.m.uid,.int .i64 y.m.gid,.int .i64 y.m.time,.slice y.p y.m.body.length y.c] 52))):=Qh (G.out.alloc G.out.size _)
           go_wp2;go_ret
           exact⟨by rw[E.out];rfl,D.out.trans (I.out.mono D.out.size)⟩)
       |some z=>
        go_wp2_with fail
        go_region_held_law (fun w'=>w'.cell? ⟨wr.heap.size,2,none⟩=some (.string (str u.m.ag))) ((refine QA.out _ ?_;first|with_reducible exact G.out|with_reducible exact G.out.alloc G.out.size _|with_reducible exact d.out _|with_reducible exact eC G.out (Qk _) _ _ _ _ _ _ _ _ _)) (first
         |(go_at_call 25
           refine(l.out _ ?_).mono ?_
           (with_reducible exact G.out)
           rintro e V ⟨y,he,hy,T,O⟩;unfold NP.cs gB at he;subst he;have M8:Hid (cY A y):=Qh (mA (fy.out.drop (show k+1≤n by omega)) T);have M9:=Qh hy;have G:=Qh (G.out.trans (O.mono G.out.size))
           clear O T hy)
         |(go_at_call 25
           refine(l.out _ ?_).mono ?_
           (with_reducible exact d.out _)
           rintro e V ⟨y,he,hy,T,O⟩;unfold NP.cs gB at he;subst he;have M8:Hid (cY A y):=Qh (mA (fy.out.drop (show k+1≤n by omega)) T);have M9:=Qh hy;have B:au V A.heap.size 52 aD.cs:=(au.new A _ aD.cs).drew.below O (by simp);have MB:=Qh B;have G:=Qh ((d.out _).trans (O.mono (d.out _).size));obtain⟨r0,r1,r2,r3,r4,r5,r6,r7,r8⟩:=bt B;simp only[Nat.zero_add]at r0 r1 r2 r3 r4 r5 r6 r7 r8;have f0:=B.frozen 0;have f1:=B.frozen 1;have f2:=B.frozen 2;have f3:=B.frozen 3;have f4:=B.frozen 4;have f5:=B.frozen 5;have f6:=B.frozen 6;have f7:=B.frozen 7;have f8:=B.frozen 8
           clear B O T hy))
        all_goals
         first
         |(have MB2:=MB
           clear r0 r1 r2 r3 r4 r5 r6 r7 r8 f0 f1 f2 f3 f4 f5 f6 f7 f8;obtain⟨Wz,Y⟩:∃Wz,(((((((((V.setCell ⟨A.heap.size,0,none⟩ (.string (str y.m.path))).setCell ⟨A.heap.size,1,none⟩ (.string (str y.m.target))).setCell ⟨A.heap.size,2,none⟩ (.string (str y.m.ag))).setCell ⟨A.heap.size,3,none⟩ (.int .u8 (y.m.kind.toNat:Int))).setCell ⟨A.heap.size,4,none⟩ (.int .i64 y.m.mode)).setCell ⟨A.heap.size,5,none⟩ (.int .i64 y.m.uid)).setCell ⟨A.heap.size,6,none⟩ (.int .i64 y.m.gid)).setCell ⟨A.heap.size,7,none⟩ (.int .i64 y.m.time)).setCell ⟨A.heap.size,8,none⟩ (.slice y.p y.m.body.length y.c))=Wz:=⟨_,rfl⟩
           have hZ:au Wz A.heap.size 52 y.cs:=by rw[←Y];exact mZ MB.out (.string (str y.m.path)) (.string (str y.m.target)) (.string (str y.m.ag)) (.int .u8 (y.m.kind.toNat:Int)) (.int .i64 y.m.mode) (.int .i64 y.m.uid) (.int .i64 y.m.gid) (.int .i64 y.m.time) (.slice y.p y.m.body.length y.c)
           have U:Below A.heap.size A Wz:=by rw[←Y];exact eC G.out (Qk _) (.string (str y.m.path)) (.string (str y.m.target)) (.string (str y.m.ag)) (.int .u8 (y.m.kind.toNat:Int)) (.int .i64 y.m.mode) (.int .i64 y.m.uid) (.int .i64 y.m.gid) (.int .i64 y.m.time) (.slice y.p y.m.body.length y.c)
           rw[Y];clear Y;have I:=Qh U;obtain⟨y0,y1,y2,y3,y4,y5,y6,y7,y8⟩:=bt hZ;obtain⟨x0,x1,x2,x3,x4,x5,x6,x7,x8⟩:=bt (fX.out.below U fX.out.lt);simp only[Nat.zero_add,gV.out]at y0 y1 y2 y3 y4 y5 y6 y7 y8 x0 x1 x2 x3 x4 x5 x6 x7 x8;have v1:(convert 26 9 (.slice y.p y.m.body.length y.c)).run Tryz.prog Wz=.ok (.string (str y.m.body)) Wz:=cw (M8.out.below U).gC rfl _ _ _ Tryz.underlying26 Tryz.underlying5 Tryz.underlying9 _;have v2:(convert 26 9 (.slice u.p u.m.body.length u.c)).run Tryz.prog Wz=.ok (.string (str u.m.body)) Wz:=cw (bT.out.below U).gC rfl _ _ _ Tryz.underlying26 Tryz.underlying5 Tryz.underlying9 _;have Ic:=mj y.m.kind 48 48 rfl;obtain⟨ky,Iy⟩:∃k:Int,(y.m.kind.toNat:Int)=k:=⟨_,rfl⟩
           rw[Iy]at Ic y3;have e2:=jI y.m.ag y.m.path;have e4:=fun w=>uq y.m.mode y.m.uid y.m.gid y.m.time u.m.mode u.m.uid u.m.gid u.m.time w
           have e5:=jI y.m.body u.m.body
           have L:Hid (jF ((xs.map NP.m).take (k+1)) u.m=(decide (y.m.kind=48)&&(decide (y.m.ag=y.m.path)&&(decide (y.m.mode=u.m.mode∧y.m.uid=u.m.uid∧y.m.gid=u.m.gid∧y.m.time=u.m.time)&&decide (y.m.body=u.m.body))))):=Qh (by
            have B:z=y.m:=M9.out.symm
            rw[Hj.out,B];rfl)
           obtain⟨q1,f⟩:∃q,decide (y.m.kind=48)=q:=⟨_,rfl⟩
           obtain⟨q2,pU⟩:∃q,decide (y.m.ag=y.m.path)=q:=⟨_,rfl⟩
           obtain⟨q3,xu⟩:∃q,decide (y.m.mode=u.m.mode∧y.m.uid=u.m.uid∧y.m.gid=u.m.gid∧y.m.time=u.m.time)=q:=⟨_,rfl⟩
           obtain⟨q4,g⟩:∃q,decide (y.m.body=u.m.body)=q:=⟨_,rfl⟩
           rw[f]at Ic;rw[pU]at e2;simp only[xu]at e4;rw[g]at e5;rw[f,pU,xu,g]at L;clear f pU xu g hZ U Iy
           cases q1 with
           |false=>
            have E:Hid (r=false):=Qh (by
             rw[←M.out];refine aG (k:=k) (by rw[Qi,J.out];exact N) ?_
             rw[aE,H.out,L.out];simp)
            go_wp2;go_ret;exact⟨by rw[E.out];rfl,D.out.trans (I.out.mono D.out.size)⟩
           |true=>
            cases q2 with
            |false=>
             have E:Hid (r=false):=Qh (by
              rw[←M.out];refine aG (k:=k) (by rw[Qi,J.out];exact N) ?_
              rw[aE,H.out,L.out];simp)
             go_wp2;go_ret;exact⟨by rw[E.out];rfl,D.out.trans (I.out.mono D.out.size)⟩
            |true=>
             cases q3 with
             |false=>
              have E:Hid (r=false):=Qh (by
               rw[←M.out];refine aG (k:=k) (by rw[Qi,J.out];exact N) ?_
               rw[aE,H.out,L.out];simp)
              go_wp2;go_ret;exact⟨by rw[E.out];rfl,D.out.trans (I.out.mono D.out.size)⟩
             |true=>
              cases q4 with
              |false=>
               have E:Hid (r=false):=Qh (by
                rw[←M.out];refine aG (k:=k) (by rw[Qi,J.out];exact N) ?_
                rw[aE,H.out,L.out];simp)
               go_wp2;go_ret;exact⟨by rw[E.out];rfl,D.out.trans (I.out.mono D.out.size)⟩
              |true=>
               have pY:Hid (∀j,j<k+1→fk (xs.map NP.m) j=true):=Qh (fun j Z=>by
                rcases Nat.lt_succ_iff_lt_or_eq.1 Z with h|rfl
                ·exact hG.out j h
                ·rw[aE,sx.out,H.out,L.out];rfl)
               have Uw:=Qh (D.out.trans (I.out.mono D.out.size));go_wp2;go_roundw
               case rel=>exact⟨k+1,by omega,by go_num,pY,Uw⟩
               case measure=>simp[RowKit.intOf];omega)
         |(obtain⟨Wz,Y⟩:∃Wz,V.alloc (.cells #[.string (str y.m.path),.string (str y.m.target),.string (str y.m.ag),.int .u8 (y.m.kind.toNat:Int),.int .i64 y.m.mode,.int .i64 y.m.uid,.int .i64 y.m.gid,.int .i64 y.m.time,.slice y.p y.m.body.length y.c] 52)=Wz:=⟨_,rfl⟩
           have hZ:au Wz V.heap.size 52 y.cs:=by rw[←Y];exact au.new V _ _
           have U:Below A.heap.size A Wz:=by rw[←Y];exact G.out.alloc G.out.size _
           rw[Y];clear Y;have I:=Qh U;obtain⟨y0,y1,y2,y3,y4,y5,y6,y7,y8⟩:=bt hZ;obtain⟨x0,x1,x2,x3,x4,x5,x6,x7,x8⟩:=bt (fX.out.below U fX.out.lt);simp only[Nat.zero_add,gV.out]at y0 y1 y2 y3 y4 y5 y6 y7 y8 x0 x1 x2 x3 x4 x5 x6 x7 x8;have v1:(convert 26 9 (.slice y.p y.m.body.length y.c)).run Tryz.prog Wz=.ok (.string (str y.m.body)) Wz:=cw (M8.out.below U).gC rfl _ _ _ Tryz.underlying26 Tryz.underlying5 Tryz.underlying9 _;have v2:(convert 26 9 (.slice u.p u.m.body.length u.c)).run Tryz.prog Wz=.ok (.string (str u.m.body)) Wz:=cw (bT.out.below U).gC rfl _ _ _ Tryz.underlying26 Tryz.underlying5 Tryz.underlying9 _;have Ic:=mj y.m.kind 48 48 rfl;obtain⟨ky,Iy⟩:∃k:Int,(y.m.kind.toNat:Int)=k:=⟨_,rfl⟩
           rw[Iy]at Ic y3;have e2:=jI y.m.ag y.m.path;have e4:=fun w=>uq y.m.mode y.m.uid y.m.gid y.m.time u.m.mode u.m.uid u.m.gid u.m.time w
           have e5:=jI y.m.body u.m.body
           have L:Hid (jF ((xs.map NP.m).take (k+1)) u.m=(decide (y.m.kind=48)&&(decide (y.m.ag=y.m.path)&&(decide (y.m.mode=u.m.mode∧y.m.uid=u.m.uid∧y.m.gid=u.m.gid∧y.m.time=u.m.time)&&decide (y.m.body=u.m.body))))):=Qh (by
            have B:z=y.m:=M9.out.symm
            rw[Hj.out,B];rfl)
           obtain⟨q1,f⟩:∃q,decide (y.m.kind=48)=q:=⟨_,rfl⟩
           obtain⟨q2,pU⟩:∃q,decide (y.m.ag=y.m.path)=q:=⟨_,rfl⟩
           obtain⟨q3,xu⟩:∃q,decide (y.m.mode=u.m.mode∧y.m.uid=u.m.uid∧y.m.gid=u.m.gid∧y.m.time=u.m.time)=q:=⟨_,rfl⟩
           obtain⟨q4,g⟩:∃q,decide (y.m.body=u.m.body)=q:=⟨_,rfl⟩
           rw[f]at Ic;rw[pU]at e2;simp only[xu]at e4;rw[g]at e5;rw[f,pU,xu,g]at L;clear f pU xu g hZ U Iy
           cases q1 with
           |false=>
            have E:Hid (r=false):=Qh (by
             rw[←M.out];refine aG (k:=k) (by rw[Qi,J.out];exact N) ?_
             rw[aE,H.out,L.out];simp)
            go_wp2;go_ret;exact⟨by rw[E.out];rfl,D.out.trans (I.out.mono D.out.size)⟩
           |true=>
            cases q2 with
            |false=>
             have E:Hid (r=false):=Qh (by
              rw[←M.out];refine aG (k:=k) (by rw[Qi,J.out];exact N) ?_
              rw[aE,H.out,L.out];simp)
             go_wp2;go_ret;exact⟨by rw[E.out];rfl,D.out.trans (I.out.mono D.out.size)⟩
            |true=>
             cases q3 with
             |false=>
              have E:Hid (r=false):=Qh (by
               rw[←M.out];refine aG (k:=k) (by rw[Qi,J.out];exact N) ?_
               rw[aE,H.out,L.out];simp)
              go_wp2;go_ret;exact⟨by rw[E.out];rfl,D.out.trans (I.out.mono D.out.size)⟩
             |true=>
              cases q4 with
              |false=>
               have E:Hid (r=false):=Qh (by
                rw[←M.out];refine aG (k:=k) (by rw[Qi,J.out];exact N) ?_
                rw[aE,H.out,L.out];simp)
               go_wp2;go_ret;exact⟨by rw[E.out];rfl,D.out.trans (I.out.mono D.out.size)⟩
              |true=>
               have pY:Hid (∀j,j<k+1→fk (xs.map NP.m) j=true):=Qh (fun j Z=>by
                rcases Nat.lt_succ_iff_lt_or_eq.1 Z with h|rfl
                ·exact hG.out j h
                ·rw[aE,sx.out,H.out,L.out];rfl)
               have Uw:=Qh (D.out.trans (I.out.mono D.out.size));go_wp2;go_roundw
               case rel=>exact⟨k+1,by omega,by go_num,pY,Uw⟩
               case measure=>simp[RowKit.intOf];omega)
      ·rw[decide_eq_false b,Bool.not_false]at Ys
       have e2:=bk u.m.ag
       by_cases hle:u.m.ag=[]
       ·rw[decide_eq_true hle]at e2
        have pY:Hid (∀j,j<k+1→fk (xs.map NP.m) j=true):=Qh (fun j Z=>by
         rcases Nat.lt_succ_iff_lt_or_eq.1 Z with h|rfl
         ·exact hG.out j h
         ·rw[aE,sx.out,H.out,jF,if_neg b,decide_eq_true hle];rfl)
        clear b hle;go_wp2;go_roundw
        case rel=>exact⟨k+1,by omega,by go_num,pY,D⟩
        case measure=>simp[RowKit.intOf];omega
       ·rw[decide_eq_false hle]at e2
        have E:Hid (r=false):=Qh (by
         rw[←M.out];refine aG (k:=k) (by rw[Qi,J.out];exact N) ?_
         rw[aE,sx.out,H.out,jF,if_neg b,decide_eq_false hle];rfl)
        clear b hle;go_wp2;go_ret;exact⟨by rw[E.out];rfl,D.out⟩
   ·have ej:k - 1<n:=by omega
    obtain⟨b2,o2,Cu,bY,ez,ju⟩:=M4.out.dF ej;simp only[Option.some.injEq,Addr.mk.injEq,and_true]at Cu;obtain⟨rfl,rfl⟩:=Cu;obtain⟨v,hv⟩:∃v,xs.getD (k - 1) aD=v:=⟨_,rfl⟩
    rw[hv]at ju;have WT:Hid ((xs.map NP.m).getD (k - 1) cz=v.m):=Qh (by rw[gK,hv]);have sV:iq W b1 (o1+(k - 1)*9) v:=rZ ju bY;unfold iq eS at sV;have ge:=geB v.m.path u.m.path;have ge2:Op.bytesLess (str v.m.path).toList (str u.m.path).toList=eH v.m.path u.m.path:=by rw[av,av];rfl
    obtain⟨lt,FC⟩:∃x,eH v.m.path u.m.path=x:=⟨_,rfl⟩
    rw[FC]at ge ge2;have uD:=Qh FC;have pb:(0:Int)<(k:Int):=by omega
    have cu:0<k:=by omega
    have Zf:(1:Int)≤(k:Int):=by omega
    have wk:IntKind.i64.wrap ((k:Int) - 1)=(k:Int) - 1:=by rw[IntKind.wrap_i64];omega
    have wk0:(0:Int)≤(k:Int) - 1:=by omega
    have wk2:(k:Int) - 1<(n:Int):=by omega
    have wk3:((k:Int) - 1).toNat=k - 1:=by omega
    clear hv ju ez bY FC
    cases lt with
    |false=>
     have E:Hid (r=false):=Qh (by
      rw[←M.out];refine aG (k:=k) (by rw[Qi,J.out];exact N) ?_;rw[aE,stepT,H.out,WT.out,uD.out,decide_eq_false fc,Bool.or_false,Bool.and_false]
      rfl)
     refine aP (by kernel_rfl) (by kernel_rfl) ?_
     repeat (quiet_step (first
      |(go_at_call 24;exact Calls.dK (Bt.out _))))
     refine wpQuiet_nil ?_;intro A X;have R:=cJ X;clear X;have F:=Qh (t.out.trans (R.mono t.out.size));clear R sX sV;go_wp2;go_ret;exact⟨by rw[E.out];rfl,F.out⟩
    |true=>
     have M5:Hid ((decide (k=0)||eH ((xs.map NP.m).getD (k - 1) cz).path u.m.path)=true):=Qh (by rw[WT.out,uD.out,Bool.or_true]);clear fc
     cases x49 with
     |true=>
      have E:Hid (r=false):=Qh (by
       rw[←M.out];refine aG (k:=k) (by rw[Qi,J.out];exact N) ?_
       rw[aE,stepT,H.out,fI,show decide (u.m.kind≠49)=false by rw[decide_eq_false_iff_not];exact fun h=>h (of_decide_eq_true Tr.out)];rfl)
      refine aP (by kernel_rfl) (by kernel_rfl) ?_
      repeat (quiet_step (first
       |(go_at_call 24;exact Calls.dK (Bt.out _))))
      refine wpQuiet_nil ?_;intro A X;have R:=cJ X;clear X;have F:=Qh (t.out.trans (R.mono t.out.size));clear R sX;go_wp2;go_ret;exact⟨by rw[E.out];rfl,F.out⟩
     |false=>
      have MW:Hid (decide (u.m.kind≠49)=true):=Qh (decide_eq_true (of_decide_eq_false Tr.out))
      cases q with
      |false=>
       have E:Hid (r=false):=Qh (by
        rw[←M.out];refine aG (k:=k) (by rw[Qi,J.out];exact N) ?_
        rw[aE,stepT,H.out,fI,HQ.out,MW.out];rfl)
       refine aP (by kernel_rfl) (by kernel_rfl) ?_
       repeat (quiet_step (first
        |(go_at_call 24;exact Calls.dK (Bt.out _))))
       refine wpQuiet_nil ?_;intro A X;have R:=cJ X;clear X;have F:=Qh (t.out.trans (R.mono t.out.size));clear R sX;go_wp2;go_ret;exact⟨by rw[E.out];rfl,F.out⟩
      |true=>
       have sx:Hid (stepT (xs.map NP.m) k=true):=Qh (by rw[stepT,H.out,fI,HQ.out,MW.out,M5.out];rfl);refine aP (by kernel_rfl) (by kernel_rfl) ?_
       repeat (quiet_step (first
        |(go_at_call 24;exact Calls.dK (Bt.out _))))
       refine wpQuiet_nil ?_;intro A X;have R:=cJ X;clear X;clear sV pb cu Zf wk wk0 wk2 wk3 ge ge2;have D:=Qh (t.out.trans (R.mono t.out.size));have yB:=HX.out.below R HX.out.lt;obtain⟨x0,x1,x2,x3,x4,x5,x6,x7,x8⟩:=bt yB;simp only[Nat.zero_add,gV.out]at x0 x1 x2 x3 x4 x5 x6 x7 x8;have fX:=Qh yB;have fy:=Qh (M4.out.below R);have bT:=Qh (cr.out.below R);clear R yB sX
       by_cases b:u.m.kind=48
       ·rw[decide_eq_true b,Bool.not_true]at Ys
        have w1:IntKind.i64.wrap ((k:Int)+1)=(k:Int)+1:=by rw[IntKind.wrap_i64];omega
        have hkc:(k:Int)+1≤(c:Int):=by omega
        have fc:(0:Int)≤(k:Int)+1:=by omega
        have R4:((k:Int)+1).toNat=k+1:=by omega
        have QA:Hid (∀w',Below A.heap.size A w'→w'.cell? ⟨wr.heap.size,2,none⟩=some (.string (str u.m.ag))):=Qh (fun w' h=>(h.cell (p:=⟨wr.heap.size,2,none⟩) fX.out.lt).trans x2);have G:Hid (Below A.heap.size A A.drew):=Qh (below_drewN (Below.refl A.heap.size A) 1);have d:Hid (∀o,Below A.heap.size A (A.alloc o).drew):=Qh (fun o=>below_drewN ((Below.refl A.heap.size A).alloc (Qk _) o) 1)
        have l:Hid (∀w',Below A.heap.size A w'→Calls Tryz.prog 25 #[.slice (some ⟨b1,o1,none⟩) (k+1) c,.string (str u.m.ag)] w' (jN w' (xs.take (k+1)) u.m.ag)):=Qh (fun w' hb=>by
         have hm:=(fy.out.below hb).drop (show k+1≤n by omega);have:=rY (some ⟨b1,o1,none⟩) (k+1) c (xs.take (k+1)) u.m.ag w' hm (by unfold maxLen;omega)
         exact this)
        have Hj:Hid (jF ((xs.map NP.m).take (k+1)) u.m=FV (ei ((xs.map NP.m).take (k+1)) u.m.ag) u.m):=Qh (by rw[jF,if_pos b]);unfold jN at l;simp only[List.map_take]at l;obtain⟨fo,xE⟩:∃fo,ei ((xs.map NP.m).take (k+1)) u.m.ag=fo:=⟨_,rfl⟩
        rw[xE]at l Hj;clear x0 x1 x4 x5 x6 x7 x8 b xE
        cases fo with
        |none=>
         have E:Hid (r=false):=Qh (by
          rw[←M.out];refine aG (k:=k) (by rw[Qi,J.out];exact N) ?_
          rw[aE,H.out,Hj.out,FV,Bool.and_false])
         go_wp2_with fail
         go_region_held_law (fun w'=>w'.cell? ⟨wr.heap.size,2,none⟩=some (.string (str u.m.ag))) ((refine QA.out _ ?_;first|with_reducible exact G.out|with_reducible exact G.out.alloc G.out.size _|with_reducible exact d.out _|with_reducible exact eC G.out (Qk _) _ _ _ _ _ _ _ _ _)) (first
          |(go_at_call 25
            refine(l.out _ ?_).mono ?_
            (with_reducible exact G.out)
            rintro e V ⟨y,he,hy,T,O⟩;unfold NP.cs gB at he;subst he;have M8:Hid (cY A y):=Qh (mA (fy.out.drop (show k+1≤n by omega)) T);have M9:=Qh hy;have G:=Qh (G.out.trans (O.mono G.out.size))
            clear O T hy)
          |(go_at_call 25
            refine(l.out _ ?_).mono ?_
            (with_reducible exact d.out _)
            rintro e V ⟨y,he,hy,T,O⟩;unfold NP.cs gB at he;subst he;have M8:Hid (cY A y):=Qh (mA (fy.out.drop (show k+1≤n by omega)) T);have M9:=Qh hy;have B:au V A.heap.size 52 aD.cs:=(au.new A _ aD.cs).drew.below O (by simp);have MB:=Qh B;have G:=Qh ((d.out _).trans (O.mono (d.out _).size));obtain⟨r0,r1,r2,r3,r4,r5,r6,r7,r8⟩:=bt B;simp only[Nat.zero_add]at r0 r1 r2 r3 r4 r5 r6 r7 r8;have f0:=B.frozen 0;have f1:=B.frozen 1;have f2:=B.frozen 2;have f3:=B.frozen 3;have f4:=B.frozen 4;have f5:=B.frozen 5;have f6:=B.frozen 6;have f7:=B.frozen 7;have f8:=B.frozen 8
            clear B O T hy))
         all_goals
          first
          |(have I:=Qh (eC G.out (Qk _) (.string (str y.m.path)) (.string (str y.m.target)) (.string (str y.m.ag)) (.int .u8 (y.m.kind.toNat:Int)) (.int .i64 y.m.mode) (.int .i64 y.m.uid) (.int .i64 y.m.gid) (.int .i64 y.m.time) (.slice y.p y.m.body.length y.c))
            clear MB;go_wp2;go_ret
            exact⟨by rw[E.out];rfl,D.out.trans (I.out.mono D.out.size)⟩)
          |(have I:Hid (Below A.heap.size A (V.alloc (.cells #[.string (str y.m.path),.string (str y.m.target),.string (str y.m.ag),.int .u8 (y.m.kind.toNat:Int),.int .i64 y.m.mode,.int .i64 y.m.uid,.int .i64 y.m.gid,.int .i64 y.m.time,.slice y.p y.m.body.length y.c] 52))):=Qh (G.out.alloc G.out.size _)
            go_wp2;go_ret
            exact⟨by rw[E.out];rfl,D.out.trans (I.out.mono D.out.size)⟩)
        |some z=>
         go_wp2_with fail
         go_region_held_law (fun w'=>w'.cell? ⟨wr.heap.size,2,none⟩=some (.string (str u.m.ag))) ((refine QA.out _ ?_;first|with_reducible exact G.out|with_reducible exact G.out.alloc G.out.size _|with_reducible exact d.out _|with_reducible exact eC G.out (Qk _) _ _ _ _ _ _ _ _ _)) (first
          |(go_at_call 25
            refine(l.out _ ?_).mono ?_
            (with_reducible exact G.out)
            rintro e V ⟨y,he,hy,T,O⟩;unfold NP.cs gB at he;subst he;have M8:Hid (cY A y):=Qh (mA (fy.out.drop (show k+1≤n by omega)) T);have M9:=Qh hy;have G:=Qh (G.out.trans (O.mono G.out.size))
            clear O T hy)
          |(go_at_call 25
            refine(l.out _ ?_).mono ?_
            (with_reducible exact d.out _)
            rintro e V ⟨y,he,hy,T,O⟩;unfold NP.cs gB at he;subst he;have M8:Hid (cY A y):=Qh (mA (fy.out.drop (show k+1≤n by omega)) T);have M9:=Qh hy;have B:au V A.heap.size 52 aD.cs:=(au.new A _ aD.cs).drew.below O (by simp);have MB:=Qh B;have G:=Qh ((d.out _).trans (O.mono (d.out _).size));obtain⟨r0,r1,r2,r3,r4,r5,r6,r7,r8⟩:=bt B;simp only[Nat.zero_add]at r0 r1 r2 r3 r4 r5 r6 r7 r8;have f0:=B.frozen 0;have f1:=B.frozen 1;have f2:=B.frozen 2;have f3:=B.frozen 3;have f4:=B.frozen 4;have f5:=B.frozen 5;have f6:=B.frozen 6;have f7:=B.frozen 7;have f8:=B.frozen 8
            clear B O T hy))
         all_goals
          first
          |(have MB2:=MB
            clear r0 r1 r2 r3 r4 r5 r6 r7 r8 f0 f1 f2 f3 f4 f5 f6 f7 f8;obtain⟨Wz,Y⟩:∃Wz,(((((((((V.setCell ⟨A.heap.size,0,none⟩ (.string (str y.m.path))).setCell ⟨A.heap.size,1,none⟩ (.string (str y.m.target))).setCell ⟨A.heap.size,2,none⟩ (.string (str y.m.ag))).setCell ⟨A.heap.size,3,none⟩ (.int .u8 (y.m.kind.toNat:Int))).setCell ⟨A.heap.size,4,none⟩ (.int .i64 y.m.mode)).setCell ⟨A.heap.size,5,none⟩ (.int .i64 y.m.uid)).setCell ⟨A.heap.size,6,none⟩ (.int .i64 y.m.gid)).setCell ⟨A.heap.size,7,none⟩ (.int .i64 y.m.time)).setCell ⟨A.heap.size,8,none⟩ (.slice y.p y.m.body.length y.c))=Wz:=⟨_,rfl⟩
            have hZ:au Wz A.heap.size 52 y.cs:=by rw[←Y];exact mZ MB.out (.string (str y.m.path)) (.string (str y.m.target)) (.string (str y.m.ag)) (.int .u8 (y.m.kind.toNat:Int)) (.int .i64 y.m.mode) (.int .i64 y.m.uid) (.int .i64 y.m.gid) (.int .i64 y.m.time) (.slice y.p y.m.body.length y.c)
            have U:Below A.heap.size A Wz:=by rw[←Y];exact eC G.out (Qk _) (.string (str y.m.path)) (.string (str y.m.target)) (.string (str y.m.ag)) (.int .u8 (y.m.kind.toNat:Int)) (.int .i64 y.m.mode) (.int .i64 y.m.uid) (.int .i64 y.m.gid) (.int .i64 y.m.time) (.slice y.p y.m.body.length y.c)
            rw[Y];clear Y;have I:=Qh U;obtain⟨y0,y1,y2,y3,y4,y5,y6,y7,y8⟩:=bt hZ;obtain⟨x0,x1,x2,x3,x4,x5,x6,x7,x8⟩:=bt (fX.out.below U fX.out.lt);simp only[Nat.zero_add,gV.out]at y0 y1 y2 y3 y4 y5 y6 y7 y8 x0 x1 x2 x3 x4 x5 x6 x7 x8;have v1:(convert 26 9 (.slice y.p y.m.body.length y.c)).run Tryz.prog Wz=.ok (.string (str y.m.body)) Wz:=cw (M8.out.below U).gC rfl _ _ _ Tryz.underlying26 Tryz.underlying5 Tryz.underlying9 _;have v2:(convert 26 9 (.slice u.p u.m.body.length u.c)).run Tryz.prog Wz=.ok (.string (str u.m.body)) Wz:=cw (bT.out.below U).gC rfl _ _ _ Tryz.underlying26 Tryz.underlying5 Tryz.underlying9 _;have Ic:=mj y.m.kind 48 48 rfl;obtain⟨ky,Iy⟩:∃k:Int,(y.m.kind.toNat:Int)=k:=⟨_,rfl⟩
            rw[Iy]at Ic y3;have e2:=jI y.m.ag y.m.path;have e4:=fun w=>uq y.m.mode y.m.uid y.m.gid y.m.time u.m.mode u.m.uid u.m.gid u.m.time w
            have e5:=jI y.m.body u.m.body
            have L:Hid (jF ((xs.map NP.m).take (k+1)) u.m=(decide (y.m.kind=48)&&(decide (y.m.ag=y.m.path)&&(decide (y.m.mode=u.m.mode∧y.m.uid=u.m.uid∧y.m.gid=u.m.gid∧y.m.time=u.m.time)&&decide (y.m.body=u.m.body))))):=Qh (by
             have B:z=y.m:=M9.out.symm
             rw[Hj.out,B];rfl)
            obtain⟨q1,f⟩:∃q,decide (y.m.kind=48)=q:=⟨_,rfl⟩
            obtain⟨q2,pU⟩:∃q,decide (y.m.ag=y.m.path)=q:=⟨_,rfl⟩
            obtain⟨q3,xu⟩:∃q,decide (y.m.mode=u.m.mode∧y.m.uid=u.m.uid∧y.m.gid=u.m.gid∧y.m.time=u.m.time)=q:=⟨_,rfl⟩
            obtain⟨q4,g⟩:∃q,decide (y.m.body=u.m.body)=q:=⟨_,rfl⟩
            rw[f]at Ic;rw[pU]at e2;simp only[xu]at e4;rw[g]at e5;rw[f,pU,xu,g]at L;clear f pU xu g hZ U Iy
            cases q1 with
            |false=>
             have E:Hid (r=false):=Qh (by
              rw[←M.out];refine aG (k:=k) (by rw[Qi,J.out];exact N) ?_
              rw[aE,H.out,L.out];simp)
             go_wp2;go_ret;exact⟨by rw[E.out];rfl,D.out.trans (I.out.mono D.out.size)⟩
            |true=>
             cases q2 with
             |false=>
              have E:Hid (r=false):=Qh (by
               rw[←M.out];refine aG (k:=k) (by rw[Qi,J.out];exact N) ?_
               rw[aE,H.out,L.out];simp)
              go_wp2;go_ret;exact⟨by rw[E.out];rfl,D.out.trans (I.out.mono D.out.size)⟩
             |true=>
              cases q3 with
              |false=>
               have E:Hid (r=false):=Qh (by
                rw[←M.out];refine aG (k:=k) (by rw[Qi,J.out];exact N) ?_
                rw[aE,H.out,L.out];simp)
               go_wp2;go_ret;exact⟨by rw[E.out];rfl,D.out.trans (I.out.mono D.out.size)⟩
              |true=>
               cases q4 with
               |false=>
                have E:Hid (r=false):=Qh (by
                 rw[←M.out];refine aG (k:=k) (by rw[Qi,J.out];exact N) ?_
                 rw[aE,H.out,L.out];simp)
                go_wp2;go_ret;exact⟨by rw[E.out];rfl,D.out.trans (I.out.mono D.out.size)⟩
               |true=>
                have pY:Hid (∀j,j<k+1→fk (xs.map NP.m) j=true):=Qh (fun j Z=>by
                 rcases Nat.lt_succ_iff_lt_or_eq.1 Z with h|rfl
                 ·exact hG.out j h
                 ·rw[aE,sx.out,H.out,L.out];rfl)
                have Uw:=Qh (D.out.trans (I.out.mono D.out.size));go_wp2;go_roundw
                case rel=>exact⟨k+1,by omega,by go_num,pY,Uw⟩
                case measure=>simp[RowKit.intOf];omega)
          |(obtain⟨Wz,Y⟩:∃Wz,V.alloc (.cells #[.string (str y.m.path),.string (str y.m.target),.string (str y.m.ag),.int .u8 (y.m.kind.toNat:Int),.int .i64 y.m.mode,.int .i64 y.m.uid,.int .i64 y.m.gid,.int .i64 y.m.time,.slice y.p y.m.body.length y.c] 52)=Wz:=⟨_,rfl⟩
            have hZ:au Wz V.heap.size 52 y.cs:=by rw[←Y];exact au.new V _ _
            have U:Below A.heap.size A Wz:=by rw[←Y];exact G.out.alloc G.out.size _
            rw[Y];clear Y;have I:=Qh U;obtain⟨y0,y1,y2,y3,y4,y5,y6,y7,y8⟩:=bt hZ;obtain⟨x0,x1,x2,x3,x4,x5,x6,x7,x8⟩:=bt (fX.out.below U fX.out.lt);simp only[Nat.zero_add,gV.out]at y0 y1 y2 y3 y4 y5 y6 y7 y8 x0 x1 x2 x3 x4 x5 x6 x7 x8;have v1:(convert 26 9 (.slice y.p y.m.body.length y.c)).run Tryz.prog Wz=.ok (.string (str y.m.body)) Wz:=cw (M8.out.below U).gC rfl _ _ _ Tryz.underlying26 Tryz.underlying5 Tryz.underlying9 _;have v2:(convert 26 9 (.slice u.p u.m.body.length u.c)).run Tryz.prog Wz=.ok (.string (str u.m.body)) Wz:=cw (bT.out.below U).gC rfl _ _ _ Tryz.underlying26 Tryz.underlying5 Tryz.underlying9 _;have Ic:=mj y.m.kind 48 48 rfl;obtain⟨ky,Iy⟩:∃k:Int,(y.m.kind.toNat:Int)=k:=⟨_,rfl⟩
            rw[Iy]at Ic y3;have e2:=jI y.m.ag y.m.path;have e4:=fun w=>uq y.m.mode y.m.uid y.m.gid y.m.time u.m.mode u.m.uid u.m.gid u.m.time w
            have e5:=jI y.m.body u.m.body
            have L:Hid (jF ((xs.map NP.m).take (k+1)) u.m=(decide (y.m.kind=48)&&(decide (y.m.ag=y.m.path)&&(decide (y.m.mode=u.m.mode∧y.m.uid=u.m.uid∧y.m.gid=u.m.gid∧y.m.time=u.m.time)&&decide (y.m.body=u.m.body))))):=Qh (by
             have B:z=y.m:=M9.out.symm
             rw[Hj.out,B];rfl)
            obtain⟨q1,f⟩:∃q,decide (y.m.kind=48)=q:=⟨_,rfl⟩
            obtain⟨q2,pU⟩:∃q,decide (y.m.ag=y.m.path)=q:=⟨_,rfl⟩
            obtain⟨q3,xu⟩:∃q,decide (y.m.mode=u.m.mode∧y.m.uid=u.m.uid∧y.m.gid=u.m.gid∧y.m.time=u.m.time)=q:=⟨_,rfl⟩
            obtain⟨q4,g⟩:∃q,decide (y.m.body=u.m.body)=q:=⟨_,rfl⟩
            rw[f]at Ic;rw[pU]at e2;simp only[xu]at e4;rw[g]at e5;rw[f,pU,xu,g]at L;clear f pU xu g hZ U Iy
            cases q1 with
            |false=>
             have E:Hid (r=false):=Qh (by
              rw[←M.out];refine aG (k:=k) (by rw[Qi,J.out];exact N) ?_
              rw[aE,H.out,L.out];simp)
             go_wp2;go_ret;exact⟨by rw[E.out];rfl,D.out.trans (I.out.mono D.out.size)⟩
            |true=>
             cases q2 with
             |false=>
              have E:Hid (r=false):=Qh (by
               rw[←M.out];refine aG (k:=k) (by rw[Qi,J.out];exact N) ?_
               rw[aE,H.out,L.out];simp)
              go_wp2;go_ret;exact⟨by rw[E.out];rfl,D.out.trans (I.out.mono D.out.size)⟩
             |true=>
              cases q3 with
              |false=>
               have E:Hid (r=false):=Qh (by
                rw[←M.out];refine aG (k:=k) (by rw[Qi,J.out];exact N) ?_
                rw[aE,H.out,L.out];simp)
               go_wp2;go_ret;exact⟨by rw[E.out];rfl,D.out.trans (I.out.mono D.out.size)⟩
              |true=>
               cases q4 with
               |false=>
                have E:Hid (r=false):=Qh (by
                 rw[←M.out];refine aG (k:=k) (by rw[Qi,J.out];exact N) ?_
                 rw[aE,H.out,L.out];simp)
                go_wp2;go_ret;exact⟨by rw[E.out];rfl,D.out.trans (I.out.mono D.out.size)⟩
               |true=>
                have pY:Hid (∀j,j<k+1→fk (xs.map NP.m) j=true):=Qh (fun j Z=>by
                 rcases Nat.lt_succ_iff_lt_or_eq.1 Z with h|rfl
                 ·exact hG.out j h
                 ·rw[aE,sx.out,H.out,L.out];rfl)
                have Uw:=Qh (D.out.trans (I.out.mono D.out.size));go_wp2;go_roundw
                case rel=>exact⟨k+1,by omega,by go_num,pY,Uw⟩
                case measure=>simp[RowKit.intOf];omega)
       ·rw[decide_eq_false b,Bool.not_false]at Ys
        have e2:=bk u.m.ag
        by_cases hle:u.m.ag=[]
        ·rw[decide_eq_true hle]at e2
         have pY:Hid (∀j,j<k+1→fk (xs.map NP.m) j=true):=Qh (fun j Z=>by
          rcases Nat.lt_succ_iff_lt_or_eq.1 Z with h|rfl
          ·exact hG.out j h
          ·rw[aE,sx.out,H.out,jF,if_neg b,decide_eq_true hle];rfl)
         clear b hle;go_wp2;go_roundw
         case rel=>exact⟨k+1,by omega,by go_num,pY,D⟩
         case measure=>simp[RowKit.intOf];omega
        ·rw[decide_eq_false hle]at e2
         have E:Hid (r=false):=Qh (by
          rw[←M.out];refine aG (k:=k) (by rw[Qi,J.out];exact N) ?_
          rw[aE,sx.out,H.out,jF,if_neg b,decide_eq_false hle];rfl)
         clear b hle;go_wp2;go_ret;exact⟨by rw[E.out];rfl,D.out⟩
  ·have lP:¬((k:Int)<(n:Int)):=by omega
   have H0:Hid (∀j,j<xs.length→fk (xs.map NP.m) j=true):=Qh (fun j Z=>hG.out j (by rw[J.out]at Z;omega))
   by_cases N7:n≤4096
   ·have E:Hid (r=true):=Qh (by
     rw[←M.out]
     exact vr (by rw[Qi,J.out];exact N7) (fun j Z=>H0.out j (by rw[Qi]at Z;exact Z)))
    have QK:(n:Int)≤4096:=by omega
    go_wp2;go_ret;exact⟨by rw[E.out];rfl,hB.out⟩
   ·have E:Hid (r=false):=Qh (by
     rw[←M.out];unfold cG
     rw[Qi,J.out,decide_eq_false N7,Bool.false_and])
    have QK:¬(n:Int)≤4096:=by omega
    have uf:decide ((n:Int)≤4096)=false:=decide_eq_false QK;go_wp2;go_ret;exact⟨by rw[E.out];rfl,hB.out⟩
end Tre
end Go.Proofs.YtdhibldkldlfpaaGreatDoor
