/- Merged. -/
import Derived.Test.YtdhibldkldlfpaaGreatDoorEmitPacksX33
import Derived.Test.YtdhibldkldlfpaaGreatDoorEmitPacksX18
namespace Go.Proofs.YtdhibldkldlfpaaGreatDoor
set_option linter.unusedVariables false
set_option maxHeartbeats 4000000
set_option maxRecDepth 100000
open Go.ChangeShapes Go.WideShapes Go.ChangeAt Go.RowKit Base cf cN Bk Rec Go.Lib
variable {B g j c' n':Nat} {q':Option Addr} {w w':World}
namespace Wr
open Hp Head Attr Mem Block
structure yc (w:World) (g:Nat) (xs:List MP) (j:Nat) (wr:World):Prop where
 tx:∃v,tX wr g w.heap.size v (bE ((xs.take j).map MP.m))
 bel:Below w.heap.size w wr
theorem yc.below {wr:World} {xs:List MP} (h:yc w g xs j wr) (hb:Below wr.heap.size wr w'):yc w g xs j w':=by
 obtain⟨v,A⟩:=h.tx;exact⟨⟨v,A.kept (Kept.aO hb ai) id (fun _ _=>id)⟩,h.bel.trans (hb.mono h.bel.size)⟩
theorem Mx (p:Option Addr) (n c:Nat) (xs:List MP) (w:World) (h:dD w p n xs) (hn:n≤4096) (hA:∀x∈xs,bZ x.m=true) (hN:Need w):
 Calls Tryz.prog 23 #[.slice p n c] w (yd w (sC (xs.map MP.m))):=by
 have M:∀x∈xs,dz x.m:=fun x A=>ga (hA x A)
 have Z:=jC p n c xs w h (by omega) (fun x A=>⟨by have:=(M x A).wJ;omega,by have:=(M x A).DL;omega⟩) hN;rw[uK.2 hA]at Z
 have hlen:∀j,(bE ((xs.take j).map MP.m)).length≤12288000000:=fun j=>by
  have:=nJ ((xs.take j).map MP.m) (fun m hm=>by
   obtain⟨x,A,rfl⟩:=List.mem_map.1 hm
   exact M x (List.mem_of_mem_take A))
  rw[Qi,Qg]at this;have h1:=h.1;omega
 have hm:¬(4096:Int)<(n:Int):=by omega
 have HC:=Qh Z;have z:=Qh h;have u:=Qh h.1;have UA:=Qh M;have fb:=Qh hlen;have HN:=Qh hN;clear h hA hN Z M hlen
 go_enter Tryz.func23,Tryz.ntmps23
 go_wp2_with fail
 refine HC.out.mono ?_;rintro e E ⟨rfl,ck⟩;have X:=Qh ck;clear ck;go_wp2_with fail;obtain⟨w2,N⟩:∃w2,E.alloc (.cells #[.slice none 0 0] 105)=w2:=⟨_,rfl⟩
 have yJ:tX w2 E.heap.size w.heap.size (.slice none 0 0) []:=by rw[←N];exact P3 E _
 have YN:Below E.heap.size E w2:=by rw[←N];exact(Below.refl _ _).alloc (Qk _) _
 have XW:Hid (yc w E.heap.size xs 0 w2):=Qh ⟨⟨_,by simpa [bE]using yJ⟩,X.out.trans (YN.mono X.out.size)⟩;have l:Hid (w.heap.size≤E.heap.size):=Qh X.out.size;obtain⟨g,hg⟩:∃g,E.heap.size=g:=⟨_,rfl⟩
 rw[hg]at XW l⊢;rw[N];clear yJ YN N hg
 go_loopw [6,15] (fun _ i wr=>∃(j:Nat),j≤n∧i=.int .i64 (j:Int)∧Hid (yc w g xs j wr)) (fun _ i _=>n - (RowKit.intOf i).toNat)
 case atStart=>exact⟨0,Nat.zero_le _,rfl,XW⟩
 case round=>
  obtain⟨j,hj,rfl,I⟩:=hrel
  by_cases V:j<n
  ·have R:j<xs.length:=by rw[u.out];exact V
   have U:=UA.out _ (lA xs j R);have d:=pO xs j R;obtain⟨b,o,rfl,hb,q,c0,c1,c2,c3,c4,c5,c6,c7⟩:=(z.out.below I.out.bel).cells V
   have t:∀x,0<(xs.getD j cn).m.body.length→(xs.getD j cn).p=some x→x.block<w.heap.size:=fun x Y A=>by
    obtain⟨b',o',he,kX,_⟩:=(z.out.cells V).choose_spec.choose_spec.2.2.1.gC.cell Y;rw[A]at he
    cases he
    exact kX
   obtain⟨y,hy⟩:∃y,xs.getD j cn=y:=⟨_,rfl⟩
   rw[hy]at d U q c0 c1 c2 c3 c4 c5 c6 c7 t;rw[Nat.mul_comm]at c0 c1 c2 c3 c4 c5 c6 c7;obtain⟨W,f⟩:∃W,wr.alloc (.cells #[.string (str y.m.path),.string (str y.m.target),.int .u8 (y.m.kind.toNat:Int),.int .i64 y.m.mode,.int .i64 y.m.uid,.int .i64 y.m.gid,.int .i64 y.m.time,.slice y.p y.m.body.length y.c] 48)=W:=⟨_,rfl⟩
   have H:Below wr.heap.size wr W:=by rw[←f];exact(Below.refl _ _).alloc (Qk _) _
   have L:=I.out.below H;obtain⟨v,D⟩:=L.tx
   have G:=Ar W g w.heap.size v _ D L.bel.size y.m y.p y.c U (q.gC.below H) (fun Y x A e=>by
    have h1:=t x Y A;have h2:=(D.own.lt _ e).1
    omega) (by have:=fb.out j;omega) (HN.out.below L.bel)
   unfold dj at G;have WY:=Qh G;have HT:=Qh d;have B:=Qh f;have J:=Qh L;have O:=Qh D;have j5:(j:Int)<(n:Int):=by omega
   clear d hb hy G R f H L D t q U;go_upto_region 9 with fail;rw[B.out];have m0:W.cell? ⟨wr.heap.size,0,none⟩=some (.string (str y.m.path)):=by rw[←B.out];exact(au.new wr _ _).cell 0
   have m1:W.cell? ⟨wr.heap.size,1,none⟩=some (.string (str y.m.target)):=by rw[←B.out];exact(au.new wr _ _).cell 1
   have m2:W.cell? ⟨wr.heap.size,2,none⟩=some (.int .u8 (y.m.kind.toNat:Int)):=by rw[←B.out];exact(au.new wr _ _).cell 2
   have m3:W.cell? ⟨wr.heap.size,3,none⟩=some (.int .i64 y.m.mode):=by rw[←B.out];exact(au.new wr _ _).cell 3
   have m4:W.cell? ⟨wr.heap.size,4,none⟩=some (.int .i64 y.m.uid):=by rw[←B.out];exact(au.new wr _ _).cell 4
   have m5:W.cell? ⟨wr.heap.size,5,none⟩=some (.int .i64 y.m.gid):=by rw[←B.out];exact(au.new wr _ _).cell 5
   have m6:W.cell? ⟨wr.heap.size,6,none⟩=some (.int .i64 y.m.time):=by rw[←B.out];exact(au.new wr _ _).cell 6
   have m7:W.cell? ⟨wr.heap.size,7,none⟩=some (.slice y.p y.m.body.length y.c):=by rw[←B.out];exact(au.new wr _ _).cell 7
   go_wp2_with fail
   refine WY.out.mono ?_;rintro e w3 ⟨v3,rfl,xJ,dt,QP⟩
   have ye:Hid (yc w g xs (j+1) w3):=Qh ⟨⟨v3,by
    have e:bE ((xs.take (j+1)).map MP.m)=bE ((xs.take j).map MP.m)++fu y.m:=by
     rw[HT.out,th,fK];simp[bE]
    rw[e]
    exact xJ⟩,J.out.bel.trans (dt.below J.out.bel.size (fun k hk=>by
     rcases hk with hk|hk
     ·rw[hk];exact l.out
     ·exact(O.out.own.lt _ hk).1))⟩
   clear xJ dt QP m0 m1 m2 m3 m4 m5 m6 m7 c0 c1 c2 c3 c4 c5 c6 c7;go_wp2;go_roundw
   case rel=>exact⟨j+1,by omega,by go_num,ye⟩
   case measure=>simp[RowKit.intOf];omega
  ·have lP:¬((j:Int)<(n:Int)):=by omega
   have e:xs.take j=xs:=List.take_of_length_le (by rw[u.out];omega);obtain⟨v,D⟩:=I.out.tx;have hl:=fb.out j;rw[e]at D hl;have HE:=Qh (zR wr g w.heap.size v _ D I.out.bel.size (by omega));have O:=Qh D;have zF:=Qh hl;clear D hl e;go_wp2_with fail;refine HE.out.mono ?_;rintro e w4 ⟨v4,rfl,T,kY,_⟩;rw[←lr]at T
   have r:Hid (Below w.heap.size w w4):=Qh (I.out.bel.trans (kY.below I.out.bel.size (fun k hk=>by
    rcases hk with hk|hk
    ·rw[hk];exact l.out
    ·exact(O.out.own.lt _ hk).1)))
   have HO:=Qh (SU w4 g w.heap.size v4 _ T (by rw[lr,Qf,List.length_replicate];have:=zF.out;omega));clear T kY;go_wp2_with fail;refine HO.out.mono ?_;rintro e w5 ⟨v5,rfl,VY,fS⟩;have DV:Hid (cR w5 w.heap.size v5 (sC (xs.map MP.m)).length (sC (xs.map MP.m))∧Below w.heap.size w w5):=Qh ⟨VY.mono r.out.size,r.out.trans (fS.below r.out.size (fun _ h=>h.elim))⟩;clear VY fS;go_wp2;go_ret2;exact⟨v5,rfl,DV.out⟩
end Wr
namespace Attr
open Go.Shelf
attribute [local go_sem] Oper.semAt_some
abbrev U2:=Nat × (List UInt8 × List UInt8)
def encI (x:U2):Array Value:=#[.int .i64 (x.1:Int),.agg #[.string (str x.2.1),.string (str x.2.2)]]
def dx (rs:cH) (m:Nat):List U2:=(List.range m).map fun t=>(rs.length - 1 - t,rs.getD (rs.length - 1 - t) ([],[]))
theorem BV (rs:cH) (m:Nat):dx rs (m+1)=dx rs m++[(rs.length - 1 - m,rs.getD (rs.length - 1 - m) ([],[]))]:=by simp[dx,List.range_succ]
theorem xA (rs:cH) (m:Nat):(dx rs m).length=m:=by simp[dx]
theorem uM (rs:cH):(dx rs rs.length).map (·.2)=rs.reverse:=by
 apply List.ext_getElem
 ·simp[dx]
 ·intro i h1 A
  have hi:i<rs.length:=by simpa using A
  simp[dx,List.getD,show rs.length - 1 - i<rs.length by omega]
theorem EK (rs:cH) (m:Nat) (hm:m≤rs.length):dx rs m<+:dx rs rs.length:=by
 refine⟨(dx rs rs.length).drop m,?_⟩
 have:dx rs m=(dx rs rs.length).take m:=by
  simp[dx,←List.map_take,List.take_range,Nat.min_eq_left hm]
 rw[this,List.take_append_drop]
theorem RC (F:Fence) (n:Nat) (hF:F=Fence.wide) (hn:1≤n) (l Bs n₀:Nat) (p:Option Addr) (c:Nat) (rs:cH) (FE:rs.length≤4611686018427387904) (J Jx:List U2→World→Prop)
 (hY:∀pre x W,J pre W→pre.length<rs.length→YieldAt F (n - 1) Tryz.prog l (encI x) W fun e W'=>
  (e=.returned (.bool true)∧J (pre++[x]) W'∧Below n₀ W W')∨(e=.returned (.bool false)∧Jx (pre++[x]) W'))
 (W:World) (Vo:Bs<n₀) (Yw:W.cell? ⟨Bs,0,none⟩=some (.slice p rs.length c))
 (hR:0<rs.length→∃b o,p=some ⟨b,o,none⟩∧b<n₀∧∀i,i<rs.length→W.cell? ⟨b,o+2*i,none⟩=some (.string (str (rs.getD i ([],[])).1))∧W.cell? ⟨b,o+2*i+1,none⟩=some (.string (str (rs.getD i ([],[])).2))) (h0:J [] W):
 CallsIn F n Tryz.prog 229 #[.func (.yield l) #[] #[],.pointer (some ⟨Bs,0,none⟩)] W fun e W'=>(∃v,e=.returned v)∧
  ((∃ys,ys=dx rs rs.length∧J ys W')∨(∃pre,pre<+:dx rs rs.length∧Jx pre W')):=by
 subst hF;obtain⟨N,L⟩:∃N,rs.length=N:=⟨_,rfl⟩
 rw[L]at Yw FE;refine callsIn_of_wp Tryz.func229 rfl trivial ?_ rfl;simp only[Tryz.ntmps229,List.size_toArray,List.length_cons,List.length_nil,Nat.reduceAdd,Nat.reduceSub,Array.replicate_succ,Array.replicate_zero,List.push_toArray,List.append_toArray,List.nil_append,List.cons_append]
 gi_wp2
 gi_loopw [3] (fun i wr=>∃k:Nat,k≤N∧i=.int .i64 ((k:Int) - 1)∧J (dx rs (N - k)) wr∧Below n₀ W wr)
  (fun i _=>(RowKit.intOf i+1).toNat)
 case atStart=>exact⟨N,Qk _,rfl,by rw[Nat.sub_self];exact h0,Below.refl _ _⟩
 case round=>
  obtain⟨k,hk,rfl,B,A⟩:=hrel
  cases k with
  |zero=>
   have D:J (dx rs rs.length) wr:=by rw[L];exact B
   clear B hY
   gi_wp2
   go_end0
   exact⟨⟨_,rfl⟩,.inl ⟨_,rfl,D⟩⟩
  |succ j=>
   rw[show(((j+1:Nat):Int) - 1)=(j:Int) by omega];obtain⟨b,o,rfl,M,hc⟩:=hR (by omega);obtain⟨c0,c1⟩:=hc j (by omega);have U:=(A.cell (p:=⟨Bs,0,none⟩) Vo).trans Yw;have d0:=(A.cell (p:=⟨b,o+2*j,none⟩) M).trans c0;have d1:=(A.cell (p:=⟨b,o+2*j+1,none⟩) M).trans c1;rw[Nat.mul_comm]at d0 d1;obtain⟨r,G⟩:∃r,rs.getD j ([],[])=r:=⟨_,rfl⟩
   rw[G]at d0 d1
   have hs:dx rs (N - j)=dx rs (N - (j+1))++[(j,r)]:=by
    have:N - j=N - (j+1)+1:=by omega
    rw[this,BV,show rs.length - 1 - (N - (j+1))=j by omega,G]
   obtain⟨fn,tmps,assign,body,hy,I⟩:=hY (dx rs (N - (j+1))) (j,r) wr B (by rw[xA];omega);simp only[encI]at hy;have V:=Qh hs;have H:=EK rs (N - j) (by omega);have O:=Qh H;rw[←hs]at I;clear hs hY hR B c0 c1 hc H Yw G
   gi_wp2
   refine I.mono ?_;rintro e X (⟨rfl,E,T⟩|⟨rfl,R⟩)
   ·gi_wp2
    go_roundw
    case rel=>exact⟨j,by omega,rfl,E,A.trans T⟩
    case measure=>simp[RowKit.intOf]
   ·gi_wp2
    refine bodyPost_ret (results_none rfl _ _ _) rfl ?_;exact⟨⟨_,rfl⟩,.inr ⟨_,O.out,R⟩⟩
theorem EL (n:Nat) (hn:1≤n) (Bs:Nat) (p:Option Addr) (c:Nat) (rs:cH) (FE:rs.length≤4611686018427387904) (w:World) (Vo:Bs<w.heap.size) (hc:w.cell? ⟨Bs,0,none⟩=some (.slice p rs.length c)) (hR:cM w p rs.length rs):
 SeqStopsK Fence.wide n Tryz.prog 229 #[.pointer (some ⟨Bs,0,none⟩)] encI (Below w.heap.size) (fun ys=>ys=dx rs rs.length) (fun pre=>pre<+:dx rs rs.length) rs.length w:=fun l J E W B _ _ G A=>
 RC Fence.wide n rfl hn l Bs w.heap.size p c rs FE J E G W Vo ((B.cell (p:=⟨Bs,0,none⟩) Vo).trans hc)
  (fun A=>by
   obtain⟨b,o,H,D,hc⟩:=hR.2 A
   exact⟨b,o,H,D,fun i hi=>⟨(B.cell (p:=⟨b,o+2*i,none⟩) D).trans (hc i hi).1,(B.cell (p:=⟨b,o+2*i+1,none⟩) D).trans (hc i hi).2⟩⟩) A
theorem zL (p:Option Addr) (n c:Nat) (w:World):
 Calls Tryz.prog 209 #[.slice p n c] w fun e w'=>e=.returned (.func (.func 229) #[] #[.pointer (some ⟨w.heap.size,0,none⟩)])∧w'=w.alloc (.cells #[.slice p n c] 64):=by
 go_enter Tryz.func209,Tryz.ntmps209
 go_wp2;go_ret;exact⟨rfl,rfl⟩
end Attr
namespace Attr
open Go.Shelf
attribute [local go_sem] Oper.semAt_some
def recC (k v:List UInt8):Array Value:=#[.string (str k),.string (str v)]
def qA (rs:cH) (k:List UInt8):Value:=match aL rs k with
 |some v=>.tuple #[.agg (recC k v),.bool true]
 |none=>.tuple #[.agg (recC [] []),.bool false]
theorem K1 {rs pre:cH} {x:List UInt8 × List UInt8} {rest:cH} {k:List UInt8} (h:rs.reverse=pre++x::rest) (hp:∀r∈pre,r.1≠k) (hx:x.1=k):aL rs k=some x.2:=by
 have e:rs=rest.reverse++x::pre.reverse:=by
  have:=congrArg List.reverse h;rw[List.reverse_reverse,List.reverse_append,List.reverse_cons,List.append_assoc]at this;exact this
 rw[e,oz,aL,vM (rs:=pre.reverse) fun r A=>hp r (List.mem_reverse.1 A)];simp[hx]
theorem Jb (tmps:Array Value) (w:World) (b0 b1:Nat) (a b:ByteArray) (o:Bool) (h0:tmps[4]? =some (.pointer (some ⟨b0,0,none⟩))) (h1:tmps[5]? =some (.pointer (some ⟨b1,0,none⟩)))
 (c0:au w b0 121 #[.string a,.string b]) (c1:au w b1 4 #[.bool o]):
 (results Tryz.f182 tmps).run Tryz.prog w=.ok (.tuple #[.agg #[.string a,.string b],.bool o]) w:=by
 have d0:=c0.cell 0;have d1:=c0.cell 1;have d2:=c1.cell 0;simp at d0 d1 d2;simp[results,Tryz.f182,go_sem,h0,h1,d0,d1,d2]
theorem OU (k:List UInt8) (p:Option Addr) (n c:Nat) (rs:cH) (w:World) (hn:n≤4611686018427387904) (h:cM w p n rs):
 Calls Tryz.prog 182 #[.string (str k),.slice p n c] w fun e w'=>e=.returned (qA rs k)∧Below w.heap.size w w':=by
 obtain rfl:rs.length=n:=h.1;have H:=Qh h;clear h;refine(callsIn_wide (n:=3)).1 ?_;refine callsIn_of_wp_marks Tryz.func182 rfl trivial ?_ rfl;simp only[Tryz.ntmps182,List.size_toArray,List.length_cons,List.length_nil,Nat.reduceAdd,Nat.reduceSub,Array.replicate_succ,Array.replicate_zero,List.push_toArray,List.append_toArray,List.nil_append,List.cons_append]
 gi_wp2_with fail
 refine⟨trivial,(callsIn_wide.2 (zL _ _ _ _)).mono ?_⟩;rintro e w' ⟨rfl,rfl⟩
 gi_wp2_with fail
 have m:au _ w.heap.size 9 #[.string (str k)]:=(((au.new w 9 #[.string (str k)]).alloc (.cells #[.string ⟨#[]⟩,.string ⟨#[]⟩] 121)).alloc (.cells #[.bool false] 4)).alloc (.cells #[.slice p rs.length c] 64);have b:=((au.new (w.alloc (.cells #[.string (str k)] 9)) 121 #[.string ⟨#[]⟩,.string ⟨#[]⟩]).alloc (.cells #[.bool false] 4)).alloc (.cells #[.slice p rs.length c] 64);have Z:=(au.new ((w.alloc (.cells #[.string (str k)] 9)).alloc (.cells #[.string ⟨#[]⟩,.string ⟨#[]⟩] 121)) 4 #[.bool false]).alloc (.cells #[.slice p rs.length c] 64);have d:=au.new (((w.alloc (.cells #[.string (str k)] 9)).alloc (.cells #[.string ⟨#[]⟩,.string ⟨#[]⟩] 121)).alloc (.cells #[.bool false] 4)) 64 #[.slice p rs.length c]
 have q:Below w.heap.size w ((((w.alloc (.cells #[.string (str k)] 9)).alloc (.cells #[.string ⟨#[]⟩,.string ⟨#[]⟩] 121)).alloc (.cells #[.bool false] 4)).alloc (.cells #[.slice p rs.length c] 64)):=
  ((((Below.refl _ w).alloc (Qk _) _).alloc (by simp) _).alloc (by simp;omega) _).alloc (by simp;omega) _
 have o:((((w.alloc (.cells #[.string (str k)] 9)).alloc (.cells #[.string ⟨#[]⟩,.string ⟨#[]⟩] 121)).alloc (.cells #[.bool false] 4)).alloc (.cells #[.slice p rs.length c] 64)).heap.size=w.heap.size+4:=by simp
 simp only[World.size_alloc]at b Z d;obtain⟨W0,vw⟩:∃W0,(((w.alloc (.cells #[.string (str k)] 9)).alloc (.cells #[.string ⟨#[]⟩,.string ⟨#[]⟩] 121)).alloc (.cells #[.bool false] 4)).alloc (.cells #[.slice p rs.length c] 64)=W0:=⟨_,rfl⟩
 rw[vw]at m b Z d q o⊢;clear vw;have z:=Qh o;have iU:=Qh q;have O:=H.out.below q
 refine wpIn_rangeFunc_ownH rfl (by omega) (gf:=229) (lb:=#[.pointer (some ⟨w.heap.size+1+1+1,0,none⟩)]) rfl trivial (enters_of Tryz.func229 (by kernel_rfl) rfl)
  (EL _ (by omega) (w.heap.size+1+1+1) p c rs hn W0 (by omega) (d.cell 0) O) belowK_t (belowK_b (Qk _)) (Below.refl _ _) (fun _=>rfl)
  (fun pre W=>(au W w.heap.size 9 #[.string (str k)]∧au W (w.heap.size+1) 121 #[.string ⟨#[]⟩,.string ⟨#[]⟩]∧au W (w.heap.size+1+1) 4 #[.bool false]∧∀x∈pre,x.2.1≠k)∧Below W0.heap.size W0 W)
  (fun c pre W=>(c=.ret∧∃g x,pre=g++[x]∧(∀y∈g,y.2.1≠k)∧x.2.1=k∧au W (w.heap.size+1) 121 #[.string (str x.2.1),.string (str x.2.2)]∧au W (w.heap.size+1+1) 4 #[.bool true])∧Below w.heap.size w W)
  (OwnFrom.and (Own.from (fun s A B row hs T M=>⟨hs.1.kept T M,hs.2.1.kept T M,hs.2.2.1.kept T M,hs.2.2.2⟩) _) (ownFrom_below (Qk _) (Qk _)))
  (fun c=>OwnFrom.and (Own.from (fun s A B row hs T M=>by obtain⟨h0,g,x,h1,f,h3,h4,h5⟩:=hs;exact⟨h0,g,x,h1,f,h3,h4.kept T M,h5.kept T M⟩) _) (ownFrom_below (Qk _) (by omega)))
  ⟨⟨m,b,Z,by simp⟩,Below.refl _ _⟩
  (fun x a' W=>∃V,W0.heap.size≤V∧au W V 121 #[.string (str x.2.1),.string (str x.2.2)]∧a'={tmps:=#[.string (str k),.slice p rs.length c,.pointer (some ⟨w.heap.size,0,none⟩),undef,.pointer (some ⟨w.heap.size+1,0,none⟩),.pointer (some ⟨w.heap.size+1+1,0,none⟩),undef,.pointer (some ⟨V,0,none⟩),.slice p rs.length c,.func (.func 229) #[] #[.pointer (some ⟨w.heap.size+1+1+1,0,none⟩)],.int .i64 (x.1:Int),.agg #[.string (str x.2.1),.string (str x.2.2)],undef,undef,undef,undef,undef,undef],defers:=[]})
  (fun x a' _ X Y row hs T M=>by obtain⟨V,h1,f,h3⟩:=hs;exact⟨V,h1,f.kept T (fun r e=>(M r e).2),h3⟩)
  ?assign ?body ?done ?stop
 case assign=>
  rintro l pre x W K ⟨⟨L,E,G,J⟩,I⟩ R;have hs:=I.size;have HKP:=Qh R;have N:=Qh (And.intro (And.intro L (And.intro E (And.intro G J))) I);clear R L E G J I;simp only[encI]
  gi_wp2
  obtain⟨⟨L,E,G,J⟩,I⟩:=N.out;exact HKP.out _ _ ((KeepsOthers.alloc _ _).from _) ((Below.refl _ W).alloc hs _) ⟨⟨L.alloc _,E.alloc _,G.alloc _,J⟩,I.alloc hs _⟩ ⟨W.heap.size,hs,au.new _ _ _,rfl⟩
 case body=>
  rintro l pre x a' W hl M ⟨⟨L,E,G,J⟩,I⟩ ⟨V,hBx,t,rfl⟩ ao;have hs:=I.size;have c0:=L.cell 0;have d0:=t.cell 0;have d1:=t.cell 1;simp only[Qc,Qa,Qb]at c0 d0 d1
  by_cases hk:x.2.1=k
  ·have e1:((str x.2.1).toList==(str k).toList)=true:=by rw[av,av];simpa using hk
   have f0:=E.frozen 0;have f1:=E.frozen 1;have r0:=E.cell 0;have r1:=E.cell 1;have f2:=G.frozen 0;have r2:=G.cell 0;simp only[Qc,Qa,Qb]at r0 r1 r2;have N:=Qh (And.intro (And.intro L (And.intro E (And.intro G J))) I);have U:=Qh hk;clear hk L E G J I t O m b Z d q
   gi_wp2
   obtain⟨⟨L,E,G,J⟩,I⟩:=N.out;have Il:Below w.heap.size w W:=iU.out.trans (I.mono (by have:=z.out;omega))
   exact⟨(((KeepsOthers.setCell _ _ _).trans (KeepsOthers.setCell _ _ _)).trans (KeepsOthers.setCell _ _ _)).from _,
    ⟨rfl,pre,x,rfl,J,U.out,((E.set 0 _ (by decide)).set 1 _ (by simp)).other (by omega) _,((G.other (by omega) _).other (by omega) _).set 0 _ (by decide)⟩,
    ((Il.setCell (p:=⟨w.heap.size+1,0,none⟩) (by simp) _).setCell (p:=⟨w.heap.size+1,1,none⟩) (by simp) _).setCell (p:=⟨w.heap.size+1+1,0,none⟩) (by simp;omega) _⟩
  ·have e1:((str x.2.1).toList==(str k).toList)=false:=by rw[av,av];simpa using hk
   have N:=Qh (And.intro (And.intro L (And.intro E (And.intro G J))) I);have U:=Qh hk;clear hk L E G J I t O m b Z d q
   gi_wp2
   obtain⟨⟨L,E,G,J⟩,I⟩:=N.out
   exact⟨KeepsFrom.refl _ _,Below.refl _ _,⟨L,E,G,fun y hy=>by
    rcases List.mem_append.1 hy with hy|hy
    ·exact J y hy
    ·rw[List.mem_singleton.1 hy];exact U.out⟩,I⟩
 case done=>
  rintro D ys W hD rfl ⟨⟨L,E,G,J⟩,I⟩ R;have f0:=E.frozen 0;have f1:=E.frozen 1;have r0:=E.cell 0;have r1:=E.cell 1;have f2:=G.frozen 0;have r2:=G.cell 0;simp only[Qc,Qa,Qb]at r0 r1 r2;have N:=Qh (And.intro (And.intro L (And.intro E (And.intro G J))) I);have U:=Qh R;clear R L E G J I O m b Z d
  gi_wp2
  obtain⟨⟨L,E,G,J⟩,I⟩:=N.out;have Il:Below w.heap.size w W:=iU.out.trans (I.mono (by have:=z.out;omega));have hK':=(((KeepsOthers.setCell W ⟨w.heap.size+1,0,none⟩ (.string ⟨#[]⟩)).trans (KeepsOthers.setCell _ ⟨w.heap.size+1,1,none⟩ (.string ⟨#[]⟩))).trans (KeepsOthers.setCell _ ⟨w.heap.size+1+1,0,none⟩ (.bool false))).same D _ U.out rfl;refine⟨by simp,.inl ⟨_,_,rfl,run_takeDeferred hK',?_⟩⟩;have k0:=(((E.set 0 (.string ⟨#[]⟩) (by decide)).set 1 (.string ⟨#[]⟩) (by decide)).other (b':=w.heap.size+1+1) (i:=0) (by omega) (.bool false)).kept (grownBy_putObj' _ D (.deferred none)) (fun r e=>by cases e;exact⟨_,hK',rfl⟩);have k1:=(((G.other (b':=w.heap.size+1) (i:=0) (by omega) (.string ⟨#[]⟩)).other (b':=w.heap.size+1) (i:=1) (by omega) (.string ⟨#[]⟩)).set 0 (.bool false) (by decide)).kept (grownBy_putObj' _ D (.deferred none)) (fun r e=>by cases e;exact⟨_,hK',rfl⟩)
  have hv:qA rs k=.tuple #[.agg #[.string ⟨#[]⟩,.string ⟨#[]⟩],.bool false]:=by
   unfold qA;rw[vM fun r M=>?_]
   ·rfl
   ·have:r∈(dx rs rs.length).map (·.2):=by rw[uM];exact List.mem_reverse.2 M
    obtain⟨y,hy,rfl⟩:=List.mem_map.1 this;exact J y hy
  rw[hv]
  exact⟨_,Jb _ _ (w.heap.size+1) (w.heap.size+1+1) ⟨#[]⟩ ⟨#[]⟩ false rfl rfl k0 k1,rfl,
   (((Il.setCell (p:=⟨w.heap.size+1,0,none⟩) (by simp) _).setCell (p:=⟨w.heap.size+1,1,none⟩) (by simp) _).setCell (p:=⟨w.heap.size+1+1,0,none⟩) (by simp;omega) _).trans (belowK_b (w:=w) (Qk _) _ D _ _ (by have:=z.out;omega) hK' rfl rfl)⟩
 case stop=>
  rintro D c pre W hD V0 ⟨⟨rfl,g,x,rfl,h1,f,E,G⟩,u⟩ R;have N:=Qh (And.intro E (And.intro G u));have U:=Qh R;clear E G u R
  gi_wp2
  obtain⟨E,G,u⟩:=N.out;have hK':=U.out;refine⟨by simp,.inl ⟨_,_,rfl,run_takeDeferred hK',?_⟩⟩;have k0:=E.kept (grownBy_putObj' _ D (.deferred none)) (fun r e=>by cases e;exact⟨_,hK',rfl⟩);have k1:=G.kept (grownBy_putObj' _ D (.deferred none)) (fun r e=>by cases e;exact⟨_,hK',rfl⟩)
  have hv:qA rs k=.tuple #[.agg #[.string (str x.2.1),.string (str x.2.2)],.bool true]:=by
   obtain⟨rest,gM⟩:=V0;have e:=uM rs;rw[←gM,List.map_append,List.map_append,List.map_singleton,List.append_assoc,List.singleton_append]at e;unfold qA;rw[K1 e.symm (fun r M=>by obtain⟨y,hy,rfl⟩:=List.mem_map.1 M;exact h1 y hy) f,←f];rfl
  rw[hv];exact⟨_,Jb _ _ (w.heap.size+1) (w.heap.size+1+1) _ _ true rfl rfl k0 k1,rfl,u.trans (belowK_b (w:=w) (Qk _) _ D _ _ (by have:=z.out;omega) hK' rfl rfl)⟩
end Attr
namespace Attr
open Go.Shelf Mk
variable {n:Nat} {S:Nat→Prop} {rs:cH}
abbrev uB:=List UInt8→Option (List UInt8)
def Du (F:uB):List UInt8→Option Value:=fun k=>(F k).map fun v=>.agg (recC k v)
def St (w:World) (g:Nat) (mb:Option Nat) (F:uB):Prop:=
 au w g 128 #[.map mb]∧(mb=none→F=qK)∧∀B,mb=some B→dd jo w B (Du F)
def TJ (w:World) (p:Option Addr) (F:uB):Prop:=(p=none∧F=qK)∨∃g mb,p=some ⟨g,0,none⟩∧St w g mb F
def xY (g:Nat) (mb:Option Nat):Nat→Prop:=fun k=>k=g∨mb=some k
section
variable {w w':World} {g:Nat} {mb:Option Nat} {F:uB} {p:Option Addr}
theorem St.lt (h:St w g mb F):g<w.heap.size:=h.1.lt
theorem St.eH (h:St w g mb F) (hB:mb=some B):B<w.heap.size:=(h.2.2 B hB).lt
theorem St.kept (h:St w g mb F) (hk:Kept S w w') (hn:∀k,xY g mb k→¬S k):St w' g mb F:=
 ⟨h.1.bV hk (hn g (.inl rfl)),h.2.1,fun B A=>(h.2.2 B A).kept hk (hn B (.inr A))⟩
theorem St.below (h:St w g mb F) (hb:Below w.heap.size w w'):St w' g mb F:=h.kept (Kept.aO hb ai) (fun _ _=>id)
theorem TJ.below (h:TJ w p F) (hb:Below w.heap.size w w'):TJ w' p F:=h.imp id fun⟨g,mb,hp,hs⟩=>⟨g,mb,hp,hs.below hb⟩
theorem St.new (w:World):St (w.alloc (.cells #[.map none] 128)) w.heap.size none qK:=⟨au.new w _ _,fun _=>rfl,fun _ h=>by cases h⟩
theorem St.ptr (h:St w g mb F):TJ w (some ⟨g,0,none⟩) F:=.inr ⟨g,mb,rfl,h⟩
theorem TJ.nil (w:World):TJ w none qK:=.inl ⟨rfl,rfl⟩
theorem qW {p:Option Addr} (h:St w g mb F) (hr:cM w p n rs) (h0:0<n) {a:Addr} (ha:p=some a):¬xY g mb a.block:=by
 obtain⟨b,o,rfl,A,hc⟩:=hr.2 h0
 cases ha
 have c0:=(hc 0 h0).1;rintro(e|e)
 ·subst e
  rw[h.1.cell]at c0;rcases Nat.eq_zero_or_pos o with rfl|ho
  ·simp at c0
  ·rw[Array.getElem?_eq_none (by simp;omega)]at c0;cases c0
 ·obtain⟨es,clock,hm,_⟩:=h.2.2 _ e
  simp[World.cell?,hm]at c0
theorem dZ {p:Option Addr} (hr:cM w p n rs) (hk:Kept S w w') (hn:0<n→∀a,p=some a→¬S a.block):cM w' p n rs:=by
 refine⟨hr.1,fun A=>?_⟩;obtain⟨b,o,rfl,B,hc⟩:=hr.2 A;have e:=hk.block b B (hn A _ rfl);exact⟨b,o,rfl,Nat.lt_of_lt_of_le B hk.size,fun i hi=>⟨by rw[World.cell?_of_block e];exact(hc i hi).1,by rw[World.cell?_of_block e];exact(hc i hi).2⟩⟩
theorem I9 (w:World):(zeroValue 121).run Tryz.prog w=.ok (.agg #[.string ⟨#[]⟩,.string ⟨#[]⟩]) w:=Tryz.zeroValue121 w
theorem PN (w:World) (a b:ByteArray):(Instr.field 121 (.agg #[.string a,.string b]) 1).run Tryz.prog w=.ok (.string b) w:=by
 kernel_rfl
theorem Tc (h:St w g mb F) (k:List UInt8):
 ∃x:ByteArray,(Instr.lookup 126 (.map mb) (.string (str k)) false).run Tryz.prog w=.ok (.agg #[.string x,.string (str ((F k).getD []))]) w:=by
 cases mb with
 |none=>
  refine⟨⟨#[]⟩,?_⟩;rw[h.2.1 rfl];exact look_nil (K:=jo) Tryz.underlying126 Tryz.underlying9 I9 k w
 |some B=>
  have hl:=(h.2.2 B rfl).look Tryz.underlying126 Tryz.underlying9 I9 k
  cases hf:F k with
  |none=>
   refine⟨⟨#[]⟩,?_⟩;rw[show Du F k=none by unfold Du;rw[hf];rfl]at hl;exact hl
  |some v=>
   refine⟨str k,?_⟩;rw[show Du F k=some (.agg (recC k v)) by unfold Du;rw[hf];rfl]at hl;exact hl
end
theorem Mw (s:Option Addr) (F:uB) (k:List UInt8) (p:Option Addr) (n c:Nat) (rs:cH) (w:World) (hs:TJ w s F) (hn:n≤4611686018427387904) (h:cM w p n rs):
 Calls Tryz.prog 144 #[.pointer s,.string (str k),.slice p n c] w fun e w'=>e=.returned (.string (str (fa F rs k)))∧Below w.heap.size w w':=by
 have hl:=OU k p n c rs w hn h;have H:=Qh hs;clear hs h hn;unfold fa
 cases D:aL rs k with
 |some v=>
  rw[show qA rs k=.tuple #[.agg #[.string (str k),.string (str v)],.bool true] by unfold qA;rw[D];rfl]at hl;clear D
  go_enter Tryz.func144,Tryz.ntmps144
  go_wp2_with fail
  refine hl.mono ?_;rintro e G ⟨rfl,A⟩;have B:=Qh A;clear A hl;go_wp2;go_ret;exact⟨rfl,B.out.alloc B.out.size _⟩
 |none=>
  rw[show qA rs k=.tuple #[.agg #[.string ⟨#[]⟩,.string ⟨#[]⟩],.bool false] by unfold qA;rw[D];rfl]at hl;clear D;rcases H.out with⟨rfl,rfl⟩|⟨g,mb,rfl,lQ⟩
  ·go_enter Tryz.func144,Tryz.ntmps144
   go_wp2_with fail
   refine hl.mono ?_;rintro e G ⟨rfl,A⟩;have B:=Qh A;clear A hl;go_wp2;go_ret;exact⟨rfl,B.out.alloc B.out.size _⟩
  ·have L:=Qh lQ
   clear lQ
   go_enter Tryz.func144,Tryz.ntmps144
   go_wp2_with fail
   refine hl.mono ?_;rintro e G ⟨rfl,A⟩;have E:=L.out.below (A.alloc A.size (.cells #[.string ⟨#[]⟩,.string ⟨#[]⟩] 121));obtain⟨a,I⟩:=Tc E k;have c0:=E.1.cell 0;simp only[Qc,Qa]at c0;have B:=Qh A;have J:=fun w=>PN w a (str ((F k).getD []))
   clear A hl E;go_wp2;go_ret;exact⟨rfl,B.out.alloc B.out.size _⟩
def pX (w:World) (g:Nat) (mb:Option Nat) (F:uB) (rs:cH) (e:Ending) (w':World):Prop:=
 e=.returned (.tuple #[])∧∃B,St w' g (some B) (gQ F rs)∧Kept (xY g mb) w w'∧(mb=some B∨w.heap.size≤B)
theorem zd (F:uB) (rs:cH) (k v:List UInt8):(fun y=>if y=k then some (Value.agg (recC k v))else Du (gQ F rs) y)=Du (gQ F (rs++[(k,v)])):=by
 funext y
 rw[F5];unfold Du
 by_cases h:y=k
 ·subst h;simp
 ·simp[h]
theorem take_one (rs:cH) (j:Nat) (hj:j<rs.length):rs.take (j+1)=rs.take j++[rs.getD j ([],[])]:=by
 rw[List.take_add_one];simp[List.getD,hj]
theorem St.ne {w:World} {g:Nat} {F:uB} (h:St w g (some B) F):¬ay B g:=fun e=>by
 obtain⟨es,clock,hm,_⟩:=h.2.2 B rfl;have e:g=B:=e;have h1:=h.1;unfold au at h1;rw[e,hm]at h1
 cases h1
theorem Fo (g B:Nat) (F:uB) (p:Option Addr) (n c:Nat) (rs:cH) (w:World) (hs:St w g (some B) F) (hn:n≤4611686018427387904) (h:cM w p n rs):
 Calls Tryz.prog 111 #[.pointer (some ⟨g,0,none⟩),.slice p n c] w (pX w g (some B) F rs):=by
 have m:=Qh hs;have l:=Qh h;have R:=Qh h.1;have c0:=hs.1.cell 0;simp only[Qc,Qa]at c0;have d:Hid (∀wr,Kept (xY g (some B)) w wr→Kept (xY g (some B)) w wr):=Qh (fun _ h=>h);have q:Hid (some B=some B∨w.heap.size≤B):=Qh (.inl rfl);clear hs h;have U:=fun w=>run_eql_map_nil (P:=Tryz.prog) w 126 _ _ (some B) Tryz.underlying126
 simp only[Option.isNone_some]at U
 go_enter Tryz.func111,Tryz.ntmps111
 go_wp2_with fail
 clear c0 U
 go_loopw [19] (fun i wr=>∃(j:Nat),j≤n∧i=.int .i64 (j:Int)∧Hid (St wr g (some B) (gQ F (rs.take j))∧cM wr p n rs∧Kept (xY g (some B)) w wr)) (fun i _=>n - (RowKit.intOf i).toNat)
 case atStart=>exact⟨0,Nat.zero_le _,rfl,Qh ⟨by rw[List.take_zero,yR];exact m.out,l.out,Kept.refl _ _⟩⟩
 case round=>
  obtain⟨j,hj,rfl,A⟩:=hrel
  by_cases V:j<n
  ·obtain⟨G,E,hk⟩:=A.out
   have z:(j:Int)<(n:Int):=by omega
   obtain⟨b,o,rfl,y,hc⟩:=E.2 (by omega);obtain⟨x0,O⟩:=hc j V;obtain⟨⟨D,H⟩,L⟩:∃u,rs.getD j ([],[])=u:=⟨_,rfl⟩
   rw[L,Nat.mul_comm]at x0 O;simp only at x0 O;have N:=G.below ((Below.refl _ wr).alloc (Qk _) (.cells #[.string (str D),.string (str H)] 121));have T:=E.below ((Below.refl _ wr).alloc (Qk _) (.cells #[.string (str D),.string (str H)] 121));have W:=hk.alloc (.cells #[.string (str D),.string (str H)] 121);have d0:=N.1.cell 0;simp only[Qc,Qa]at d0;obtain⟨r0,r1⟩:=rA wr 121 (.string (str D)) (.string (str H));have I:=Qh (And.intro N (And.intro T W));have J:=Qh L;clear G E hk y hc L N T W A;go_wp2_with fail;obtain⟨w4,Y⟩:∃w4,wr.alloc (.cells #[.string (str D),.string (str H)] 121)=w4:=⟨_,rfl⟩
   rw[Y]at d0 I r0 r1⊢;clear Y x0 O
   go_still_tail 7,(by kernel_rfl)
   refine dB (K:=jo) rfl (.tmp 26) (.tmp 28) (.tmp 29) rfl Tryz.underlying126 Tryz.underlying9 B ((I.out.1.2.2 B rfl).kept (Kept.refl ai w4).drew id) rfl D rfl (.agg (recC D H)) rfl ?_;intro w5 Z X oY
   have f:Hid (St w5 g (some B) (gQ F (rs.take (j+1)))∧cM w5 (some ⟨b,o,none⟩) n rs∧Kept (xY g (some B)) w w5):=by
    obtain⟨G,E,hk⟩:=I.out;have M:Kept (ay B) w4 w5:=((Kept.refl (ay B) w4).drew).trans X.out;refine Qh ⟨⟨G.1.bV M G.ne,(fun h=>by cases h),fun B' h=>?_⟩,dZ E M (fun r a t e=>qW G E r t (.inr (by rw[show a.block=B from e]))),hk.then M (fun i hi=>.inr (.inr (by rw[show i=B from hi])))⟩
    cases h
    rw[take_one rs j (by rw[R.out];exact V),J.out,←zd];exact Z.out
   clear Z X oY;go_wp2;go_roundw
   case rel=>exact⟨j+1,by omega,by go_num,f⟩
   case measure=>simp[RowKit.intOf];omega
  ·obtain rfl:j=n:=by omega
   have z:¬((j:Int)<(j:Int)):=by omega
   go_wp2
   go_end0
   have A:=A.out;rw[List.take_of_length_le (by rw[R.out];exact Qk _)]at A;exact⟨rfl,B,A.1,d.out _ A.2.2,by first|exact q.out|exact .inl rfl⟩
theorem Cf (g:Nat) (p:Option Addr) (n c:Nat) (rs:cH) (w:World) (hs:St w g none qK) (hn:n≤4611686018427387904) (h:cM w p n rs):
 Calls Tryz.prog 111 #[.pointer (some ⟨g,0,none⟩),.slice p n c] w (pX w g none qK rs):=by
 have c0:=hs.1.cell 0;simp only[Qc,Qa]at c0;have f0:=hs.1.frozen 0;have f1:=(hs.1.alloc (.map #[] 0)).frozen 0;have c1:=(hs.1.alloc (.map #[] 0)).cell 0;simp only[Qc,Qa]at c1;have Ae:=@run_makeMap Tryz.prog;have r:=fun w=>run_eql_map_nil (P:=Tryz.prog) w 126 _ _ none Tryz.underlying126
 simp only[Option.isNone_none]at r;have Y8:g<w.heap.size:=hs.lt;obtain⟨F,hF⟩:∃F,F=qK:=⟨_,rfl⟩
 have M:Kept (xY g none) w ((w.alloc (.map #[] 0)).setCell ⟨g,0,none⟩ (.map (some w.heap.size))):=((Kept.refl (xY g none) w).alloc _).setCell (a:=⟨g,0,none⟩) (.inr (.inl rfl)) _;have J:=dZ h M (fun T a U=>qW hs h T U)
 have L:St ((w.alloc (.map #[] 0)).setCell ⟨g,0,none⟩ (.map (some w.heap.size))) g (some w.heap.size) F:=by
  refine⟨(hs.1.alloc (.map #[] 0)).set 0 _ (by decide),(fun h=>by cases h),fun B' I=>?_⟩
  cases I
  have hm:=(jU jo w).kept (((Kept.refl (ay g) (w.alloc (.map #[] 0)))).setCell (a:=⟨g,0,none⟩) (.inr rfl) (.map (some w.heap.size))) (fun e=>by have:w.heap.size=g:=e;omega);rw[hF];exact hm
 have d:Hid (∀wr,Kept (xY g (some w.heap.size)) ((w.alloc (.map #[] 0)).setCell ⟨g,0,none⟩ (.map (some w.heap.size))) wr→Kept (xY g none) w wr):=Qh (fun wr h=>M.then h (fun i hi=>by
  rcases hi with hi|hi
  ·exact .inr (.inl hi)
  ·cases hi;exact .inl (Qk _)))
 have R:Hid ((none:Option Nat)=some w.heap.size∨w.heap.size≤w.heap.size):=Qh (.inr (Qk _));have f:=Qh h.1;have m:=Qh L;have l:=Qh J;rw[←hF];clear L J M h hs Y8 hF
 go_enter Tryz.func111,Tryz.ntmps111
 go_wp2_with fail
 obtain⟨W0,Y⟩:∃W0,(w.alloc (.map #[] 0)).setCell ⟨g,0,none⟩ (.map (some w.heap.size))=W0:=⟨_,rfl⟩
 obtain⟨B,I⟩:∃B,w.heap.size=B:=⟨_,rfl⟩
 rw[Y,I]at m d;rw[Y]at l⊢;rw[I];clear R;have R:Hid ((none:Option Nat)=some B∨w.heap.size≤B):=Qh (.inr (by omega));clear c0 f0 c1 f1 r Ae Y I
 go_loopw [19] (fun i wr=>∃(j:Nat),j≤n∧i=.int .i64 (j:Int)∧Hid (St wr g (some B) (gQ F (rs.take j))∧cM wr p n rs∧Kept (xY g (some B)) W0 wr)) (fun i _=>n - (RowKit.intOf i).toNat)
 case atStart=>exact⟨0,Nat.zero_le _,rfl,Qh ⟨by rw[List.take_zero,yR];exact m.out,l.out,Kept.refl _ _⟩⟩
 case round=>
  obtain⟨j,hj,rfl,A⟩:=hrel
  by_cases t:j<n
  ·obtain⟨G,E,hk⟩:=A.out
   have j5:(j:Int)<(n:Int):=by omega
   obtain⟨b,o,rfl,hb,hc⟩:=E.2 (by omega);obtain⟨x0,Z⟩:=hc j t;obtain⟨⟨D,H⟩,V⟩:∃u,rs.getD j ([],[])=u:=⟨_,rfl⟩
   rw[V,Nat.mul_comm]at x0 Z;simp only at x0 Z;have X:=G.below ((Below.refl _ wr).alloc (Qk _) (.cells #[.string (str D),.string (str H)] 121));have q:=E.below ((Below.refl _ wr).alloc (Qk _) (.cells #[.string (str D),.string (str H)] 121));have y:=hk.alloc (.cells #[.string (str D),.string (str H)] 121);have d0:=X.1.cell 0;simp only[Qc,Qa]at d0;obtain⟨r0,r1⟩:=rA wr 121 (.string (str D)) (.string (str H));have N:=Qh (And.intro X (And.intro q y));have O:=Qh V;clear G E hk hb hc V X q y A;go_wp2_with fail;obtain⟨w4,qv⟩:∃w4,wr.alloc (.cells #[.string (str D),.string (str H)] 121)=w4:=⟨_,rfl⟩
   rw[qv]at d0 N r0 r1⊢;clear qv x0 Z
   go_still_tail 7,(by kernel_rfl)
   refine dB (K:=jo) rfl (.tmp 26) (.tmp 28) (.tmp 29) rfl Tryz.underlying126 Tryz.underlying9 B ((N.out.1.2.2 B rfl).kept (Kept.refl ai w4).drew id) rfl D rfl (.agg (recC D H)) rfl ?_;intro w5 yG z oY
   have HN:Hid (St w5 g (some B) (gQ F (rs.take (j+1)))∧cM w5 (some ⟨b,o,none⟩) n rs∧Kept (xY g (some B)) W0 w5):=by
    obtain⟨G,E,hk⟩:=N.out;have W:Kept (ay B) w4 w5:=((Kept.refl (ay B) w4).drew).trans z.out;refine Qh ⟨⟨G.1.bV W G.ne,(fun h=>by cases h),fun B' h=>?_⟩,dZ E W (fun T a U e=>qW G E T U (.inr (by rw[show a.block=B from e]))),hk.then W (fun i hi=>.inr (.inr (by rw[show i=B from hi])))⟩
    cases h
    rw[take_one rs j (by rw[f.out];exact t),O.out,←zd];exact yG.out
   clear yG z oY;go_wp2;go_roundw
   case rel=>exact⟨j+1,by omega,by go_num,HN⟩
   case measure=>simp[RowKit.intOf];omega
  ·obtain rfl:j=n:=by omega
   have j5:¬((j:Int)<(j:Int)):=by omega
   go_wp2
   go_end0
   have A:=A.out;rw[List.take_of_length_le (by rw[f.out];exact Qk _)]at A;exact⟨rfl,B,A.1,d.out _ A.2.2,by first|exact R.out|exact .inl rfl⟩
theorem Fm (g:Nat) (mb:Option Nat) (F:uB) (p:Option Addr) (n c:Nat) (rs:cH) (w:World) (hs:St w g mb F) (hn:n≤4611686018427387904) (h:cM w p n rs):
 Calls Tryz.prog 111 #[.pointer (some ⟨g,0,none⟩),.slice p n c] w (pX w g mb F rs):=by
 cases mb with
 |some B=>exact Fo g B F p n c rs w hs hn h
 |none=>
  obtain rfl:=hs.2.1 rfl;exact Cf g p n c rs w hs hn h
end Attr
namespace Mem
open Mk Block Attr
variable {y:Addr} {b m:Nat} {p:Option Addr} {v':Value} {rs:cH}
structure RK where
 r:Nat
 g:Nat
 gs:Nat
 mw:Nat
 S:Sv
def cD (s:RS) (q:Option Addr) (n c:Nat):UInt8→Option Value:=fun k=>
 if k=120 then(if s.fx=true then some (.agg #[.string ⟨#[]⟩,.slice q n c])else none)
 else if k=76 then s.name.map (fun t=>.agg #[.string (str t),.slice none 0 0])
 else if k=75 then s.link.map (fun t=>.agg #[.string (str t),.slice none 0 0])
 else none
def I8 (K:RK) (v:Value):Array Value:=#[.pointer (some ⟨K.g,0,none⟩),.pointer (some ⟨K.gs,0,none⟩),.map (some K.mw),v]
def Ot (K:RK) (mb:Option Nat) (v:Value):Nat→Prop:=fun k=>k=K.r∨k=K.gs∨k=K.mw∨mb=some k∨v.ownBlock=some k
structure Rd (w0 w:World) (K:RK) (a:Nat) (s:RS) (mb:Option Nat) (v:Value) (xs:List MP) (q:Option Addr) (n c:Nat):Prop where
 bel:Below w0.heap.size w0 w
 fi:au w K.r 91 (I8 K v)
 src:∃t,Block.Src w K.g K.S a t
 off:K.S.off K.g
 st:St w K.gs mb (aL s.dG)
 map:dd QY w K.mw (cD s q n c)
 own:cM w q n s.own
 qN:s.fx=false→s.own=[]
 row:w.ownsRow w0.heap.size 48 8 v xs.length (fz xs)
 out:xs.map MP.m=s.out
 bodies:∀x∈xs,dP w x
 apart:∀x∈xs,0<x.m.body.length→∀y,x.p=some y→¬Ot K mb v y.block∧y.block≠K.g
 sp:0<K.S.n→∀y,K.S.p=some y→¬Ot K mb v y.block
 sq:0<K.S.m→∀y,K.S.q=some y→¬Ot K mb v y.block
 ne:K.r≠K.g∧K.r≠K.gs∧K.r≠K.mw∧K.g≠K.gs∧K.g≠K.mw∧K.gs≠K.mw
 xR:∀b,mb=some b→b≠K.r∧b≠K.g∧b≠K.gs∧b≠K.mw∧w0.heap.size≤b
 uo:∀b,v.ownBlock=some b→b≠K.r∧b≠K.g∧b≠K.gs∧b≠K.mw∧mb≠some b
 base:w0.heap.size≤K.r∧w0.heap.size≤K.g∧w0.heap.size≤K.gs∧w0.heap.size≤K.mw
 many:s.out.length≤4096
 gl:∀r∈s.dG,r.2.length≤1048576
 ol:(∀r∈s.own,r.2.length≤1048576)∧s.own.length≤1048576
 nl:∀t,s.name=some t→t.length≤1048576
 ll:∀t,s.link=some t→t.length≤1048576
section
variable {w0 w w':World} {K:RK} {a:Nat} {s:RS} {mb:Option Nat} {v:Value} {xs:List MP} {q:Option Addr} {n c:Nat}
theorem Al {zs:List Int} (h:Ho w p m zs) (h0:0<m) (hy:p=some y):y.block<w.heap.size:=by
 obtain⟨b,o,he,A,hc⟩:=h h0;rw[hy]at he
 cases he
 exact A
theorem AR {t:TypeId} {cs:Array Value} (hb:au w b t cs) (hs:∀(i:Nat) (x:ByteArray),cs[i]? ≠some (.string x)) (hr:cM w p m rs) (h0:0<m) (hy:p=some y):y.block≠b:=by
 obtain⟨B,o,rfl,A,hc⟩:=hr.2 h0
 cases hy
 rintro rfl;have c0:=(hc 0 h0).1;rw[hb.cell]at c0;exact hs _ _ c0
theorem AU {α:Type} {Ky:jh α} {f:α→Option Value} (hm:dd Ky w b f) (hr:cM w p m rs) (h0:0<m) (hy:p=some y):y.block≠b:=by
 obtain⟨B,o,rfl,A,hc⟩:=hr.2 h0
 cases hy
 rintro rfl;obtain⟨es,clock,hm,_⟩:=hm;have c0:=(hc 0 h0).1;simp[World.cell?,hm]at c0
theorem Rd.Db (h:Rd w0 w K a s mb v xs q n c):0<n→∀y,q=some y→¬ay K.g y.block:=fun A y hy e=>by
 obtain⟨t,hs⟩:=h.src;refine AR (show au w K.g 132 _ from hs.fi) ?_ h.own A hy e;intro i x B;rcases i with _|_|_|_|i<;>simp at B
theorem Rd.Gh (h:Rd w0 w K a s mb v xs q n c):0<n→∀y,q=some y→¬xY K.gs mb y.block:=fun A y hy e=>qW h.st h.own A hy e
theorem Rd.Ll (h:Rd w0 w K a s mb v xs q n c) (hN:Need w0):Need w:=hN.below h.bel
theorem Rd.idle (h:Rd w0 w K a s mb v xs q n c) (hk:Kept ai w w'):Rd w0 w' K a s mb v xs q n c where
 bel:=h.bel.trans (hk.below h.bel.size (fun k hk=>hk.elim))
 fi:=h.fi.bV hk id
 src:=by obtain⟨t,hs⟩:=h.src;exact⟨t,hs.du hk⟩
 off:=h.off
 st:=h.st.kept hk (fun _ _=>id)
 map:=h.map.kept hk id
 own:=dZ h.own hk (fun _ _ _=>id)
 qN:=h.qN
 row:=bh h.row hk (fun _ _=>id)
 out:=h.out
 bodies:=fun x A=>(h.bodies x A).kept hk (fun _ _ _=>id)
 apart:=h.apart
 sp:=h.sp
 sq:=h.sq
 ne:=h.ne
 xR:=h.xR
 uo:=h.uo
 base:=h.base
 many:=h.many
 gl:=h.gl
 ol:=h.ol
 nl:=h.nl
 ll:=h.ll
theorem Rd.below (h:Rd w0 w K a s mb v xs q n c) (hb:Below w.heap.size w w'):Rd w0 w' K a s mb v xs q n c:=h.idle (Kept.aO hb ai)
theorem Rd.gn (h:Rd w0 w K a s mb v xs q n c) {a':Nat} (hk:Kept (ay K.g) w w') (hs:∃t,Block.Src w' K.g K.S a' t):Rd w0 w' K a' s mb v xs q n c where
 bel:=h.bel.trans (hk.below h.bel.size (fun k hk=>by rw[show k=K.g from hk];exact h.base.2.1))
 fi:=h.fi.bV hk h.ne.1
 src:=hs
 off:=h.off
 st:=h.st.kept hk (fun k hk e=>by
  rcases hk with rfl|hk
  ·exact h.ne.2.2.2.1 (show K.gs=K.g from e).symm
  ·exact(h.xR k hk).2.1 e)
 map:=h.map.kept hk (fun e=>h.ne.2.2.2.2.1 (show K.mw=K.g from e).symm)
 own:=dZ h.own hk h.Db
 qN:=h.qN
 row:=bh h.row hk (fun k hk e=>(h.uo k hk).2.1 e)
 out:=h.out
 bodies:=fun x A=>(h.bodies x A).kept hk (fun B y hy e=>(h.apart x A B y hy).2 e)
 apart:=h.apart
 sp:=h.sp
 sq:=h.sq
 ne:=h.ne
 xR:=h.xR
 uo:=h.uo
 base:=h.base
 many:=h.many
 gl:=h.gl
 ol:=h.ol
 nl:=h.nl
 ll:=h.ll
theorem Rd.waits (h:Rd w0 w K a s mb v xs q n c) {s':RS} (hk:Kept (ay K.mw) w w') (hm:dd QY w' K.mw (cD s' q' n' c')) (ho:cM w q' n' s'.own)
 (h1:s'.out=s.out) (h2:s'.dG=s.dG) (h3:s'.fx=false→s'.own=[]) (h4:(∀r∈s'.own,r.2.length≤1048576)∧s'.own.length≤1048576)
 (h5:∀t,s'.name=some t→t.length≤1048576) (h6:∀t,s'.link=some t→t.length≤1048576):Rd w0 w' K a s' mb v xs q' n' c' where
 bel:=h.bel.trans (hk.below h.bel.size (fun k hk=>by rw[show k=K.mw from hk];exact h.base.2.2.2))
 fi:=h.fi.bV hk h.ne.2.2.1
 src:=by
  obtain⟨t,hs⟩:=h.src;exact⟨t,hs.kept hk h.ne.2.2.2.2.1 (fun A y hy e=>h.sp A y hy (.inr (.inr (.inl e)))) (fun A y hy e=>h.sq A y hy (.inr (.inr (.inl e))))⟩
 off:=h.off
 st:=by
  rw[h2];refine h.st.kept hk (fun k hk e=>?_);rcases hk with rfl|hk
  ·exact h.ne.2.2.2.2.2 e
  ·exact(h.xR k hk).2.2.2.1 e
 map:=hm
 own:=dZ ho hk (fun A y hy e=>AU h.map ho A hy e)
 qN:=h3
 row:=bh h.row hk (fun k hk e=>(h.uo k hk).2.2.2.1 e)
 out:=by rw[h1];exact h.out
 bodies:=fun x B=>(h.bodies x B).kept hk (fun A y hy e=>(h.apart x B A y hy).1 (.inr (.inr (.inl e))))
 apart:=h.apart
 sp:=h.sp
 sq:=h.sq
 ne:=h.ne
 xR:=h.xR
 uo:=h.uo
 base:=h.base
 many:=by rw[h1];exact h.many
 gl:=by rw[h2];exact h.gl
 ol:=h4
 nl:=h5
 ll:=h6
theorem Rd.Yt (h:Rd w0 w K a s mb v xs q n c) (lQ:St w' K.gs (some B) (gQ (aL s.dG) rs)) (hk:Kept (xY K.gs mb) w w') (hB:mb=some B∨w.heap.size≤B) (hl:∀r∈rs,r.2.length≤1048576):
 Rd w0 w' K a {s with dG:=s.dG++rs} (some B) v xs q n c:=by
 have U:=h.bel.size
 have I:∀k,k<w.heap.size→¬Ot K mb v k→¬Ot K (some B) v k:=fun k O E e=>by
  rcases e with e|e|e|e|e
  ·exact E (.inl e)
  ·exact E (.inr (.inl e))
  ·exact E (.inr (.inr (.inl e)))
  ·rcases hB with hB|hB
   ·exact E (.inr (.inr (.inr (.inl (hB.trans e)))))
   ·cases e;omega
  ·exact E (.inr (.inr (.inr (.inr e))))
 have H:∀k,xY K.gs mb k→Ot K mb v k:=fun k hk=>by
  rcases hk with rfl|hk
  ·exact .inr (.inl rfl)
  ·exact .inr (.inr (.inr (.inl hk)))
 obtain⟨t,hs⟩:=h.src
 have W:∀k,xY K.gs mb k→w0.heap.size≤k:=fun k hk=>by
  rcases hk with rfl|hk
  ·exact h.base.2.2.1
  ·exact(h.xR k hk).2.2.2.2
 have hr:¬xY K.gs mb K.r:=fun e=>by
  rcases e with e|e
  ·exact h.ne.2.1 e
  ·exact(h.xR _ e).1 rfl
 have T:¬xY K.gs mb K.g:=fun e=>by
  rcases e with e|e
  ·exact h.ne.2.2.2.1 e
  ·exact(h.xR _ e).2.1 rfl
 have J:¬xY K.gs mb K.mw:=fun e=>by
  rcases e with e|e
  ·exact h.ne.2.2.2.2.2 e.symm
  ·exact(h.xR _ e).2.2.2.1 rfl
 have V:∀k,v.ownBlock=some k→¬xY K.gs mb k:=fun k hk e=>by
  rcases e with e|e
  ·exact(h.uo k hk).2.2.1 e
  ·exact(h.uo k hk).2.2.2.2 e
 exact {
  bel:=h.bel.trans (hk.below h.bel.size W)
  fi:=h.fi.bV hk hr
  src:=⟨t,hs.kept hk T (fun A y hy e=>h.sp A y hy (H _ e)) (fun A y hy e=>h.sq A y hy (H _ e))⟩
  off:=h.off
  st:=by rw[←FM];exact lQ
  map:=h.map.kept hk J
  own:=dZ h.own hk h.Gh
  qN:=h.qN
  row:=bh h.row hk V
  out:=h.out
  bodies:=fun x D=>(h.bodies x D).kept hk (fun A y hy e=>(h.apart x D A y hy).1 (H _ e))
  apart:=fun x D A y hy=>⟨I _ (lS (h.bodies x D).gC A hy) (h.apart x D A y hy).1,(h.apart x D A y hy).2⟩
  sp:=fun A y hy=>I _ (lS hs.gC A hy) (h.sp A y hy)
  sq:=fun A y hy=>I _ (Al hs.Si A hy) (h.sq A y hy)
  ne:=h.ne
  xR:=fun b G=>by
   cases G
   rcases hB with hB|hB
   ·exact h.xR B hB
   ·have h1:=h.fi.lt
    have L:=hs.lt;have M:=h.st.lt;have N:=h.map.lt;exact⟨by omega,by omega,by omega,by omega,by omega⟩
  uo:=fun b G=>by
   obtain⟨h1,L,M,N,R⟩:=h.uo b G;have O:=(h.row.lt b G).2;refine⟨h1,L,M,N,fun e=>?_⟩;rcases hB with hB|hB
   ·exact R (hB.trans e)
   ·cases e;omega
  base:=h.base
  many:=h.many
  gl:=fun r hr=>by
   rcases List.mem_append.1 hr with hr|hr
   ·exact h.gl r hr
   ·exact hl r hr
  ol:=h.ol
  nl:=h.nl
  ll:=h.ll}
theorem Rd.Lg (h:Rd w0 w K a s mb v xs q n c) (hg:w.grownBy w' v.ownBlock):dd QY (w'.setCell ⟨K.r,3,none⟩ v') K.mw (cD s q n c):=
 (h.map.kept ((Kept.refl _ w).grown hg (fun k hk=>.inr hk):Kept (fun k=>v.ownBlock=some k) w w') (fun e=>(h.uo _ e).2.2.2.1 rfl)).kept ((Kept.refl (ay K.r) w').setCell (a:=⟨K.r,3,none⟩) (.inr rfl) v') h.ne.2.2.1.symm
theorem Rd.added (h:Rd w0 w K a s mb v xs q n c) {y:MP} (bC:w'.ownsRow w0.heap.size 48 8 v' (xs++[y]).length (fz (xs++[y]))) (hg:w.grownBy w' v.ownBlock) (FD:dN w v v')
 (hy:dP w y) (Wa:0<y.m.body.length→∀z,y.p=some z→¬Ot K mb v z.block∧z.block≠K.g) (hm:s.out.length<4096) {w2:World}
 (xG:dd QY w2 K.mw (fun _=>none)) (dt:Kept (ay K.mw) (w'.setCell ⟨K.r,3,none⟩ v') w2):
 Rd w0 w2 K a {s with out:=s.out++[y.m],own:=[],name:=none,link:=none,fx:=false} mb v' (xs++[y]) none 0 0:=by
 have R:Kept (fun k=>v.ownBlock=some k) w w':=(Kept.refl _ w).grown hg (fun k hk=>.inr hk);have T:Kept (ay K.r) w' (w'.setCell ⟨K.r,3,none⟩ v'):=(Kept.refl (ay K.r) w').setCell (a:=⟨K.r,3,none⟩) (.inr rfl) v';have O:Kept (fun k=>k=K.r∨k=K.mw) w' w2:=(T.mono (fun k hk=>.inl hk)).trans (dt.mono (fun k hk=>.inr hk));have hk:Kept (fun k=>v.ownBlock=some k∨k=K.r∨k=K.mw) w w2:=(R.mono (fun k hk=>.inl hk)).trans (O.mono (fun k hk=>.inr hk));have N:∀k,v'.ownBlock=some k→(v.ownBlock=some k∨w.heap.size≤k):=FD
 have H:∀k,(v.ownBlock=some k∨k=K.r∨k=K.mw)→Ot K mb v k:=fun k hk=>by
  rcases hk with hk|rfl|rfl
  ·exact .inr (.inr (.inr (.inr hk)))
  ·exact .inl rfl
  ·exact .inr (.inr (.inl rfl))
 have I:∀k,k<w.heap.size→¬Ot K mb v k→¬Ot K mb v' k:=fun k U E e=>by
  rcases e with e|e|e|e|e
  ·exact E (.inl e)
  ·exact E (.inr (.inl e))
  ·exact E (.inr (.inr (.inl e)))
  ·exact E (.inr (.inr (.inr (.inl e))))
  ·rcases N k e with e'|e'
   ·exact E (.inr (.inr (.inr (.inr e'))))
   ·omega
 obtain⟨t,hs⟩:=h.src;have h1:=h.fi.lt;have V:=hs.lt;have W:=h.st.lt;have X:=h.map.lt
 have G:∀b,v'.ownBlock=some b→b≠K.r∧b≠K.g∧b≠K.gs∧b≠K.mw∧mb≠some b:=fun b D=>by
  rcases N b D with e|e
  ·exact h.uo b e
  ·exact⟨by omega,by omega,by omega,by omega,fun hm=>by have:=h.st.eH hm;omega⟩
 have M:∀k,k≠K.r→k≠K.mw→(∀b,v.ownBlock=some b→k≠b)→¬(v.ownBlock=some k∨k=K.r∨k=K.mw):=fun k J hw E e=>by
  rcases e with e|e|e
  ·exact E k e rfl
  ·exact J e
  ·exact hw e
 exact {
  bel:=h.bel.trans (hk.below h.bel.size (fun k hk=>by
   rcases hk with hk|rfl|rfl
   ·exact(h.row.lt k hk).1
   ·exact h.base.1
   ·exact h.base.2.2.2))
  fi:=((h.fi.bV R (fun e=>(h.uo _ e).1 rfl)).set 3 v' (by decide:3<4)).bV dt h.ne.2.2.1
  src:=⟨t,hs.kept hk (M _ h.ne.1.symm h.ne.2.2.2.2.1 (fun b D e=>(h.uo b D).2.1 e.symm)) (fun A y hy e=>h.sp A y hy (H _ e)) (fun A y hy e=>h.sq A y hy (H _ e))⟩
  off:=h.off
  st:=h.st.kept hk (fun k hk=>by
   rcases hk with rfl|hk
   ·exact M _ h.ne.2.1.symm h.ne.2.2.2.2.2 (fun b D e=>(h.uo b D).2.2.1 e.symm)
   ·exact M _ (h.xR k hk).1 (h.xR k hk).2.2.2.1 (fun b D e=>(h.uo b D).2.2.2.2 (by rw[←e];exact hk)))
  map:=by
   have:cD {s with out:=s.out++[y.m],own:=[],name:=none,link:=none,fx:=false} none 0 0=fun _=>none:=by
    funext k
    unfold cD;simp
   rw[this];exact xG
  own:=⟨rfl,fun h=>by omega⟩
  qN:=fun _=>rfl
  row:=bh bC O (fun k hk e=>by
   rcases e with e|e
   ·exact(G k hk).1 e
   ·exact(G k hk).2.2.2.1 e)
  out:=by rw[List.map_append,h.out];rfl
  bodies:=fun x hx=>by
   rcases List.mem_append.1 hx with hx|hx
   ·exact(h.bodies x hx).kept hk (fun A y hy e=>(h.apart x hx A y hy).1 (H _ e))
   ·rw[List.mem_singleton]at hx
    subst hx;exact hy.kept hk (fun A z B e=>(Wa A z B).1 (H _ e))
  apart:=fun x hx A z B=>by
   rcases List.mem_append.1 hx with hx|hx
   ·exact⟨I _ (lS (h.bodies x hx).gC A B) (h.apart x hx A z B).1,(h.apart x hx A z B).2⟩
   ·rw[List.mem_singleton]at hx
    subst hx;exact⟨I _ (lS hy.gC A B) (Wa A z B).1,(Wa A z B).2⟩
  sp:=fun A y hy=>I _ (lS hs.gC A hy) (h.sp A y hy)
  sq:=fun A y hy=>I _ (Al hs.Si A hy) (h.sq A y hy)
  ne:=h.ne
  xR:=h.xR
  uo:=G
  base:=h.base
  many:=by show(s.out++[y.m]).length≤4096;rw[Qf,List.length_singleton];omega
  gl:=h.gl
  ol:=⟨fun r J=>by simp at J,by simp⟩
  nl:=fun t L=>by cases L
  ll:=fun t L=>by cases L}
end
end Mem
namespace Attr
open Go.Shelf Hp Head
variable {wi wj:World} {h:aq}
theorem lM {fn:Func} (hf:fn.results=#[.cell 6 66,.tmp 7]) (tmps:Array Value) (w:World) (g:Nat) (v:Value) (ht:tmps.getD 6 undef=.pointer (some ⟨g,0,none⟩)) (hv:tmps.getD 7 undef=v)
 (h:aq) (hb:au w g 66 (af h)):(results fn tmps).run Tryz.prog w=.ok (.tuple #[.agg (af h),v]) w:=by
 rw[results_cell_tmp hf,ht,hv];have hl:=oF w g _ _ _ _ _ _ _ _ _ hb;simp only[asAddr,Sem.run_pure,hl,Result.andThen];rfl
theorem mZ (hb:au w g 66 (af h)) (a0 a1 a2 a3 a4 a5 a6 a7 a8:Value):
 au (((((((((w.setCell ⟨g,0,none⟩ a0).setCell ⟨g,1,none⟩ a1).setCell ⟨g,2,none⟩ a2).setCell ⟨g,3,none⟩ a3).setCell ⟨g,4,none⟩ a4).setCell ⟨g,5,none⟩ a5).setCell ⟨g,6,none⟩ a6).setCell ⟨g,7,none⟩ a7).setCell ⟨g,8,none⟩ a8) g 66 #[a0,a1,a2,a3,a4,a5,a6,a7,a8]:=
 ((((((((hb.set 0 a0 (by show 0<9;decide)).set 1 a1 (by show 1<9;decide)).set 2 a2 (by show 2<9;decide)).set 3 a3 (by show 3<9;decide)).set 4 a4 (by show 4<9;decide)).set 5 a5 (by show 5<9;decide)).set 6 a6 (by show 6<9;decide)).set 7 a7 (by show 7<9;decide)).set 8 a8 (by show 8<9;decide)
theorem eC (hk:Below w.heap.size w w') (hg:w.heap.size≤g) (a0 a1 a2 a3 a4 a5 a6 a7 a8:Value):
 Below w.heap.size w (((((((((w'.setCell ⟨g,0,none⟩ a0).setCell ⟨g,1,none⟩ a1).setCell ⟨g,2,none⟩ a2).setCell ⟨g,3,none⟩ a3).setCell ⟨g,4,none⟩ a4).setCell ⟨g,5,none⟩ a5).setCell ⟨g,6,none⟩ a6).setCell ⟨g,7,none⟩ a7).setCell ⟨g,8,none⟩ a8):=
 (((((((((hk.setCell (p:=⟨g,0,none⟩) hg a0).setCell (p:=⟨g,1,none⟩) hg a1).setCell (p:=⟨g,2,none⟩) hg a2).setCell (p:=⟨g,3,none⟩) hg a3).setCell (p:=⟨g,4,none⟩) hg a4).setCell (p:=⟨g,5,none⟩) hg a5).setCell (p:=⟨g,6,none⟩) hg a6).setCell (p:=⟨g,7,none⟩) hg a7).setCell (p:=⟨g,8,none⟩) hg a8)
def tW (w wi:World) (h:aq):Prop:=Below w.heap.size w wi∧au wi w.heap.size 66 (af h)∧au wi (w.heap.size+1) 66 (af ch)
theorem tW.below (hm:tW w wi h) (hb:Below wi.heap.size wi wj):tW w wj h:=
 ⟨hm.1.trans (hb.mono hm.1.size),hm.2.1.below hb hm.2.1.lt,hm.2.2.below hb hm.2.2.lt⟩
theorem tW.put {h':aq} (hm:tW w wi h) (hk:Kept (ay w.heap.size) wi wj) (hb:au wj w.heap.size 66 (af h')):tW w wj h':=
 ⟨hm.1.trans (hk.below hm.1.size (fun k hk=>by have:k=w.heap.size:=hk;omega)),hb,hm.2.2.bV hk (fun e=>by have:w.heap.size+1=w.heap.size:=e;omega)⟩
theorem J7 (s:Option Addr) (F:uB) (h:aq) (p:Option Addr) (n c:Nat) (rs:cH) (w:World) (hs:TJ w s F) (hn:n≤4611686018427387904) (hr:cM w p n rs)
 (hl:∀i,i<6→(fa F rs (aB i)).length≤140737488351232):
 Calls Tryz.prog 112 #[.pointer s,.agg (af h),.slice p n c] w fun e w'=>e=.returned (lB (cU F rs h))∧Below w.heap.size w w':=by
 obtain⟨V,hV⟩:∃V:Nat→List UInt8,V=fun i=>fa F rs (aB i):=⟨_,rfl⟩
 have G:Hid (∀(i:Nat) (wi:World),Below w.heap.size w wi→Calls Tryz.prog 144 #[.pointer s,.string (str (aB i)),.slice p n c] wi fun e w'=>e=.returned (.string (str (V i)))∧Below wi.heap.size wi w'):=
  Qh (fun i wi A=>by rw[hV];exact Mw s F (aB i) p n c rs wi (hs.below A) hn (hr.below A))
 have W:Hid (∀i,i<6→(V i).length≤140737488351232):=Qh (by rw[hV];exact hl);rw[show cU F rs h=fN V h by rw[hV];rfl];clear hl hs hr hn hV;obtain⟨U,hU⟩:∃U:aq × Int,fN V h=U:=⟨_,rfl⟩
 rw[hU];have HU:=Qh hU;clear hU;simp only[af];obtain⟨o0,d⟩:∃o,fh false (V 0) h.uid=o:=⟨_,rfl⟩
 cases o0 with
 |none=>
  have X:=Qh d;clear d
  go_enter Tryz.func112,Tryz.ntmps112
  go_wp2_with fail
  have L:Hid (tW w ((w.alloc (.cells (af h) 66)).alloc (.cells (af ch) 66)) h):=by
   have D:=au.new (w.alloc (.cells (af h) 66)) 66 (af ch);rw[World.size_alloc]at D;exact Qh ⟨((Below.refl _ w).alloc (Qk _) _).alloc (by simp) _,(au.new w 66 (af h)).alloc _,D⟩
  refine(G.out 4 _ L.out.1).mono ?_;rintro e w1 ⟨rfl,A⟩;have M:=Qh (L.out.below A);clear A L;go_wp2_with fail;refine(cB (V 4) _ 0 _ (af h) h.name w1 M.out.2.1 (by show 0<9;decide) rfl).mono ?_;rintro e w2 ⟨rfl,A,hk⟩;have I:=Qh (M.out.put (h':={h with name:=aJ (V 4) h.name}) hk A);clear A hk M;go_wp2_with fail;refine(G.out 5 _ I.out.1).mono ?_;rintro e w3 ⟨rfl,A⟩;have H:=Qh (I.out.below A);clear A I;go_wp2_with fail;refine(cB (V 5) _ 1 _ _ h.link w3 H.out.2.1 (by show 1<9;decide) rfl).mono ?_;rintro e w4 ⟨rfl,A,hk⟩;have N:=Qh (H.out.put (h':={h with name:=aJ (V 4) h.name,link:=aJ (V 5) h.link}) hk A);clear A hk H;go_wp2_with fail;refine(G.out 0 _ N.out.1).mono ?_;rintro e w5 ⟨rfl,A⟩;have J:=Qh (N.out.below A);clear A N;go_wp2_with fail;refine(aY false (V 0) (W.out 0 (by omega)) _ 4 _ _ h.uid w5 J.out.2.1 (by show 4<9;decide) rfl).mono ?_;rw[X.out];rintro e w6 ⟨rfl,A,hk⟩;have O:=Qh (J.out.put (h':={h with name:=aJ (V 4) h.name,link:=aJ (V 5) h.link,uid:=0}) hk A);clear A hk J;have B:=O.out.2.2;have f:=B.cell 0;have l:=B.cell 1;have m:=B.cell 2;have q:=B.cell 3;have r:=B.cell 4;have y:=B.cell 5;have r6:=B.cell 6;have r7:=B.cell 7;have r8:=B.cell 8;have f0:=B.frozen 0;have f1:=B.frozen 1;have f2:=B.frozen 2;have f3:=B.frozen 3;have f4:=B.frozen 4;have f5:=B.frozen 5;have f6:=B.frozen 6;have f7:=B.frozen 7;have f8:=B.frozen 8;simp only[af,ch,Qc,Qa,Qb]at f l m q r y r6 r7 r8;clear B;have E:Hid (U=(ch,4)):=Qh (by rw[←HU.out];unfold fN;simp only[X.out]);go_wp2;refine bodyPost_ret (lM rfl _ _ (w.heap.size+1) _ rfl rfl ch (mZ O.out.2.2 _ _ _ _ _ _ _ _ _)) rfl ?_;exact⟨by rw[E.out];rfl,eC O.out.1 (by omega) _ _ _ _ _ _ _ _ _⟩
 |some u=>
  have X:=Qh d;clear d;obtain⟨o1,yH⟩:∃o,fh false (V 1) h.gid=o:=⟨_,rfl⟩
  cases o1 with
  |none=>
   have b:=Qh yH;clear yH
   go_enter Tryz.func112,Tryz.ntmps112
   go_wp2_with fail
   have L:Hid (tW w ((w.alloc (.cells (af h) 66)).alloc (.cells (af ch) 66)) h):=by
    have D:=au.new (w.alloc (.cells (af h) 66)) 66 (af ch);rw[World.size_alloc]at D;exact Qh ⟨((Below.refl _ w).alloc (Qk _) _).alloc (by simp) _,(au.new w 66 (af h)).alloc _,D⟩
   refine(G.out 4 _ L.out.1).mono ?_;rintro e w1 ⟨rfl,A⟩;have M:=Qh (L.out.below A);clear A L;go_wp2_with fail;refine(cB (V 4) _ 0 _ (af h) h.name w1 M.out.2.1 (by show 0<9;decide) rfl).mono ?_;rintro e w2 ⟨rfl,A,hk⟩;have I:=Qh (M.out.put (h':={h with name:=aJ (V 4) h.name}) hk A);clear A hk M;go_wp2_with fail;refine(G.out 5 _ I.out.1).mono ?_;rintro e w3 ⟨rfl,A⟩;have H:=Qh (I.out.below A);clear A I;go_wp2_with fail;refine(cB (V 5) _ 1 _ _ h.link w3 H.out.2.1 (by show 1<9;decide) rfl).mono ?_;rintro e w4 ⟨rfl,A,hk⟩;have N:=Qh (H.out.put (h':={h with name:=aJ (V 4) h.name,link:=aJ (V 5) h.link}) hk A);clear A hk H;go_wp2_with fail;refine(G.out 0 _ N.out.1).mono ?_;rintro e w5 ⟨rfl,A⟩;have J:=Qh (N.out.below A);clear A N;go_wp2_with fail;refine(aY false (V 0) (W.out 0 (by omega)) _ 4 _ _ h.uid w5 J.out.2.1 (by show 4<9;decide) rfl).mono ?_;rw[X.out];rintro e w6 ⟨rfl,A,hk⟩;have O:=Qh (J.out.put (h':={h with name:=aJ (V 4) h.name,link:=aJ (V 5) h.link,uid:=u}) hk A);clear A hk J;go_wp2_with fail;refine(G.out 1 _ O.out.1).mono ?_;rintro e w7 ⟨rfl,A⟩;have R:=Qh (O.out.below A);clear A O;go_wp2_with fail;refine(aY false (V 1) (W.out 1 (by omega)) _ 5 _ _ h.gid w7 R.out.2.1 (by show 5<9;decide) rfl).mono ?_;rw[b.out];rintro e w8 ⟨rfl,A,hk⟩;have T:=Qh (R.out.put (h':={h with name:=aJ (V 4) h.name,link:=aJ (V 5) h.link,uid:=u,gid:=0}) hk A);clear A hk R;have B:=T.out.2.2;have f:=B.cell 0;have l:=B.cell 1;have m:=B.cell 2;have q:=B.cell 3;have r:=B.cell 4;have y:=B.cell 5;have r6:=B.cell 6;have r7:=B.cell 7;have r8:=B.cell 8;have f0:=B.frozen 0;have f1:=B.frozen 1;have f2:=B.frozen 2;have f3:=B.frozen 3;have f4:=B.frozen 4;have f5:=B.frozen 5;have f6:=B.frozen 6;have f7:=B.frozen 7;have f8:=B.frozen 8;simp only[af,ch,Qc,Qa,Qb]at f l m q r y r6 r7 r8;clear B;have E:Hid (U=(ch,4)):=Qh (by rw[←HU.out];unfold fN;simp only[X.out,b.out]);go_wp2;refine bodyPost_ret (lM rfl _ _ (w.heap.size+1) _ rfl rfl ch (mZ T.out.2.2 _ _ _ _ _ _ _ _ _)) rfl ?_;exact⟨by rw[E.out];rfl,eC T.out.1 (by omega) _ _ _ _ _ _ _ _ _⟩
  |some g=>
   have b:=Qh yH;clear yH;obtain⟨o2,yI⟩:∃o,fh true (V 2) h.time=o:=⟨_,rfl⟩
   cases o2 with
   |none=>
    have N2:=Qh yI;clear yI
    go_enter Tryz.func112,Tryz.ntmps112
    go_wp2_with fail
    have L:Hid (tW w ((w.alloc (.cells (af h) 66)).alloc (.cells (af ch) 66)) h):=by
     have D:=au.new (w.alloc (.cells (af h) 66)) 66 (af ch);rw[World.size_alloc]at D;exact Qh ⟨((Below.refl _ w).alloc (Qk _) _).alloc (by simp) _,(au.new w 66 (af h)).alloc _,D⟩
    refine(G.out 4 _ L.out.1).mono ?_;rintro e w1 ⟨rfl,A⟩;have M:=Qh (L.out.below A);clear A L;go_wp2_with fail;refine(cB (V 4) _ 0 _ (af h) h.name w1 M.out.2.1 (by show 0<9;decide) rfl).mono ?_;rintro e w2 ⟨rfl,A,hk⟩;have I:=Qh (M.out.put (h':={h with name:=aJ (V 4) h.name}) hk A);clear A hk M;go_wp2_with fail;refine(G.out 5 _ I.out.1).mono ?_;rintro e w3 ⟨rfl,A⟩;have H:=Qh (I.out.below A);clear A I;go_wp2_with fail;refine(cB (V 5) _ 1 _ _ h.link w3 H.out.2.1 (by show 1<9;decide) rfl).mono ?_;rintro e w4 ⟨rfl,A,hk⟩;have N:=Qh (H.out.put (h':={h with name:=aJ (V 4) h.name,link:=aJ (V 5) h.link}) hk A);clear A hk H;go_wp2_with fail;refine(G.out 0 _ N.out.1).mono ?_;rintro e w5 ⟨rfl,A⟩;have J:=Qh (N.out.below A);clear A N;go_wp2_with fail;refine(aY false (V 0) (W.out 0 (by omega)) _ 4 _ _ h.uid w5 J.out.2.1 (by show 4<9;decide) rfl).mono ?_;rw[X.out];rintro e w6 ⟨rfl,A,hk⟩;have O:=Qh (J.out.put (h':={h with name:=aJ (V 4) h.name,link:=aJ (V 5) h.link,uid:=u}) hk A);clear A hk J;go_wp2_with fail;refine(G.out 1 _ O.out.1).mono ?_;rintro e w7 ⟨rfl,A⟩;have R:=Qh (O.out.below A);clear A O;go_wp2_with fail;refine(aY false (V 1) (W.out 1 (by omega)) _ 5 _ _ h.gid w7 R.out.2.1 (by show 5<9;decide) rfl).mono ?_;rw[b.out];rintro e w8 ⟨rfl,A,hk⟩;have T:=Qh (R.out.put (h':={h with name:=aJ (V 4) h.name,link:=aJ (V 5) h.link,uid:=u,gid:=g}) hk A);clear A hk R;go_wp2_with fail;refine(G.out 2 _ T.out.1).mono ?_;rintro e w9 ⟨rfl,A⟩;have Z:=Qh (T.out.below A);clear A T;go_wp2_with fail
    refine(aY true (V 2) (W.out 2 (by omega)) _ 6 _ _ h.time w9 Z.out.2.1 (by show 6<9;decide) rfl).mono ?_;rw[N2.out];rintro e Tl ⟨rfl,A,hk⟩;have Y:=Qh (Z.out.put (h':={h with name:=aJ (V 4) h.name,link:=aJ (V 5) h.link,uid:=u,gid:=g,time:=0}) hk A);clear A hk Z;have B:=Y.out.2.2;have f:=B.cell 0;have l:=B.cell 1;have m:=B.cell 2;have q:=B.cell 3;have r:=B.cell 4;have y:=B.cell 5;have r6:=B.cell 6;have r7:=B.cell 7;have r8:=B.cell 8;have f0:=B.frozen 0;have f1:=B.frozen 1;have f2:=B.frozen 2;have f3:=B.frozen 3;have f4:=B.frozen 4;have f5:=B.frozen 5;have f6:=B.frozen 6;have f7:=B.frozen 7;have f8:=B.frozen 8;simp only[af,ch,Qc,Qa,Qb]at f l m q r y r6 r7 r8;clear B;have E:Hid (U=(ch,4)):=Qh (by rw[←HU.out];unfold fN;simp only[X.out,b.out,N2.out]);go_wp2;refine bodyPost_ret (lM rfl _ _ (w.heap.size+1) _ rfl rfl ch (mZ Y.out.2.2 _ _ _ _ _ _ _ _ _)) rfl ?_;exact⟨by rw[E.out];rfl,eC Y.out.1 (by omega) _ _ _ _ _ _ _ _ _⟩
   |some t=>
    have N2:=Qh yI;clear yI;obtain⟨o3,XF⟩:∃o,fh false (V 3) h.size=o:=⟨_,rfl⟩
    cases o3 with
    |none=>
     have N3:=Qh XF;clear XF
     go_enter Tryz.func112,Tryz.ntmps112
     go_wp2_with fail
     have L:Hid (tW w ((w.alloc (.cells (af h) 66)).alloc (.cells (af ch) 66)) h):=by
      have D:=au.new (w.alloc (.cells (af h) 66)) 66 (af ch);rw[World.size_alloc]at D;exact Qh ⟨((Below.refl _ w).alloc (Qk _) _).alloc (by simp) _,(au.new w 66 (af h)).alloc _,D⟩
     refine(G.out 4 _ L.out.1).mono ?_;rintro e w1 ⟨rfl,A⟩;have M:=Qh (L.out.below A);clear A L;go_wp2_with fail;refine(cB (V 4) _ 0 _ (af h) h.name w1 M.out.2.1 (by show 0<9;decide) rfl).mono ?_;rintro e w2 ⟨rfl,A,hk⟩;have I:=Qh (M.out.put (h':={h with name:=aJ (V 4) h.name}) hk A);clear A hk M;go_wp2_with fail;refine(G.out 5 _ I.out.1).mono ?_;rintro e w3 ⟨rfl,A⟩;have H:=Qh (I.out.below A);clear A I;go_wp2_with fail;refine(cB (V 5) _ 1 _ _ h.link w3 H.out.2.1 (by show 1<9;decide) rfl).mono ?_;rintro e w4 ⟨rfl,A,hk⟩;have N:=Qh (H.out.put (h':={h with name:=aJ (V 4) h.name,link:=aJ (V 5) h.link}) hk A);clear A hk H;go_wp2_with fail;refine(G.out 0 _ N.out.1).mono ?_;rintro e w5 ⟨rfl,A⟩;have J:=Qh (N.out.below A);clear A N;go_wp2_with fail;refine(aY false (V 0) (W.out 0 (by omega)) _ 4 _ _ h.uid w5 J.out.2.1 (by show 4<9;decide) rfl).mono ?_;rw[X.out];rintro e w6 ⟨rfl,A,hk⟩;have O:=Qh (J.out.put (h':={h with name:=aJ (V 4) h.name,link:=aJ (V 5) h.link,uid:=u}) hk A);clear A hk J;go_wp2_with fail;refine(G.out 1 _ O.out.1).mono ?_;rintro e w7 ⟨rfl,A⟩;have R:=Qh (O.out.below A);clear A O;go_wp2_with fail;refine(aY false (V 1) (W.out 1 (by omega)) _ 5 _ _ h.gid w7 R.out.2.1 (by show 5<9;decide) rfl).mono ?_;rw[b.out];rintro e w8 ⟨rfl,A,hk⟩;have T:=Qh (R.out.put (h':={h with name:=aJ (V 4) h.name,link:=aJ (V 5) h.link,uid:=u,gid:=g}) hk A);clear A hk R;go_wp2_with fail;refine(G.out 2 _ T.out.1).mono ?_;rintro e w9 ⟨rfl,A⟩;have Z:=Qh (T.out.below A);clear A T;go_wp2_with fail
     refine(aY true (V 2) (W.out 2 (by omega)) _ 6 _ _ h.time w9 Z.out.2.1 (by show 6<9;decide) rfl).mono ?_;rw[N2.out];rintro e Tl ⟨rfl,A,hk⟩;have Y:=Qh (Z.out.put (h':={h with name:=aJ (V 4) h.name,link:=aJ (V 5) h.link,uid:=u,gid:=g,time:=t}) hk A);clear A hk Z;go_wp2_with fail;refine(G.out 3 _ Y.out.1).mono ?_;rintro e XK ⟨rfl,A⟩;have Ed:=Qh (Y.out.below A);clear A Y;go_wp2_with fail;refine(aY false (V 3) (W.out 3 (by omega)) _ 7 _ _ h.size XK Ed.out.2.1 (by show 7<9;decide) rfl).mono ?_;rw[N3.out];rintro e w12 ⟨rfl,A,hk⟩;have Bw:=Qh (Ed.out.put (h':={h with name:=aJ (V 4) h.name,link:=aJ (V 5) h.link,uid:=u,gid:=g,time:=t,size:=0}) hk A);clear A hk Ed;have B:=Bw.out.2.2;have f:=B.cell 0;have l:=B.cell 1;have m:=B.cell 2;have q:=B.cell 3;have r:=B.cell 4;have y:=B.cell 5;have r6:=B.cell 6;have r7:=B.cell 7;have r8:=B.cell 8;have f0:=B.frozen 0;have f1:=B.frozen 1;have f2:=B.frozen 2;have f3:=B.frozen 3;have f4:=B.frozen 4;have f5:=B.frozen 5;have f6:=B.frozen 6;have f7:=B.frozen 7;have f8:=B.frozen 8;simp only[af,ch,Qc,Qa,Qb]at f l m q r y r6 r7 r8;clear B;have E:Hid (U=(ch,4)):=Qh (by rw[←HU.out];unfold fN;simp only[X.out,b.out,N2.out,N3.out]);go_wp2;refine bodyPost_ret (lM rfl _ _ (w.heap.size+1) _ rfl rfl ch (mZ Bw.out.2.2 _ _ _ _ _ _ _ _ _)) rfl ?_;exact⟨by rw[E.out];rfl,eC Bw.out.1 (by omega) _ _ _ _ _ _ _ _ _⟩
    |some z=>
     have N3:=Qh XF;clear XF
     go_enter Tryz.func112,Tryz.ntmps112
     go_wp2_with fail
     have L:Hid (tW w ((w.alloc (.cells (af h) 66)).alloc (.cells (af ch) 66)) h):=by
      have D:=au.new (w.alloc (.cells (af h) 66)) 66 (af ch);rw[World.size_alloc]at D;exact Qh ⟨((Below.refl _ w).alloc (Qk _) _).alloc (by simp) _,(au.new w 66 (af h)).alloc _,D⟩
     refine(G.out 4 _ L.out.1).mono ?_;rintro e w1 ⟨rfl,A⟩;have M:=Qh (L.out.below A);clear A L;go_wp2_with fail;refine(cB (V 4) _ 0 _ (af h) h.name w1 M.out.2.1 (by show 0<9;decide) rfl).mono ?_;rintro e w2 ⟨rfl,A,hk⟩;have I:=Qh (M.out.put (h':={h with name:=aJ (V 4) h.name}) hk A);clear A hk M;go_wp2_with fail;refine(G.out 5 _ I.out.1).mono ?_;rintro e w3 ⟨rfl,A⟩;have H:=Qh (I.out.below A);clear A I;go_wp2_with fail;refine(cB (V 5) _ 1 _ _ h.link w3 H.out.2.1 (by show 1<9;decide) rfl).mono ?_;rintro e w4 ⟨rfl,A,hk⟩;have N:=Qh (H.out.put (h':={h with name:=aJ (V 4) h.name,link:=aJ (V 5) h.link}) hk A);clear A hk H;go_wp2_with fail;refine(G.out 0 _ N.out.1).mono ?_;rintro e w5 ⟨rfl,A⟩;have J:=Qh (N.out.below A);clear A N;go_wp2_with fail;refine(aY false (V 0) (W.out 0 (by omega)) _ 4 _ _ h.uid w5 J.out.2.1 (by show 4<9;decide) rfl).mono ?_;rw[X.out];rintro e w6 ⟨rfl,A,hk⟩;have O:=Qh (J.out.put (h':={h with name:=aJ (V 4) h.name,link:=aJ (V 5) h.link,uid:=u}) hk A);clear A hk J;go_wp2_with fail;refine(G.out 1 _ O.out.1).mono ?_;rintro e w7 ⟨rfl,A⟩;have R:=Qh (O.out.below A);clear A O;go_wp2_with fail;refine(aY false (V 1) (W.out 1 (by omega)) _ 5 _ _ h.gid w7 R.out.2.1 (by show 5<9;decide) rfl).mono ?_;rw[b.out];rintro e w8 ⟨rfl,A,hk⟩;have T:=Qh (R.out.put (h':={h with name:=aJ (V 4) h.name,link:=aJ (V 5) h.link,uid:=u,gid:=g}) hk A);clear A hk R;go_wp2_with fail;refine(G.out 2 _ T.out.1).mono ?_;rintro e w9 ⟨rfl,A⟩;have Z:=Qh (T.out.below A);clear A T;go_wp2_with fail
     refine(aY true (V 2) (W.out 2 (by omega)) _ 6 _ _ h.time w9 Z.out.2.1 (by show 6<9;decide) rfl).mono ?_;rw[N2.out];rintro e Tl ⟨rfl,A,hk⟩;have Y:=Qh (Z.out.put (h':={h with name:=aJ (V 4) h.name,link:=aJ (V 5) h.link,uid:=u,gid:=g,time:=t}) hk A);clear A hk Z;go_wp2_with fail;refine(G.out 3 _ Y.out.1).mono ?_;rintro e XK ⟨rfl,A⟩;have Ed:=Qh (Y.out.below A);clear A Y;go_wp2_with fail;refine(aY false (V 3) (W.out 3 (by omega)) _ 7 _ _ h.size XK Ed.out.2.1 (by show 7<9;decide) rfl).mono ?_;rw[N3.out];rintro e w12 ⟨rfl,A,hk⟩;have Bw:=Qh (Ed.out.put (h':={h with name:=aJ (V 4) h.name,link:=aJ (V 5) h.link,uid:=u,gid:=g,time:=t,size:=z}) hk A);clear A hk Ed;have B:=Bw.out.2.2;have f:=B.cell 0;have l:=B.cell 1;have m:=B.cell 2;have q:=B.cell 3;have r:=B.cell 4;have y:=B.cell 5;have r6:=B.cell 6;have r7:=B.cell 7;have r8:=B.cell 8;have f0:=B.frozen 0;have f1:=B.frozen 1;have f2:=B.frozen 2;have f3:=B.frozen 3;have f4:=B.frozen 4;have f5:=B.frozen 5;have f6:=B.frozen 6;have f7:=B.frozen 7;have f8:=B.frozen 8;simp only[af,ch,Qc,Qa,Qb]at f l m q r y r6 r7 r8;clear B;have D:=Bw.out.2.1;have c0:=D.cell 0;have c1:=D.cell 1;have c2:=D.cell 2;have c3:=D.cell 3;have c4:=D.cell 4;have c5:=D.cell 5;have c6:=D.cell 6;have c7:=D.cell 7;have c8:=D.cell 8;simp only[af,Qc,Qa,Qb]at c0 c1 c2 c3 c4 c5 c6 c7 c8;clear D;have E:Hid (U=({h with name:=aJ (V 4) h.name,link:=aJ (V 5) h.link,uid:=u,gid:=g,time:=t,size:=z},0)):=Qh (by rw[←HU.out];unfold fN;simp only[X.out,b.out,N2.out,N3.out]);go_wp2;refine bodyPost_ret (lM rfl _ _ (w.heap.size+1) _ rfl rfl {h with name:=aJ (V 4) h.name,link:=aJ (V 5) h.link,uid:=u,gid:=g,time:=t,size:=z} (mZ Bw.out.2.2 _ _ _ _ _ _ _ _ _)) rfl ?_
     exact⟨by rw[E.out];rfl,eC Bw.out.1 (by omega) _ _ _ _ _ _ _ _ _⟩
end Attr
namespace Mem
open Mk Block Hp Head Attr
theorem Ib (w:World):(zeroValue 178).run Tryz.prog w=.ok (.agg #[.string ⟨#[]⟩,.slice none 0 0]) w:=Tryz.zeroValue178 w
section
variable {w0 w w':World} {K:RK} {a:Nat} {s:RS} {mb:Option Nat} {v:Value} {xs:List MP} {q:Option Addr} {n c:Nat}
theorem Rd.c0 (h:Rd w0 w K a s mb v xs q n c):w.cell? ⟨K.r,0,none⟩=some (.pointer (some ⟨K.g,0,none⟩)):=h.fi.cell 0
theorem Rd.c1 (h:Rd w0 w K a s mb v xs q n c):w.cell? ⟨K.r,1,none⟩=some (.pointer (some ⟨K.gs,0,none⟩)):=h.fi.cell 1
theorem Rd.c2 (h:Rd w0 w K a s mb v xs q n c):w.cell? ⟨K.r,2,none⟩=some (.map (some K.mw)):=h.fi.cell 2
theorem Rd.c3 (h:Rd w0 w K a s mb v xs q n c):w.cell? ⟨K.r,3,none⟩=some v:=h.fi.cell 3
theorem cT (h:dd QY w K.mw (cD s q n c)) (k:UInt8) (m:Int) (hk:(k.toNat:Int)=m):
 (Instr.lookup 89 (.map (some K.mw)) (.int .u8 m) true).run Tryz.prog w=.ok (.tuple #[(cD s q n c k).getD (.agg #[.string ⟨#[]⟩,.slice none 0 0]),.bool (cD s q n c k).isSome]) w:=by
 subst hk;exact h.look_ok Tryz.underlying89 Tryz.underlying5 Ib k
theorem Rd.Wk (h:Rd w0 w K a s mb v xs q n c):
 (Instr.lookup 89 (.map (some K.mw)) (.int .u8 76) true).run Tryz.prog w=.ok (.tuple #[.agg #[.string (str (s.name.getD [])),.slice none 0 0],.bool s.name.isSome]) w:=by
 rw[cT h.map 76 76 rfl];have e:cD s q n c 76=s.name.map (fun t=>.agg #[.string (str t),.slice none 0 0]):=by unfold cD;rw[if_neg (by decide),if_pos rfl]
 rw[e]
 cases s.name<;>rfl
theorem Rd.AB (h:Rd w0 w K a s mb v xs q n c):
 (Instr.lookup 89 (.map (some K.mw)) (.int .u8 75) true).run Tryz.prog w=.ok (.tuple #[.agg #[.string (str (s.link.getD [])),.slice none 0 0],.bool s.link.isSome]) w:=by
 rw[cT h.map 75 75 rfl];have e:cD s q n c 75=s.link.map (fun t=>.agg #[.string (str t),.slice none 0 0]):=by unfold cD;rw[if_neg (by decide),if_neg (by decide),if_pos rfl]
 rw[e]
 cases s.link<;>rfl
theorem oM {fn:Func} (hf:fn.results=#[.cell 4 66]) (tmps:Array Value) (w:World) (g:Nat) (ht:tmps.getD 4 undef=.pointer (some ⟨g,0,none⟩))
 (h:aq) (hb:au w g 66 (af h)):(results fn tmps).run Tryz.prog w=.ok (.agg (af h)) w:=by
 have hl:=oF w g _ _ _ _ _ _ _ _ _ hb;have A:tmps[4]?.getD undef=.pointer (some ⟨g,0,none⟩):=by simpa using ht
 simp only[results,hf];simp[A,asAddr];rw[hl];rfl
theorem kL (h:aq) (hr:Rd w0 w K a s mb v xs q n c):
 Calls Tryz.prog 113 #[.pointer (some ⟨K.r,0,none⟩),.agg (af h)] w fun e w'=>e=.returned (.agg (af (fv h s)))∧Below w.heap.size w w':=by
 have p:Hid (tW w ((w.alloc (.cells (af h) 66)).alloc (.cells (af ch) 66)) h):=by
  have B:=au.new (w.alloc (.cells (af h) 66)) 66 (af ch);rw[World.size_alloc]at B;exact Qh ⟨((Below.refl _ w).alloc (Qk _) _).alloc (by simp) _,(au.new w 66 (af h)).alloc _,B⟩
 have V:=Qh hr;clear hr;obtain⟨sn,u⟩:∃x,s.name=x:=⟨_,rfl⟩
 obtain⟨sl,Cw⟩:∃x,s.link=x:=⟨_,rfl⟩
 have Xe:=Qh u;have t:=Qh Cw;clear u Cw;obtain⟨U,hU⟩:∃U,fv h s=U:=⟨_,rfl⟩
 rw[hU];have HU:Hid (U={h with name:=sn.getD h.name,link:=sl.getD h.link}):=Qh (by rw[←hU,←Xe.out,←t.out];rfl);clear hU;obtain⟨W1,ef⟩:∃W1,(w.alloc (.cells (af h) 66)).alloc (.cells (af ch) 66)=W1:=⟨_,rfl⟩
 rw[ef]at p
 go_enter Tryz.func113,Tryz.ntmps113
 go_upto_region 1 with fail
 rw[show(w.alloc (.cells (af h) 66)).alloc (.cells #[.string ⟨#[]⟩,.string ⟨#[]⟩,.int .u8 0,.int .i64 0,.int .i64 0,.int .i64 0,.int .i64 0,.int .i64 0,.bool false] 66)=W1 from ef];have R1:=Qh (V.out.below p.out.1);have N:=R1.out.c2;have W:=R1.out.Wk;rw[Xe.out]at W;clear ef
 cases sn with
 |none=>
  simp only[Option.getD_none,Option.isSome_none]at W
  cases sl with
  |none=>
   go_upto_region 2 with fail
   clear N W;obtain⟨W2,G⟩:∃W2,W1.alloc (.cells #[.string (str []),.slice none 0 0] 178)=W2:=⟨_,rfl⟩
   have J:W2.cell? ⟨W1.heap.size,0,none⟩=some (.string (str [])):=by rw[←G];exact(au.new W1 178 _).cell 0
   have M:Hid (tW w W2 h):=Qh (by rw[←G];exact p.out.below ((Below.refl _ W1).alloc (Qk _) _));have R2:=Qh (V.out.below M.out.1);rw[show W1.alloc (.cells #[.string (str []),.slice none 0 0] 178)=W2 from G];clear G;go_upto_region 4 with fail;clear J;obtain⟨W3,O⟩:∃W3,W2=W3:=⟨_,rfl⟩
   have L:=M;rw[O]at L⊢;clear O;have R:=Qh (V.out.below L.out.1);have N:=R.out.c2;have I:=R.out.AB;rw[t.out]at I;simp only[Option.getD_none,Option.isSome_none]at I;go_upto_region 5 with fail;clear N I;obtain⟨W4,H⟩:∃W4,W3.alloc (.cells #[.string (str []),.slice none 0 0] 178)=W4:=⟨_,rfl⟩
   have J:W4.cell? ⟨W3.heap.size,0,none⟩=some (.string (str [])):=by rw[←H];exact(au.new W3 178 _).cell 0
   have T:Hid (tW w W4 h):=Qh (by rw[←H];exact L.out.below ((Below.refl _ W3).alloc (Qk _) _));rw[show W3.alloc (.cells #[.string (str []),.slice none 0 0] 178)=W4 from H];clear H;go_upto_region 7 with fail;clear J;have D:=T;have A:=D.out.2.2;have Y:=A.cell 0;have f0:=A.frozen 0;have Z:=A.cell 1;have f1:=A.frozen 1;have b:=A.cell 2;have f2:=A.frozen 2;have d:=A.cell 3;have f3:=A.frozen 3;have f:=A.cell 4;have f4:=A.frozen 4;have g:=A.cell 5;have f5:=A.frozen 5;have l:=A.cell 6;have f6:=A.frozen 6;have m:=A.cell 7;have f7:=A.frozen 7;have o:=A.cell 8;have f8:=A.frozen 8;simp only[af,ch,Qc,Qa,Qb]at Y Z b d f g l m o;clear A;have B:=D.out.2.1;have c0:=B.cell 0;have c1:=B.cell 1;have c2:=B.cell 2;have c3:=B.cell 3;have c4:=B.cell 4;have c5:=B.cell 5;have c6:=B.cell 6;have c7:=B.cell 7;have X:=B.cell 8;simp only[af,Qc,Qa,Qb]at c0 c1 c2 c3 c4 c5 c6 c7 X;clear B;have E:Hid (U=h):=Qh (by rw[HU.out];rfl);go_wp2;refine bodyPost_ret (oM rfl _ _ (w.heap.size+1) rfl h (mZ D.out.2.2 _ _ _ _ _ _ _ _ _)) rfl ?_;exact⟨by rw[E.out],eC D.out.1 (by omega) _ _ _ _ _ _ _ _ _⟩
  |some lk=>
   go_upto_region 2 with fail
   clear N W;obtain⟨W2,G⟩:∃W2,W1.alloc (.cells #[.string (str []),.slice none 0 0] 178)=W2:=⟨_,rfl⟩
   have J:W2.cell? ⟨W1.heap.size,0,none⟩=some (.string (str [])):=by rw[←G];exact(au.new W1 178 _).cell 0
   have M:Hid (tW w W2 h):=Qh (by rw[←G];exact p.out.below ((Below.refl _ W1).alloc (Qk _) _));have R2:=Qh (V.out.below M.out.1);rw[show W1.alloc (.cells #[.string (str []),.slice none 0 0] 178)=W2 from G];clear G;go_upto_region 4 with fail;clear J;obtain⟨W3,O⟩:∃W3,W2=W3:=⟨_,rfl⟩
   have L:=M;rw[O]at L⊢;clear O;have R:=Qh (V.out.below L.out.1);have N:=R.out.c2;have I:=R.out.AB;rw[t.out]at I;simp only[Option.getD_some,Option.isSome_some]at I;go_upto_region 5 with fail;clear N I;obtain⟨W4,H⟩:∃W4,W3.alloc (.cells #[.string (str lk),.slice none 0 0] 178)=W4:=⟨_,rfl⟩
   have J:W4.cell? ⟨W3.heap.size,0,none⟩=some (.string (str lk)):=by rw[←H];exact(au.new W3 178 _).cell 0
   have T:Hid (tW w W4 h):=Qh (by rw[←H];exact L.out.below ((Below.refl _ W3).alloc (Qk _) _));rw[show W3.alloc (.cells #[.string (str lk),.slice none 0 0] 178)=W4 from H];clear H;have B:=T.out.2.1;have y1:=B.cell 1;have g1:=B.frozen 1;simp only[af,Qc,Qa,Qb]at y1;clear B;go_upto_region 7 with fail;have D:Hid (tW w (W4.setCell ⟨w.heap.size,1,none⟩ (.string (str lk))) {h with link:=lk}):=Qh (T.out.put (h':={h with link:=lk}) ((Kept.refl (ay w.heap.size) W4).setCell (a:=⟨w.heap.size,1,none⟩) (.inr rfl) _) (T.out.2.1.set 1 _ (by show 1<9;decide)));clear y1 g1 J;obtain⟨W5,y⟩:∃W5,W4.setCell ⟨w.heap.size,1,none⟩ (.string (str lk))=W5:=⟨_,rfl⟩
   rw[y]at D⊢;clear y;have A:=D.out.2.2;have Y:=A.cell 0;have f0:=A.frozen 0;have Z:=A.cell 1;have f1:=A.frozen 1;have b:=A.cell 2;have f2:=A.frozen 2;have d:=A.cell 3;have f3:=A.frozen 3;have f:=A.cell 4;have f4:=A.frozen 4;have g:=A.cell 5;have f5:=A.frozen 5;have l:=A.cell 6;have f6:=A.frozen 6;have m:=A.cell 7;have f7:=A.frozen 7;have o:=A.cell 8;have f8:=A.frozen 8;simp only[af,ch,Qc,Qa,Qb]at Y Z b d f g l m o;clear A;have B:=D.out.2.1;have c0:=B.cell 0;have c1:=B.cell 1;have c2:=B.cell 2;have c3:=B.cell 3;have c4:=B.cell 4;have c5:=B.cell 5;have c6:=B.cell 6;have c7:=B.cell 7;have X:=B.cell 8;simp only[af,Qc,Qa,Qb]at c0 c1 c2 c3 c4 c5 c6 c7 X;clear B;have E:Hid (U={h with link:=lk}):=Qh (by rw[HU.out];rfl);go_wp2;refine bodyPost_ret (oM rfl _ _ (w.heap.size+1) rfl {h with link:=lk} (mZ D.out.2.2 _ _ _ _ _ _ _ _ _)) rfl ?_;exact⟨by rw[E.out],eC D.out.1 (by omega) _ _ _ _ _ _ _ _ _⟩
 |some nm=>
  simp only[Option.getD_some,Option.isSome_some]at W
  cases sl with
  |none=>
   go_upto_region 2 with fail
   clear N W;obtain⟨W2,G⟩:∃W2,W1.alloc (.cells #[.string (str nm),.slice none 0 0] 178)=W2:=⟨_,rfl⟩
   have J:W2.cell? ⟨W1.heap.size,0,none⟩=some (.string (str nm)):=by rw[←G];exact(au.new W1 178 _).cell 0
   have M:Hid (tW w W2 h):=Qh (by rw[←G];exact p.out.below ((Below.refl _ W1).alloc (Qk _) _));have R2:=Qh (V.out.below M.out.1);rw[show W1.alloc (.cells #[.string (str nm),.slice none 0 0] 178)=W2 from G];clear G;have B:=M.out.2.1;have z:=B.cell 0;have g0:=B.frozen 0;simp only[af,Qc,Qa]at z;clear B;go_upto_region 4 with fail;have L:Hid (tW w (W2.setCell ⟨w.heap.size,0,none⟩ (.string (str nm))) {h with name:=nm}):=Qh (M.out.put (h':={h with name:=nm}) ((Kept.refl (ay w.heap.size) W2).setCell (a:=⟨w.heap.size,0,none⟩) (.inr rfl) _) (M.out.2.1.set 0 _ (by show 0<9;decide)));clear z g0 J;obtain⟨W3,O⟩:∃W3,W2.setCell ⟨w.heap.size,0,none⟩ (.string (str nm))=W3:=⟨_,rfl⟩
   rw[O]at L⊢;clear O;have R:=Qh (V.out.below L.out.1);have N:=R.out.c2;have I:=R.out.AB;rw[t.out]at I;simp only[Option.getD_none,Option.isSome_none]at I;go_upto_region 5 with fail;clear N I;obtain⟨W4,H⟩:∃W4,W3.alloc (.cells #[.string (str []),.slice none 0 0] 178)=W4:=⟨_,rfl⟩
   have J:W4.cell? ⟨W3.heap.size,0,none⟩=some (.string (str [])):=by rw[←H];exact(au.new W3 178 _).cell 0
   have T:Hid (tW w W4 {h with name:=nm}):=Qh (by rw[←H];exact L.out.below ((Below.refl _ W3).alloc (Qk _) _));rw[show W3.alloc (.cells #[.string (str []),.slice none 0 0] 178)=W4 from H];clear H;go_upto_region 7 with fail;clear J;have D:=T;have A:=D.out.2.2;have Y:=A.cell 0;have f0:=A.frozen 0;have Z:=A.cell 1;have f1:=A.frozen 1;have b:=A.cell 2;have f2:=A.frozen 2;have d:=A.cell 3;have f3:=A.frozen 3;have f:=A.cell 4;have f4:=A.frozen 4;have g:=A.cell 5;have f5:=A.frozen 5;have l:=A.cell 6;have f6:=A.frozen 6;have m:=A.cell 7;have f7:=A.frozen 7;have o:=A.cell 8;have f8:=A.frozen 8;simp only[af,ch,Qc,Qa,Qb]at Y Z b d f g l m o;clear A;have B:=D.out.2.1;have c0:=B.cell 0;have c1:=B.cell 1;have c2:=B.cell 2;have c3:=B.cell 3;have c4:=B.cell 4;have c5:=B.cell 5;have c6:=B.cell 6;have c7:=B.cell 7;have X:=B.cell 8;simp only[af,Qc,Qa,Qb]at c0 c1 c2 c3 c4 c5 c6 c7 X;clear B;have E:Hid (U={h with name:=nm}):=Qh (by rw[HU.out];rfl);go_wp2;refine bodyPost_ret (oM rfl _ _ (w.heap.size+1) rfl {h with name:=nm} (mZ D.out.2.2 _ _ _ _ _ _ _ _ _)) rfl ?_;exact⟨by rw[E.out],eC D.out.1 (by omega) _ _ _ _ _ _ _ _ _⟩
  |some lk=>
   go_upto_region 2 with fail
   clear N W;obtain⟨W2,G⟩:∃W2,W1.alloc (.cells #[.string (str nm),.slice none 0 0] 178)=W2:=⟨_,rfl⟩
   have J:W2.cell? ⟨W1.heap.size,0,none⟩=some (.string (str nm)):=by rw[←G];exact(au.new W1 178 _).cell 0
   have M:Hid (tW w W2 h):=Qh (by rw[←G];exact p.out.below ((Below.refl _ W1).alloc (Qk _) _));have R2:=Qh (V.out.below M.out.1);rw[show W1.alloc (.cells #[.string (str nm),.slice none 0 0] 178)=W2 from G];clear G;have B:=M.out.2.1;have z:=B.cell 0;have g0:=B.frozen 0;simp only[af,Qc,Qa]at z;clear B;go_upto_region 4 with fail;have L:Hid (tW w (W2.setCell ⟨w.heap.size,0,none⟩ (.string (str nm))) {h with name:=nm}):=Qh (M.out.put (h':={h with name:=nm}) ((Kept.refl (ay w.heap.size) W2).setCell (a:=⟨w.heap.size,0,none⟩) (.inr rfl) _) (M.out.2.1.set 0 _ (by show 0<9;decide)));clear z g0 J;obtain⟨W3,O⟩:∃W3,W2.setCell ⟨w.heap.size,0,none⟩ (.string (str nm))=W3:=⟨_,rfl⟩
   rw[O]at L⊢;clear O;have R:=Qh (V.out.below L.out.1);have N:=R.out.c2;have I:=R.out.AB;rw[t.out]at I;simp only[Option.getD_some,Option.isSome_some]at I;go_upto_region 5 with fail;clear N I;obtain⟨W4,H⟩:∃W4,W3.alloc (.cells #[.string (str lk),.slice none 0 0] 178)=W4:=⟨_,rfl⟩
   have J:W4.cell? ⟨W3.heap.size,0,none⟩=some (.string (str lk)):=by rw[←H];exact(au.new W3 178 _).cell 0
   have T:Hid (tW w W4 {h with name:=nm}):=Qh (by rw[←H];exact L.out.below ((Below.refl _ W3).alloc (Qk _) _));rw[show W3.alloc (.cells #[.string (str lk),.slice none 0 0] 178)=W4 from H];clear H;have B:=T.out.2.1;have y1:=B.cell 1;have g1:=B.frozen 1;simp only[af,Qc,Qa,Qb]at y1;clear B;go_upto_region 7 with fail;have D:Hid (tW w (W4.setCell ⟨w.heap.size,1,none⟩ (.string (str lk))) {h with name:=nm,link:=lk}):=Qh (T.out.put (h':={h with name:=nm,link:=lk}) ((Kept.refl (ay w.heap.size) W4).setCell (a:=⟨w.heap.size,1,none⟩) (.inr rfl) _) (T.out.2.1.set 1 _ (by show 1<9;decide)));clear y1 g1 J;obtain⟨W5,y⟩:∃W5,W4.setCell ⟨w.heap.size,1,none⟩ (.string (str lk))=W5:=⟨_,rfl⟩
   rw[y]at D⊢;clear y;have A:=D.out.2.2;have Y:=A.cell 0;have f0:=A.frozen 0;have Z:=A.cell 1;have f1:=A.frozen 1;have b:=A.cell 2;have f2:=A.frozen 2;have d:=A.cell 3;have f3:=A.frozen 3;have f:=A.cell 4;have f4:=A.frozen 4;have g:=A.cell 5;have f5:=A.frozen 5;have l:=A.cell 6;have f6:=A.frozen 6;have m:=A.cell 7;have f7:=A.frozen 7;have o:=A.cell 8;have f8:=A.frozen 8;simp only[af,ch,Qc,Qa,Qb]at Y Z b d f g l m o;clear A;have B:=D.out.2.1;have c0:=B.cell 0;have c1:=B.cell 1;have c2:=B.cell 2;have c3:=B.cell 3;have c4:=B.cell 4;have c5:=B.cell 5;have c6:=B.cell 6;have c7:=B.cell 7;have X:=B.cell 8;simp only[af,Qc,Qa,Qb]at c0 c1 c2 c3 c4 c5 c6 c7 X;clear B;have E:Hid (U={h with name:=nm,link:=lk}):=Qh (by rw[HU.out];rfl);go_wp2;refine bodyPost_ret (oM rfl _ _ (w.heap.size+1) rfl {h with name:=nm,link:=lk} (mZ D.out.2.2 _ _ _ _ _ _ _ _ _)) rfl ?_;exact⟨by rw[E.out],eC D.out.1 (by omega) _ _ _ _ _ _ _ _ _⟩
end
theorem eR (p:Option Addr) (c:Nat) (X:List UInt8) (w:World) (hl:X.length=512) (h:cK w p 512 X):
 Calls Tryz.prog 72 #[.slice p 512 c] w fun e w'=>e=.returned (.bool (eu X))∧w=w':=by
 have:=Qy p 512 c X w (by omega) h
 rwa [Dh hl]at this
def Fa (l2:List UInt8) (s:RS):Int:=if l2.length<512 then 2 else if eu l2=false then 9 else if s.fx=true∨s.name.isSome=true∨s.link.isSome=true then 5 else 0
theorem MD (l:List UInt8):eu l=(eu (l.take 512)&&eu (l.drop 512)):=by
 conv=>lhs;rw[←List.take_append_drop 512 l]
 unfold eu;rw[List.all_append]
section
variable {w0 w w':World} {K:RK} {a:Nat} {s:RS} {mb:Option Nat} {v:Value} {xs:List MP} {q:Option Addr} {n c:Nat}
theorem zB (s:RS) (q:Option Addr) (n c:Nat):(∀x,cD s q n c x=none)↔¬(s.fx=true∨s.name.isSome=true∨s.link.isSome=true):=by
 constructor
 ·intro h e
  have D:=h 120;have h1:=h 76;have B:=h 75;unfold cD at D h1 B;rw[if_pos rfl]at D;rw[if_neg (by decide),if_pos rfl]at h1;rw[if_neg (by decide),if_neg (by decide),if_pos rfl]at B;rcases e with e|e|e
  ·rw[if_pos e]at D
   cases D
  ·obtain⟨x,A⟩:=Option.isSome_iff_exists.1 e
   rw[A]at h1
   cases h1
  ·obtain⟨x,A⟩:=Option.isSome_iff_exists.1 e
   rw[A]at B
   cases B
 ·intro h k
  have h1:s.fx=false:=by
   cases A:s.fx with
   |false=>rfl
   |true=>exact absurd (.inl A) h
  have B:s.name=none:=by
   cases A:s.name with
   |none=>rfl
   |some t=>exact absurd (.inr (.inl (by rw[A];rfl))) h
  have E:s.link=none:=by
   cases A:s.link with
   |none=>rfl
   |some t=>exact absurd (.inr (.inr (by rw[A];rfl))) h
  unfold cD;rw[h1,B,E];simp
def Hf (w0:World) (K:RK) (a:Nat) (s:RS) (mb:Option Nat) (v:Value) (xs:List MP) (q:Option Addr) (n c:Nat) (r:Int) (e:Ending) (w':World):Prop:=
 e=.returned (.int .i64 r)∧∃a',Rd w0 w' K a' s mb v xs q n c
theorem zR (hr:Rd w0 w K a s mb v xs q n c):
 Calls Tryz.prog 73 #[.pointer (some ⟨K.r,0,none⟩)] w (Hf w0 K a s mb v xs q n c (Fa (K.S.bs.drop a) s)):=by
 obtain⟨t,hs⟩:=hr.src;have hlen:=hs.len;have hle:=hs.le;have R:=Qh hr;have HS:=Qh hs;have x0:=hr.c0;have T:(K.S.bs.drop a).length=K.S.n - a:=by rw[Qe,hlen]
 obtain⟨E,A⟩:∃E,Fa (K.S.bs.drop a) s=E:=⟨_,rfl⟩
 rw[A];unfold Fa at A
 by_cases h1:a=K.S.n
 ·rw[if_pos (by omega)]at A
  subst A;have B:=rz w K.g a t K.S hs hr.off;rw[show xB K.S.bs a=(14,[],a) by unfold xB;rw[if_pos (by omega)]]at B;clear hr hs hlen hle T h1
  go_enter Tryz.func73,Tryz.ntmps73
  go_wp2_with fail
  refine B.mono ?_;rintro e O ⟨p,m,U,I,rfl,h1,D,M,G,H⟩;have F:=Qh (R.out.gn H ⟨I,G⟩);clear h1 D M G H B x0;go_wp2;go_ret;exact⟨rfl,_,F.out⟩
 ·by_cases D:a+512≤K.S.n
  ·rw[if_neg (by omega),MD]at A
   have B:=rz w K.g a t K.S hs hr.off;rw[show xB K.S.bs a=(0,(K.S.bs.drop a).take 512,a+512) by unfold xB;rw[if_neg (by omega),if_pos (by omega)]]at B;obtain⟨X,W⟩:∃X,(K.S.bs.drop a).take 512=X:=⟨_,rfl⟩
   have u:X.length=512:=by rw[←W,Qg];omega
   rw[W]at A B;obtain⟨Z,b⟩:∃Z,eu X=Z:=⟨_,rfl⟩
   obtain⟨Y,N⟩:∃Y,eu ((K.S.bs.drop a).drop 512)=Y:=⟨_,rfl⟩
   rw[b,N]at A;rw[List.drop_drop]at N;have o:=Qh u;have z:=Qh b;have y:=Qh N;have J:=Qh A;clear hr hs hlen hle T h1 D W u b N A
   go_enter Tryz.func73,Tryz.ntmps73
   go_wp2_with fail
   refine B.mono ?_;rintro e O ⟨p,m,U,I,rfl,h1,D,M,G,H⟩;obtain rfl:m=512:=by rw[←h1];exact o.out
   have F:=Qh (R.out.gn H ⟨I,G⟩);have MH:=Qh G;have bT:=Qh D;clear h1 D M G H B x0;go_wp2_with fail;refine(eR p U X O o.out bT.out).mono ?_;rw[z.out];rintro e w2 ⟨rfl,rfl⟩
   cases Z with
   |false=>
    have A:=J.out;simp only[Bool.false_and,if_true]at A;subst A;go_wp2;go_ret;exact⟨rfl,_,F.out⟩
   |true=>
    have x0:=F.out.c0;go_wp2_with fail;refine(PQ O K.g (a+512) I K.S MH.out).mono ?_;rw[show zf (K.S.bs.drop (a+512))=Y from y.out];rintro e w3 ⟨rfl,f,l⟩;have L:=Qh (F.out.gn (l.dY _) ⟨I,f⟩);clear f l x0
    cases Y with
    |false=>
     have A:=J.out;simp only[Bool.and_false,if_true]at A;subst A;go_wp2;go_ret;exact⟨rfl,_,L.out⟩
    |true=>
     have x2:=L.out.c2;have A:=J.out;rw[if_neg (by decide)]at A;have J:=Qh A;clear A;obtain⟨k,dX,d⟩:=L.out.map.count Tryz.underlying89 3;have hk:=Qh d;clear d
     by_cases V:k=0
     ·have A:=J.out
      rw[if_neg ((zB _ _ _ _).1 (hk.out.1 V))]at A;subst A V;clear hk;go_wp2;go_ret;exact⟨rfl,_,L.out⟩
     ·have A:=J.out
      rw[if_pos (Classical.byContradiction fun hn=>V (hk.out.2 ((zB _ _ _ _).2 hn)))]at A;subst A;have vD:(0:Int)<(k:Int):=by omega
      clear hk;go_wp2;go_ret;exact⟨rfl,_,L.out⟩
  ·rw[if_pos (by omega)]at A
   subst A;have B:=rz w K.g a t K.S hs hr.off;rw[show xB K.S.bs a=(2,[],K.S.bs.length) by unfold xB;rw[if_neg (by omega),if_neg (by omega)]]at B;clear hr hs hlen hle T h1 D
   go_enter Tryz.func73,Tryz.ntmps73
   go_wp2_with fail
   refine B.mono ?_;rintro e O ⟨p,m,U,I,rfl,h1,D,M,G,H⟩;have F:=Qh (R.out.gn H ⟨I,G⟩);clear h1 D M G H B x0;go_wp2;go_ret;exact⟨rfl,_,F.out⟩
end
end Mem
namespace Mem
open Mk Block Hp Head Attr Go.Shelf
theorem B5 (p:Option Addr) (n b2:Nat) (bs:List UInt8) (w:World) (hn:bs.length=n) (hm:n≤140737488351232) (h:cK w p n bs) (h2:w.cell? ⟨b2,0,none⟩=some (.int .u8 0)):
 Calls Tryz.prog 109 #[.slice p n n,.slice (some ⟨b2,0,none⟩) 1 1] w fun e w'=>∃v2 v3,e=.returned (.tuple #[.slice p (aK bs).length n,v2,v3])∧Kept ai w w':=by
 rcases Nat.eq_zero_or_pos n with h0|h0
 ·subst h0
  obtain rfl:bs=[]:=List.eq_nil_of_length_eq_zero hn;rcases p with _|x
  ·refine(Any.bytes_Cut_of Tryz.kE none (some ⟨b2,0,none⟩) 0 0 1 1 (-1) w (Qk _) (by omega) (by omega) (by omega) ((Any.bytes_Index_one_nil Tryz.kE.index b2 0 1 0 w h2).mono fun e w' he=>⟨he.1,0,he.2⟩)).mono ?_
   rintro e w' ⟨rfl,q,rfl⟩;unfold Lib.cutV;rw[if_neg (by omega)];exact⟨_,_,rfl,(Kept.refl _ _).drewN _⟩
  ·refine(Any.bytes_Cut_of Tryz.kE (some x) (some ⟨b2,0,none⟩) 0 0 1 1 (-1) w (Qk _) (by omega) (by omega) (by omega) ((Any.bytes_Index_one_at Tryz.kE.index x 0 0 b2 0 1 [] 0 w rfl (fun i hi=>absurd hi (by omega)) h2).mono fun e w' he=>⟨he.1,0,he.2⟩)).mono ?_
   rintro e w' ⟨rfl,q,rfl⟩;unfold Lib.cutV;rw[if_neg (by omega)];exact⟨_,_,rfl,(Kept.refl _ _).drewN _⟩
 ·obtain⟨b,o,rfl,_⟩:=h h0
  exact H9 b o n n b2 bs w hn (Qk _) hm h h2
section
variable {w0 w w':World} {K:RK} {a:Nat} {s:RS} {mb:Option Nat} {v:Value} {xs:List MP} {q:Option Addr} {n c:Nat}
theorem Qv (s:RS) (q:Option Addr) (n c:Nat) (k:UInt8):∃x p m d,(cD s q n c k).getD (.agg #[.string ⟨#[]⟩,.slice none 0 0])=.agg #[.string x,.slice p m d]:=by
 unfold cD
 by_cases h1:k=120
 ·rw[if_pos h1]
  by_cases A:s.fx=true
  ·rw[if_pos A];exact⟨_,_,_,_,rfl⟩
  ·rw[if_neg A];exact⟨_,_,_,_,rfl⟩
 ·rw[if_neg h1]
  by_cases A:k=76
  ·rw[if_pos A]
   cases s.name<;>exact⟨_,_,_,_,rfl⟩
  ·rw[if_neg A]
   by_cases B:k=75
   ·rw[if_pos B]
    cases s.link<;>exact⟨_,_,_,_,rfl⟩
   ·rw[if_neg B];exact⟨_,_,_,_,rfl⟩
theorem og (w:World) (g a t:Nat) (S:Sv) (h:Block.Src w g S a t) (ho:S.off g) (k:Nat) (hk:k≤1048576) (X:List UInt8) (hX:(S.bs.drop a).take k=X) (hl:a+fJ k≤S.n):
 Calls Tryz.prog 108 #[.pointer (some ⟨g,0,none⟩),.int .i64 (k:Int)] w fun e w'=>∃p t',e=.returned (.tuple #[.slice p k k,.int .i64 0])∧cK w' p k X∧(∀x,p=some x→w.heap.size≤x.block)∧Block.Src w' g S (a+fJ k) t'∧Kept (ay g) w w':=by
 refine(B0 w g a t S h ho k (by omega)).mono ?_;rintro e w' (⟨_,p,rfl,A,B,⟨t',D⟩,E⟩|⟨h1,_⟩)
 ·exact⟨p,t',rfl,by rw[←hX];exact A,B,D,E⟩
 ·omega
theorem Hy (w:World) (g a t:Nat) (S:Sv) (h:Block.Src w g S a t) (ho:S.off g) (k:Nat) (hk:k≤1048576) (hl:S.n<a+fJ k):
 Calls Tryz.prog 108 #[.pointer (some ⟨g,0,none⟩),.int .i64 (k:Int)] w fun e w'=>∃t',e=.returned (.tuple #[.slice none 0 0,.int .i64 2])∧Block.Src w' g S S.n t'∧Kept (ay g) w w':=by
 refine(B0 w g a t S h ho k (by omega)).mono ?_;rintro e w' (⟨h1,_⟩|⟨_,rfl,⟨t',A⟩,B⟩)
 ·omega
 ·exact⟨t',rfl,A,B⟩
def Left (w0:World) (K:RK) (a:Nat) (s:RS) (w':World):Prop:=∃mb v xs q n c,Rd w0 w' K a s mb v xs q n c
theorem Kr (hr:Rd w0 w K a s mb v xs q n c) (h:aq) (hw:(cD s q n c h.kind).isSome=true):
 Calls Tryz.prog 75 #[.pointer (some ⟨K.r,0,none⟩),.agg (af h)] w fun e w'=>e=.returned (.int .i64 5)∧Below w.heap.size w w':=by
 have X:=Qh hr;obtain⟨kn,B⟩:∃kn:Int,(h.kind.toNat:Int)=kn:=⟨_,rfl⟩
 obtain⟨W1,M⟩:∃W1,w.alloc (.cells (af h) 66)=W1:=⟨_,rfl⟩
 have D:Below w.heap.size w W1:=by rw[←M];exact(Below.refl _ w).alloc (Qk _) _
 have E:au W1 w.heap.size 66 (af h):=by rw[←M];exact au.new w _ _
 have I:=hr.below D;have A:Below w.heap.size w (W1.alloc (.cells #[.string ⟨#[]⟩,.slice none 0 0] 178)):=D.alloc D.size _;have J:=hr.below A;have V:=cT (I.idle ((Kept.refl ai _).drew)).map h.kind kn B;have W:=cT (J.idle ((Kept.refl ai _).drew)).map h.kind kn B;obtain⟨ex,H,em,G,O⟩:=Qv s q n c h.kind;rw[O,hw]at V W;have g:=I.c2;have U:=E.cell 2;simp only[af,Qc,Qa,Qb,B]at U;have l:=J.c2;have T:=(E.alloc (.cells #[.string ⟨#[]⟩,.slice none 0 0] 178)).cell 2;simp only[af,Qc,Qa,Qb,B]at T;have L:=Qh D;have N:=Qh E;have m:=Qh B;clear hr hw B O I J E D A
 go_enter Tryz.func75,Tryz.ntmps75
 go_upto_region 1 with fail
 clear M
 go_cut [5,6]from 13 to 22 (fun b d f=>b=.pointer (some ⟨W1.heap.size,0,none⟩)∧d=.bool true∧f=(W1.alloc (.cells #[.string ex,.slice H em G] 178)).drew)
 case first=>
  go_region
  all_goals (go_wp2;go_meet;exact⟨rfl,rfl,rfl⟩)
 case rest=>
  obtain⟨rfl,rfl,rfl⟩:=hcut;clear V W g U l T;have A:Below w.heap.size w (W1.alloc (.cells #[.string ex,.slice H em G] 178)).drew:=((L.out.alloc L.out.size _)).drew;have Z:Hid (au (W1.alloc (.cells #[.string ex,.slice H em G] 178)).drew w.heap.size 66 (af h)):=Qh ((N.out.alloc _).drew);obtain⟨W2,R⟩:∃W2,(W1.alloc (.cells #[.string ex,.slice H em G] 178)).drew=W2:=⟨_,rfl⟩
  rw[R]at A Z⊢;clear R;have Y:=Qh A;have o:=Qh (X.out.below A);clear A L N;go_wp2;go_ret;exact⟨rfl,Y.out⟩
theorem Kp (hr:Rd w0 w K a s mb v xs q n c) (h:aq) (hw:cD s q n c h.kind=none) (hz:1048576<h.size):
 Calls Tryz.prog 75 #[.pointer (some ⟨K.r,0,none⟩),.agg (af h)] w fun e w'=>e=.returned (.int .i64 10)∧Below w.heap.size w w':=by
 have V:=Qh hr;obtain⟨kn,B⟩:∃kn:Int,(h.kind.toNat:Int)=kn:=⟨_,rfl⟩
 obtain⟨W1,J⟩:∃W1,w.alloc (.cells (af h) 66)=W1:=⟨_,rfl⟩
 have D:Below w.heap.size w W1:=by rw[←J];exact(Below.refl _ w).alloc (Qk _) _
 have E:au W1 w.heap.size 66 (af h):=by rw[←J];exact au.new w _ _
 have G:=hr.below D;have A:Below w.heap.size w (W1.alloc (.cells #[.string ⟨#[]⟩,.slice none 0 0] 178)):=D.alloc D.size _;have H:=hr.below A;have L:=cT (G.idle ((Kept.refl ai _).drew)).map h.kind kn B;have M:=cT (H.idle ((Kept.refl ai _).drew)).map h.kind kn B;rw[hw]at L M;simp only[Option.getD_none,Option.isSome_none]at L M;have b:=G.c2;have U:=E.cell 2;simp only[af,Qc,Qa,Qb,B]at U;have d:=H.c2;have T:=(E.alloc (.cells #[.string ⟨#[]⟩,.slice none 0 0] 178)).cell 2;simp only[af,Qc,Qa,Qb,B]at T;have I:=Qh D;have N:=Qh E;have g:=Qh B;clear hr hw B G H E D A
 go_enter Tryz.func75,Tryz.ntmps75
 go_upto_region 1 with fail
 clear J
 go_cut [5,6]from 13 to 22 (fun X Y Z=>X=.pointer (some ⟨W1.heap.size,0,none⟩)∧Y=.bool false∧Z=(W1.alloc (.cells #[.string ⟨#[]⟩,.slice none 0 0] 178)).drew)
 case first=>
  go_region
  all_goals (go_wp2;go_meet;exact⟨rfl,rfl,rfl⟩)
 case rest=>
  obtain⟨rfl,rfl,rfl⟩:=hcut;clear L M b U d T;have A:Below w.heap.size w (W1.alloc (.cells #[.string ⟨#[]⟩,.slice none 0 0] 178)).drew:=((I.out.alloc I.out.size _)).drew;have O:Hid (au (W1.alloc (.cells #[.string ⟨#[]⟩,.slice none 0 0] 178)).drew w.heap.size 66 (af h)):=Qh ((N.out.alloc _).drew);obtain⟨W2,R⟩:∃W2,(W1.alloc (.cells #[.string ⟨#[]⟩,.slice none 0 0] 178)).drew=W2:=⟨_,rfl⟩
  rw[R]at A O⊢;clear R;have W:=Qh A;have l:=Qh (V.out.below A);clear A I N;have f:=O.out.cell 7;simp only[af,Qc,Qa,Qb]at f;go_wp2;go_ret;exact⟨rfl,W.out⟩
theorem Kq (hr:Rd w0 w K a s mb v xs q n c) (h:aq) (hw:cD s q n c h.kind=none) (k:Nat) (fc:h.size=(k:Int)) (hz:k≤1048576) (hl:K.S.n<a+fJ k):
 Calls Tryz.prog 75 #[.pointer (some ⟨K.r,0,none⟩),.agg (af h)] w fun e w'=>e=.returned (.int .i64 2)∧Below w0.heap.size w0 w':=by
 have tU:=Qh hl;have z:=Qh hz;have b:=Qh fc;have vE:¬(1048576:Int)<(k:Int):=by omega
 clear hl hz fc;have V:=Qh hr;obtain⟨kn,B⟩:∃kn:Int,(h.kind.toNat:Int)=kn:=⟨_,rfl⟩
 obtain⟨W1,M⟩:∃W1,w.alloc (.cells (af h) 66)=W1:=⟨_,rfl⟩
 have D:Below w.heap.size w W1:=by rw[←M];exact(Below.refl _ w).alloc (Qk _) _
 have E:au W1 w.heap.size 66 (af h):=by rw[←M];exact au.new w _ _
 have I:=hr.below D;have A:Below w.heap.size w (W1.alloc (.cells #[.string ⟨#[]⟩,.slice none 0 0] 178)):=D.alloc D.size _;have J:=hr.below A;have O:=cT (I.idle ((Kept.refl ai _).drew)).map h.kind kn B;have R:=cT (J.idle ((Kept.refl ai _).drew)).map h.kind kn B;rw[hw]at O R;simp only[Option.getD_none,Option.isSome_none]at O R;have x2:=I.c2;have l:=E.cell 2;simp only[af,Qc,Qa,Qb,B]at l;have y2:=J.c2;have f:=(E.alloc (.cells #[.string ⟨#[]⟩,.slice none 0 0] 178)).cell 2;simp only[af,Qc,Qa,Qb,B]at f;have L:=Qh D;have W:=Qh E;have gV:=Qh B;clear hr hw B I J E D A
 go_enter Tryz.func75,Tryz.ntmps75
 go_upto_region 1 with fail
 clear M
 go_cut [5,6]from 13 to 22 (fun s5 s6 wx=>s5=.pointer (some ⟨W1.heap.size,0,none⟩)∧s6=.bool false∧wx=(W1.alloc (.cells #[.string ⟨#[]⟩,.slice none 0 0] 178)).drew)
 case first=>
  go_region
  all_goals (go_wp2;go_meet;exact⟨rfl,rfl,rfl⟩)
 case rest=>
  obtain⟨rfl,rfl,rfl⟩:=hcut;clear O R x2 l y2 f;have A:Below w.heap.size w (W1.alloc (.cells #[.string ⟨#[]⟩,.slice none 0 0] 178)).drew:=((L.out.alloc L.out.size _)).drew;have N:Hid (au (W1.alloc (.cells #[.string ⟨#[]⟩,.slice none 0 0] 178)).drew w.heap.size 66 (af h)):=Qh ((W.out.alloc _).drew);obtain⟨W2,d⟩:∃W2,(W1.alloc (.cells #[.string ⟨#[]⟩,.slice none 0 0] 178)).drew=W2:=⟨_,rfl⟩
  rw[d]at A N⊢;clear d;have bT:=Qh A;have o:=Qh (V.out.below A);clear A L W;have x0:=o.out.c0;have T:=N.out.cell 7;simp only[af,Qc,Qa,Qb,b.out]at T;have H:=o.out.idle ((Kept.refl ai W2).drew);obtain⟨t,hs⟩:=H.src
  have X:w.heap.size≠K.g:=by
   obtain⟨p,pE⟩:=V.out.src;have:=pE.lt;omega
  have u:=Qh H;have p6:=Qh X;have Z:=Hy W2.drew K.g a t K.S hs H.off k z.out tU.out;clear hs H X;go_upto_region 6 with fail
  go_region_held_law (fun w'=>w'.cell? ⟨K.r,0,none⟩=some (.pointer (some ⟨K.g,0,none⟩))∧w'.cell? ⟨w.heap.size,7,none⟩=some (.int .i64 (k:Int))) (first|exact⟨x0,T⟩|exact m)
   (first
    |(go_at_call 108
      refine Z.mono ?_;rintro e w3 ⟨p,rfl,Y,G⟩;have U:=Qh (u.out.gn G ⟨p,Y⟩);have y:Hid (au w3 w.heap.size 66 (af h)):=Qh ((N.out.drew).bV G p6.out);have fV:=Qh G;have m:w3.cell? ⟨K.r,0,none⟩=some (.pointer (some ⟨K.g,0,none⟩))∧w3.cell? ⟨w.heap.size,7,none⟩=some (.int .i64 (k:Int)):=⟨U.out.c0,by have:=y.out.cell 7;simp only[af,Qc,Qa,Qb,b.out]at this;exact this⟩
      clear Y G))
  clear Z m x0 T;go_wp2;go_ret;exact⟨rfl,U.out.bel⟩
theorem PI (s:RS) (q:Option Addr) (n c:Nat) (T:List UInt8):(fun y=>if y=76 then some (Value.agg #[.string (str T),.slice none 0 0])else cD s q n c y)=cD {s with name:=some T} q n c:=by
 funext y
 unfold cD
 by_cases h:y=76
 ·subst h;rfl
 ·simp[h]
theorem PH (s:RS) (q:Option Addr) (n c:Nat) (T:List UInt8):(fun y=>if y=75 then some (Value.agg #[.string (str T),.slice none 0 0])else cD s q n c y)=cD {s with link:=some T} q n c:=by
 funext y
 unfold cD
 by_cases h:y=75
 ·subst h;rfl
 ·simp[h]
theorem SZ (s:RS) (q q':Option Addr) (n c n' c':Nat) (rs:cH):(fun y=>if y=120 then some (Value.agg #[.string ⟨#[]⟩,.slice q' n' c'])else cD s q n c y)=cD {s with fx:=true,own:=rs} q' n' c':=by
 funext y
 unfold cD
 by_cases h:y=120
 ·subst h;rfl
 ·simp[h]
theorem NQ (hr:Rd w0 w K a s mb v xs q n c) (h:aq) (hw:cD s q n c h.kind=none) (k:Nat) (fc:h.size=(k:Int)) (hz:k≤1048576) (X:List UInt8) (hX:(K.S.bs.drop a).take k=X) (hl:a+fJ k≤K.S.n) (mf:h.kind=76):
 Calls Tryz.prog 75 #[.pointer (some ⟨K.r,0,none⟩),.agg (af h)] w fun e w'=>e=.returned (.int .i64 0)∧Left w0 K (a+fJ k) {s with name:=some (aK X)} w':=by
 have V:Hid (X.length=k):=Qh (by
  obtain⟨t,hs⟩:=hr.src;have:=kJ k;have:=hs.len
  rw[←hX,Qg,Qe];omega)
 have tU:=Qh (And.intro hX hl);have Z:=Qh hz;have im:=Qh fc;have vE:¬(1048576:Int)<(k:Int):=by omega
 clear hl hX fc hz;have Rc:=Qh mf;clear mf;have l:=Qh hr;obtain⟨kn,D⟩:∃kn:Int,(h.kind.toNat:Int)=kn:=⟨_,rfl⟩
 obtain⟨W1,O⟩:∃W1,w.alloc (.cells (af h) 66)=W1:=⟨_,rfl⟩
 have E:Below w.heap.size w W1:=by rw[←O];exact(Below.refl _ w).alloc (Qk _) _
 have G:au W1 w.heap.size 66 (af h):=by rw[←O];exact au.new w _ _
 have L:=hr.below E;have B:Below w.heap.size w (W1.alloc (.cells #[.string ⟨#[]⟩,.slice none 0 0] 178)):=E.alloc E.size _;have M:=hr.below B;have W:=cT (L.idle ((Kept.refl ai _).drew)).map h.kind kn D;have Y:=cT (M.idle ((Kept.refl ai _).drew)).map h.kind kn D;rw[hw]at W Y;simp only[Option.getD_none,Option.isSome_none]at W Y;have x2:=L.c2;have k2:=G.cell 2;simp only[af,Qc,Qa,Qb,D]at k2;have y2:=M.c2;have j2:=(G.alloc (.cells #[.string ⟨#[]⟩,.slice none 0 0] 178)).cell 2;simp only[af,Qc,Qa,Qb,D]at j2;have N:=Qh E;have m:=Qh G;have T:=Qh D;clear hr hw D L M G E B
 go_enter Tryz.func75,Tryz.ntmps75
 go_upto_region 1 with fail
 clear O
 go_cut [5,6]from 13 to 22 (fun s5 s6 wx=>s5=.pointer (some ⟨W1.heap.size,0,none⟩)∧s6=.bool false∧wx=(W1.alloc (.cells #[.string ⟨#[]⟩,.slice none 0 0] 178)).drew)
 case first=>
  go_region
  all_goals (go_wp2;go_meet;exact⟨rfl,rfl,rfl⟩)
 case rest=>
  obtain⟨rfl,rfl,rfl⟩:=hcut;clear W Y x2 k2 y2 j2;have B:Below w.heap.size w (W1.alloc (.cells #[.string ⟨#[]⟩,.slice none 0 0] 178)).drew:=((N.out.alloc N.out.size _)).drew;have R:Hid (au (W1.alloc (.cells #[.string ⟨#[]⟩,.slice none 0 0] 178)).drew w.heap.size 66 (af h)):=Qh ((m.out.alloc _).drew);obtain⟨W2,ix⟩:∃W2,(W1.alloc (.cells #[.string ⟨#[]⟩,.slice none 0 0] 178)).drew=W2:=⟨_,rfl⟩
  rw[ix]at B R⊢;clear ix;have bT:=Qh B;have rq:=Qh (l.out.below B);clear B N m;have x0:=rq.out.c0;have b:=R.out.cell 7;simp only[af,Qc,Qa,Qb,im.out]at b;have J:=rq.out.idle ((Kept.refl ai W2).drew);obtain⟨t,hs⟩:=J.src
  have u:w.heap.size≠K.g:=by
   obtain⟨t',pE⟩:=l.out.src;have:=pE.lt;omega
  have Bz:=Qh J;have p6:=Qh u;have hB:=og W2.drew K.g a t K.S hs J.off k Z.out X tU.out.1 tU.out.2;clear hs J u;go_upto_region 6 with fail
  go_region_held_law (fun w'=>w'.cell? ⟨K.r,0,none⟩=some (.pointer (some ⟨K.g,0,none⟩))∧w'.cell? ⟨w.heap.size,7,none⟩=some (.int .i64 (k:Int))) (first|exact⟨x0,b⟩|exact rI)
   (first
    |(go_at_call 108
      refine hB.mono ?_;rintro e w3 ⟨p,t',rfl,h2,h3,h4,U⟩;have d:=Qh (Bz.out.gn U ⟨t',h4⟩);have I:Hid (au w3 w.heap.size 66 (af h)):=Qh ((R.out.drew).bV U p6.out);have z:=Qh (And.intro h2 h3);have rI:w3.cell? ⟨K.r,0,none⟩=some (.pointer (some ⟨K.g,0,none⟩))∧w3.cell? ⟨w.heap.size,7,none⟩=some (.int .i64 (k:Int)):=⟨d.out.c0,by have:=I.out.cell 7;simp only[af,Qc,Qa,Qb,im.out]at this;exact this⟩
      clear h2 h3 h4 U))
  clear hB rI x0 b;have k3:=I.out.cell 2;simp only[af,Qc,Qa,Qb,T.out]at k3;obtain rfl:kn=76:=by rw[←T.out,Rc.out];rfl
  go_upto_region 10 with fail
  go_wp2_with fail
  refine(B5 p k w3.heap.size X _ V.out (by have:=Z.out;omega) (z.out.1.alloc _) (au.cell (au.new w3 5 #[.int .u8 0]) 0)).mono ?_;rintro e w4 ⟨v2,v3,rfl,kY⟩;have H:Below w3.heap.size w3 w4:=(Kept.trans ((Kept.refl ai w3).alloc _) kY).below (Qk _) (fun _ h=>h.elim);have A:=Qh (d.out.below H);have DX:Hid (au w4 w.heap.size 66 (af h)):=Qh (I.out.below H I.out.lt)
  have o:cK w4 p (aK X).length (aK X):=by
   have h1:=(z.out.1.below H).take (k:=(aK X).length) (by rw[←V.out];exact(gS X).1)
   rwa [(gS X).2]at h1
  have mN:=Qh o;clear kY H o k3;go_upto_region 11 with fail;have k4:=DX.out.cell 2;simp only[af,Qc,Qa,Qb,T.out]at k4;have x4:=A.out.c2;have cv4:(convert 26 9 (.slice p (aK X).length k)).run Tryz.prog w4=.ok (.string (str (aK X))) w4:=cw mN.out rfl _ _ _ Tryz.underlying26 Tryz.underlying5 Tryz.underlying9 _;have ae0:(convert 26 9 (.slice p (aK X).length k)).run Tryz.prog w4.drew=.ok (.string (str (aK X))) w4.drew:=cw (mN.out.below ((Below.refl _ _).drew)) rfl _ _ _ Tryz.underlying26 Tryz.underlying5 Tryz.underlying9 _
  go_still_tail 9,(by kernel_rfl)
  refine dB (K:=QY) rfl (.tmp 58) (.tmp 60) (.tmp 63) rfl Tryz.underlying89 Tryz.underlying5 K.mw (A.out.idle ((Kept.refl ai w4).drew)).map rfl 76 rfl (.agg #[.string (str (aK X)),.slice none 0 0]) rfl ?_;intro w5 yG y oY;have f:=Qh (And.intro yG (And.intro y oY));clear yG y oY;go_wp2;go_ret;exact⟨rfl,mb,v,xs,q,n,c,(A.out.idle ((Kept.refl ai w4).drew)).waits f.out.2.1.out (by rw[←PI];exact f.out.1.out) (A.out.idle ((Kept.refl ai w4).drew)).own rfl rfl A.out.qN A.out.ol (fun t ht=>by cases ht;have:=(gS X).1;rw[V.out]at this;have:=Z.out;omega) A.out.ll⟩
theorem NN (hr:Rd w0 w K a s mb v xs q n c) (h:aq) (hw:cD s q n c h.kind=none) (k:Nat) (fc:h.size=(k:Int)) (hz:k≤1048576) (X:List UInt8) (hX:(K.S.bs.drop a).take k=X) (hl:a+fJ k≤K.S.n) (mf:h.kind=75):
 Calls Tryz.prog 75 #[.pointer (some ⟨K.r,0,none⟩),.agg (af h)] w fun e w'=>e=.returned (.int .i64 0)∧Left w0 K (a+fJ k) {s with link:=some (aK X)} w':=by
 have V:Hid (X.length=k):=Qh (by
  obtain⟨t,hs⟩:=hr.src;have:=kJ k;have:=hs.len
  rw[←hX,Qg,Qe];omega)
 have tU:=Qh (And.intro hX hl);have Z:=Qh hz;have im:=Qh fc;have vE:¬(1048576:Int)<(k:Int):=by omega
 clear hl hX fc hz;have Rc:=Qh mf;clear mf;have l:=Qh hr;obtain⟨kn,D⟩:∃kn:Int,(h.kind.toNat:Int)=kn:=⟨_,rfl⟩
 obtain⟨W1,O⟩:∃W1,w.alloc (.cells (af h) 66)=W1:=⟨_,rfl⟩
 have E:Below w.heap.size w W1:=by rw[←O];exact(Below.refl _ w).alloc (Qk _) _
 have G:au W1 w.heap.size 66 (af h):=by rw[←O];exact au.new w _ _
 have L:=hr.below E;have B:Below w.heap.size w (W1.alloc (.cells #[.string ⟨#[]⟩,.slice none 0 0] 178)):=E.alloc E.size _;have M:=hr.below B;have W:=cT (L.idle ((Kept.refl ai _).drew)).map h.kind kn D;have Y:=cT (M.idle ((Kept.refl ai _).drew)).map h.kind kn D;rw[hw]at W Y;simp only[Option.getD_none,Option.isSome_none]at W Y;have x2:=L.c2;have k2:=G.cell 2;simp only[af,Qc,Qa,Qb,D]at k2;have y2:=M.c2;have j2:=(G.alloc (.cells #[.string ⟨#[]⟩,.slice none 0 0] 178)).cell 2;simp only[af,Qc,Qa,Qb,D]at j2;have N:=Qh E;have m:=Qh G;have T:=Qh D;clear hr hw D L M G E B
 go_enter Tryz.func75,Tryz.ntmps75
 go_upto_region 1 with fail
 clear O
 go_cut [5,6]from 13 to 22 (fun s5 s6 wx=>s5=.pointer (some ⟨W1.heap.size,0,none⟩)∧s6=.bool false∧wx=(W1.alloc (.cells #[.string ⟨#[]⟩,.slice none 0 0] 178)).drew)
 case first=>
  go_region
  all_goals (go_wp2;go_meet;exact⟨rfl,rfl,rfl⟩)
 case rest=>
  obtain⟨rfl,rfl,rfl⟩:=hcut;clear W Y x2 k2 y2 j2;have B:Below w.heap.size w (W1.alloc (.cells #[.string ⟨#[]⟩,.slice none 0 0] 178)).drew:=((N.out.alloc N.out.size _)).drew;have R:Hid (au (W1.alloc (.cells #[.string ⟨#[]⟩,.slice none 0 0] 178)).drew w.heap.size 66 (af h)):=Qh ((m.out.alloc _).drew);obtain⟨W2,ix⟩:∃W2,(W1.alloc (.cells #[.string ⟨#[]⟩,.slice none 0 0] 178)).drew=W2:=⟨_,rfl⟩
  rw[ix]at B R⊢;clear ix;have bT:=Qh B;have rq:=Qh (l.out.below B);clear B N m;have x0:=rq.out.c0;have b:=R.out.cell 7;simp only[af,Qc,Qa,Qb,im.out]at b;have J:=rq.out.idle ((Kept.refl ai W2).drew);obtain⟨t,hs⟩:=J.src
  have u:w.heap.size≠K.g:=by
   obtain⟨t',pE⟩:=l.out.src;have:=pE.lt;omega
  have Bz:=Qh J;have p6:=Qh u;have hB:=og W2.drew K.g a t K.S hs J.off k Z.out X tU.out.1 tU.out.2;clear hs J u;go_upto_region 6 with fail
  go_region_held_law (fun w'=>w'.cell? ⟨K.r,0,none⟩=some (.pointer (some ⟨K.g,0,none⟩))∧w'.cell? ⟨w.heap.size,7,none⟩=some (.int .i64 (k:Int))) (first|exact⟨x0,b⟩|exact rI)
   (first
    |(go_at_call 108
      refine hB.mono ?_;rintro e w3 ⟨p,t',rfl,h2,h3,h4,U⟩;have d:=Qh (Bz.out.gn U ⟨t',h4⟩);have I:Hid (au w3 w.heap.size 66 (af h)):=Qh ((R.out.drew).bV U p6.out);have z:=Qh (And.intro h2 h3);have rI:w3.cell? ⟨K.r,0,none⟩=some (.pointer (some ⟨K.g,0,none⟩))∧w3.cell? ⟨w.heap.size,7,none⟩=some (.int .i64 (k:Int)):=⟨d.out.c0,by have:=I.out.cell 7;simp only[af,Qc,Qa,Qb,im.out]at this;exact this⟩
      clear h2 h3 h4 U))
  clear hB rI x0 b;have k3:=I.out.cell 2;simp only[af,Qc,Qa,Qb,T.out]at k3;obtain rfl:kn=75:=by rw[←T.out,Rc.out];rfl
  go_upto_region 10 with fail
  go_wp2_with fail
  refine(B5 p k w3.heap.size X _ V.out (by have:=Z.out;omega) (z.out.1.alloc _) (au.cell (au.new w3 5 #[.int .u8 0]) 0)).mono ?_;rintro e w4 ⟨v2,v3,rfl,kY⟩;have H:Below w3.heap.size w3 w4:=(Kept.trans ((Kept.refl ai w3).alloc _) kY).below (Qk _) (fun _ h=>h.elim);have A:=Qh (d.out.below H);have DX:Hid (au w4 w.heap.size 66 (af h)):=Qh (I.out.below H I.out.lt)
  have o:cK w4 p (aK X).length (aK X):=by
   have h1:=(z.out.1.below H).take (k:=(aK X).length) (by rw[←V.out];exact(gS X).1)
   rwa [(gS X).2]at h1
  have mN:=Qh o;clear kY H o k3;go_upto_region 11 with fail;have k4:=DX.out.cell 2;simp only[af,Qc,Qa,Qb,T.out]at k4;have x4:=A.out.c2;have cv4:(convert 26 9 (.slice p (aK X).length k)).run Tryz.prog w4=.ok (.string (str (aK X))) w4:=cw mN.out rfl _ _ _ Tryz.underlying26 Tryz.underlying5 Tryz.underlying9 _;have ae0:(convert 26 9 (.slice p (aK X).length k)).run Tryz.prog w4.drew=.ok (.string (str (aK X))) w4.drew:=cw (mN.out.below ((Below.refl _ _).drew)) rfl _ _ _ Tryz.underlying26 Tryz.underlying5 Tryz.underlying9 _
  go_still_tail 9,(by kernel_rfl)
  refine dB (K:=QY) rfl (.tmp 58) (.tmp 60) (.tmp 63) rfl Tryz.underlying89 Tryz.underlying5 K.mw (A.out.idle ((Kept.refl ai w4).drew)).map rfl 75 rfl (.agg #[.string (str (aK X)),.slice none 0 0]) rfl ?_;intro w5 yG y oY;have f:=Qh (And.intro yG (And.intro y oY));clear yG y oY;go_wp2;go_ret;exact⟨rfl,mb,v,xs,q,n,c,(A.out.idle ((Kept.refl ai w4).drew)).waits f.out.2.1.out (by rw[←PH];exact f.out.1.out) (A.out.idle ((Kept.refl ai w4).drew)).own rfl rfl A.out.qN A.out.ol A.out.nl (fun t ht=>by cases ht;have:=(gS X).1;rw[V.out]at this;have:=Z.out;omega)⟩
end
section
variable {w0 w w':World} {K:RK} {a:Nat} {s:RS} {mb:Option Nat} {v:Value} {xs:List MP} {q:Option Addr} {n c:Nat}
theorem Fc (hr:Rd w0 w K a s mb v xs q n c) (h:aq) (hw:cD s q n c h.kind=none) (k:Nat) (fc:h.size=(k:Int)) (hz:k≤1048576) (X:List UInt8) (hX:(K.S.bs.drop a).take k=X) (hl:a+fJ k≤K.S.n) (E:Int) (hE:(di 5 9 X).2=E) (Yy:E≠0) (hnk:(h.kind.toNat:Int)≠76∧(h.kind.toNat:Int)≠75) (hN:Need w0):
 Calls Tryz.prog 75 #[.pointer (some ⟨K.r,0,none⟩),.agg (af h)] w fun e w'=>e=.returned (.int .i64 E)∧Below w0.heap.size w0 w':=by
 have kQ:Hid (X.length=k):=Qh (by
  obtain⟨t,hs⟩:=hr.src;have:=kJ k;have:=hs.len
  rw[←hX,Qg,Qe];omega)
 have tU:=Qh (And.intro hX hl);have od:=Qh hz;have im:=Qh fc;have vE:¬(1048576:Int)<(k:Int):=by omega
 clear hl hX fc hz;have Q5:=Qh hE;have R:=Qh Yy;have D:=Qh hnk;have mP:=Qh hN;clear hE Yy hnk hN;have u:=Qh hr;obtain⟨kn,B⟩:∃kn:Int,(h.kind.toNat:Int)=kn:=⟨_,rfl⟩
 obtain⟨W1,W⟩:∃W1,w.alloc (.cells (af h) 66)=W1:=⟨_,rfl⟩
 have G:Below w.heap.size w W1:=by rw[←W];exact(Below.refl _ w).alloc (Qk _) _
 have H:au W1 w.heap.size 66 (af h):=by rw[←W];exact au.new w _ _
 have T:=hr.below G;have A:Below w.heap.size w (W1.alloc (.cells #[.string ⟨#[]⟩,.slice none 0 0] 178)):=G.alloc G.size _;have U:=hr.below A;have l:=cT (T.idle ((Kept.refl ai _).drew)).map h.kind kn B;have m:=cT (U.idle ((Kept.refl ai _).drew)).map h.kind kn B;rw[hw]at l m;simp only[Option.getD_none,Option.isSome_none]at l m;have x2:=T.c2;have k2:=H.cell 2;simp only[af,Qc,Qa,Qb,B]at k2;have y2:=U.c2;have j2:=(H.alloc (.cells #[.string ⟨#[]⟩,.slice none 0 0] 178)).cell 2;simp only[af,Qc,Qa,Qb,B]at j2;have V:=Qh G;have y:=Qh H;have b:=Qh B;clear hr hw B T U H G A
 go_enter Tryz.func75,Tryz.ntmps75
 go_upto_region 1 with fail
 clear W
 go_cut [5,6]from 13 to 22 (fun s5 s6 wx=>s5=.pointer (some ⟨W1.heap.size,0,none⟩)∧s6=.bool false∧wx=(W1.alloc (.cells #[.string ⟨#[]⟩,.slice none 0 0] 178)).drew)
 case first=>
  go_region
  all_goals (go_wp2;go_meet;exact⟨rfl,rfl,rfl⟩)
 case rest=>
  obtain⟨rfl,rfl,rfl⟩:=hcut;clear l m x2 k2 y2 j2;have A:Below w.heap.size w (W1.alloc (.cells #[.string ⟨#[]⟩,.slice none 0 0] 178)).drew:=((V.out.alloc V.out.size _)).drew;have Z:Hid (au (W1.alloc (.cells #[.string ⟨#[]⟩,.slice none 0 0] 178)).drew w.heap.size 66 (af h)):=Qh ((y.out.alloc _).drew);obtain⟨W2,ix⟩:∃W2,(W1.alloc (.cells #[.string ⟨#[]⟩,.slice none 0 0] 178)).drew=W2:=⟨_,rfl⟩
  rw[ix]at A Z⊢;clear ix;have bT:=Qh A;have rq:=Qh (u.out.below A);clear A V y;have x0:=rq.out.c0;have o:=Z.out.cell 7;simp only[af,Qc,Qa,Qb,im.out]at o;have L:=rq.out.idle ((Kept.refl ai W2).drew);obtain⟨t,hs⟩:=L.src
  have z:w.heap.size≠K.g:=by
   obtain⟨t',pE⟩:=u.out.src;have:=pE.lt;omega
  have Bz:=Qh L;have p6:=Qh z;have hB:=og W2.drew K.g a t K.S hs L.off k od.out X tU.out.1 tU.out.2;clear hs L z;go_upto_region 6 with fail
  go_region_held_law (fun w'=>w'.cell? ⟨K.r,0,none⟩=some (.pointer (some ⟨K.g,0,none⟩))∧w'.cell? ⟨w.heap.size,7,none⟩=some (.int .i64 (k:Int))) (first|exact⟨x0,o⟩|exact rI)
   (first
    |(go_at_call 108
      refine hB.mono ?_;rintro e w3 ⟨p,t',rfl,h2,h3,h4,f⟩;have O:=Qh (Bz.out.gn f ⟨t',h4⟩);have J:Hid (au w3 w.heap.size 66 (af h)):=Qh ((Z.out.drew).bV f p6.out);have fV:=Qh (And.intro h2 h3);have rI:w3.cell? ⟨K.r,0,none⟩=some (.pointer (some ⟨K.g,0,none⟩))∧w3.cell? ⟨w.heap.size,7,none⟩=some (.int .i64 (k:Int)):=⟨O.out.c0,by have:=J.out.cell 7;simp only[af,Qc,Qa,Qb,im.out]at this;exact this⟩
      clear h2 h3 h4 f))
  clear hB rI x0 o;have k3:=J.out.cell 2;simp only[af,Qc,Qa,Qb,b.out]at k3;have e1:(kn==76)=false:=by have:=D.out.1;rw[b.out]at this;simpa using this
  have e2:(kn==75)=false:=by have:=D.out.2;rw[b.out]at this;simpa using this
  go_upto_region 13 with fail
  go_wp2_with fail
  refine(mD p k k X w3 kQ.out (Qk _) (by have:=od.out;omega) fV.out.1 (O.out.Ll mP.out)).mono ?_;rintro e w4 ⟨p4,c4,rfl,_,_,M,d⟩;obtain⟨⟨rs,Y⟩,I⟩:∃x,di 5 9 X=x:=⟨_,rfl⟩
  have hlen:=rX 5 9 X;rw[I]at M hlen;simp only[I];rw[kQ.out]at hlen;have tG:Hid (di 5 9 X=(rs,Y)):=Qh I;obtain⟨rl,N⟩:∃rl,rs.length=rl:=⟨_,rfl⟩
  simp only[N]at M⊢;have H4:=Qh (O.out.below d);have DX:Hid (au w4 w.heap.size 66 (af h)):=Qh (J.out.below d J.out.lt);have xq:=Qh M;have pZ:=Qh hlen;have UQ:=Qh N;clear M hlen d I N k3;obtain rfl:Y=E:=by have:=Q5.out;rw[tG.out]at this;exact this
  have an0:(Y != 0)=true:=by simpa using R.out
  go_wp2;go_ret;exact⟨rfl,H4.out.bel⟩
theorem NM (hr:Rd w0 w K a s mb v xs q n c) (h:aq) (hw:cD s q n c h.kind=none) (k:Nat) (fc:h.size=(k:Int)) (hz:k≤1048576) (X:List UInt8) (hX:(K.S.bs.drop a).take k=X) (hl:a+fJ k≤K.S.n) (R:cH) (hR:di 5 9 X=(R,0)) (mf:h.kind=103) (hN:Need w0):
 Calls Tryz.prog 75 #[.pointer (some ⟨K.r,0,none⟩),.agg (af h)] w fun e w'=>e=.returned (.int .i64 0)∧Left w0 K (a+fJ k) {s with dG:=s.dG++R} w':=by
 have kQ:Hid (X.length=k):=Qh (by
  obtain⟨t,hs⟩:=hr.src;have:=kJ k;have:=hs.len
  rw[←hX,Qg,Qe];omega)
 have tU:=Qh (And.intro hX hl);have L:=Qh hz;have im:=Qh fc;have vE:¬(1048576:Int)<(k:Int):=by omega
 clear hl hX fc hz;have z:=Qh hR;have Rc:=Qh mf;have mP:=Qh hN;clear hR mf hN;have u:=Qh hr;obtain⟨kn,D⟩:∃kn:Int,(h.kind.toNat:Int)=kn:=⟨_,rfl⟩
 obtain⟨W1,Y⟩:∃W1,w.alloc (.cells (af h) 66)=W1:=⟨_,rfl⟩
 have E:Below w.heap.size w W1:=by rw[←Y];exact(Below.refl _ w).alloc (Qk _) _
 have G:au W1 w.heap.size 66 (af h):=by rw[←Y];exact au.new w _ _
 have U:=hr.below E;have A:Below w.heap.size w (W1.alloc (.cells #[.string ⟨#[]⟩,.slice none 0 0] 178)):=E.alloc E.size _;have V:=hr.below A;have l:=cT (U.idle ((Kept.refl ai _).drew)).map h.kind kn D;have m:=cT (V.idle ((Kept.refl ai _).drew)).map h.kind kn D;rw[hw]at l m;simp only[Option.getD_none,Option.isSome_none]at l m;have x2:=U.c2;have k2:=G.cell 2;simp only[af,Qc,Qa,Qb,D]at k2;have y2:=V.c2;have j2:=(G.alloc (.cells #[.string ⟨#[]⟩,.slice none 0 0] 178)).cell 2;simp only[af,Qc,Qa,Qb,D]at j2;have W:=Qh E;have y:=Qh G;have b:=Qh D;clear hr hw D U V G E A
 go_enter Tryz.func75,Tryz.ntmps75
 go_upto_region 1 with fail
 clear Y
 go_cut [5,6]from 13 to 22 (fun s5 s6 wx=>s5=.pointer (some ⟨W1.heap.size,0,none⟩)∧s6=.bool false∧wx=(W1.alloc (.cells #[.string ⟨#[]⟩,.slice none 0 0] 178)).drew)
 case first=>
  go_region
  all_goals (go_wp2;go_meet;exact⟨rfl,rfl,rfl⟩)
 case rest=>
  obtain⟨rfl,rfl,rfl⟩:=hcut;clear l m x2 k2 y2 j2;have A:Below w.heap.size w (W1.alloc (.cells #[.string ⟨#[]⟩,.slice none 0 0] 178)).drew:=((W.out.alloc W.out.size _)).drew;have Z:Hid (au (W1.alloc (.cells #[.string ⟨#[]⟩,.slice none 0 0] 178)).drew w.heap.size 66 (af h)):=Qh ((y.out.alloc _).drew);obtain⟨W2,ix⟩:∃W2,(W1.alloc (.cells #[.string ⟨#[]⟩,.slice none 0 0] 178)).drew=W2:=⟨_,rfl⟩
  rw[ix]at A Z⊢;clear ix;have bT:=Qh A;have rq:=Qh (u.out.below A);clear A W y;have x0:=rq.out.c0;have o:=Z.out.cell 7;simp only[af,Qc,Qa,Qb,im.out]at o;have J:=rq.out.idle ((Kept.refl ai W2).drew);obtain⟨t,hs⟩:=J.src
  have cX:w.heap.size≠K.g:=by
   obtain⟨t',pE⟩:=u.out.src;have:=pE.lt;omega
  have Bz:=Qh J;have p6:=Qh cX;have hB:=og W2.drew K.g a t K.S hs J.off k L.out X tU.out.1 tU.out.2;clear hs J cX;go_upto_region 6 with fail
  go_region_held_law (fun w'=>w'.cell? ⟨K.r,0,none⟩=some (.pointer (some ⟨K.g,0,none⟩))∧w'.cell? ⟨w.heap.size,7,none⟩=some (.int .i64 (k:Int))) (first|exact⟨x0,o⟩|exact rI)
   (first
    |(go_at_call 108
      refine hB.mono ?_;rintro e w3 ⟨p,t',rfl,h2,h3,h4,f⟩;have O:=Qh (Bz.out.gn f ⟨t',h4⟩);have I:Hid (au w3 w.heap.size 66 (af h)):=Qh ((Z.out.drew).bV f p6.out);have fV:=Qh (And.intro h2 h3);have rI:w3.cell? ⟨K.r,0,none⟩=some (.pointer (some ⟨K.g,0,none⟩))∧w3.cell? ⟨w.heap.size,7,none⟩=some (.int .i64 (k:Int)):=⟨O.out.c0,by have:=I.out.cell 7;simp only[af,Qc,Qa,Qb,im.out]at this;exact this⟩
      clear h2 h3 h4 f))
  clear hB rI x0 o;have k3:=I.out.cell 2;simp only[af,Qc,Qa,Qb,b.out]at k3;obtain rfl:kn=103:=by rw[←b.out,Rc.out];rfl
  go_upto_region 13 with fail
  go_wp2_with fail
  refine(mD p k k X w3 kQ.out (Qk _) (by have:=L.out;omega) fV.out.1 (O.out.Ll mP.out)).mono ?_;rintro e w4 ⟨p4,c4,rfl,_,_,M,d⟩;obtain⟨⟨rs,er⟩,H⟩:∃x,di 5 9 X=x:=⟨_,rfl⟩
  have hlen:=rX 5 9 X;rw[H]at M hlen;simp only[H];rw[kQ.out]at hlen;have tG:Hid (di 5 9 X=(rs,er)):=Qh H;obtain⟨rl,N⟩:∃rl,rs.length=rl:=⟨_,rfl⟩
  simp only[N]at M⊢;have T:=Qh (O.out.below d);have DX:Hid (au w4 w.heap.size 66 (af h)):=Qh (I.out.below d I.out.lt);have xq:=Qh M;have pZ:=Qh hlen;have UQ:=Qh N;clear M hlen d H N k3;obtain rfl:er=0:=by have:=z.out;rw[tG.out]at this;exact congrArg Prod.snd this
  obtain rfl:rs=R:=by have:=z.out;rw[tG.out]at this;exact congrArg Prod.fst this
  have k4:=DX.out.cell 2;simp only[af,Qc,Qa,Qb,b.out]at k4;have x1:=T.out.c1;go_wp2_with fail;refine(show Calls _ _ _ _ (pX _ K.gs mb (aL s.dG) rs)from Fm K.gs mb (aL s.dG) p4 rl _ rs _ T.out.st (by have:=pZ.out.2;rw[UQ.out]at this;have:=L.out;omega) xq.out).mono ?_;rintro e w5 ⟨rfl,B,oY,fS,xr⟩;have F:=Qh (T.out.Yt oY fS xr (fun r hr=>by have:=pZ.out.1 r hr;have:=L.out;omega));clear oY fS xr k4 x1;go_wp2;go_ret;exact⟨rfl,some B,v,xs,q,n,c,F.out⟩
theorem RN (hr:Rd w0 w K a s mb v xs q n c) (h:aq) (hw:cD s q n c h.kind=none) (k:Nat) (fc:h.size=(k:Int)) (hz:k≤1048576) (X:List UInt8) (hX:(K.S.bs.drop a).take k=X) (hl:a+fJ k≤K.S.n) (R:cH) (hR:di 5 9 X=(R,0)) (mf:h.kind=120) (hN:Need w0):
 Calls Tryz.prog 75 #[.pointer (some ⟨K.r,0,none⟩),.agg (af h)] w fun e w'=>e=.returned (.int .i64 0)∧Left w0 K (a+fJ k) {s with fx:=true,own:=R} w':=by
 have kQ:Hid (X.length=k):=Qh (by
  obtain⟨t,hs⟩:=hr.src;have:=kJ k;have:=hs.len
  rw[←hX,Qg,Qe];omega)
 have tU:=Qh (And.intro hX hl);have L:=Qh hz;have im:=Qh fc;have vE:¬(1048576:Int)<(k:Int):=by omega
 clear hl hX fc hz;have Q5:=Qh hR;have Rc:=Qh mf;have mP:=Qh hN;clear hR mf hN;have z:=Qh hr;obtain⟨kn,B⟩:∃kn:Int,(h.kind.toNat:Int)=kn:=⟨_,rfl⟩
 obtain⟨W1,Y⟩:∃W1,w.alloc (.cells (af h) 66)=W1:=⟨_,rfl⟩
 have E:Below w.heap.size w W1:=by rw[←Y];exact(Below.refl _ w).alloc (Qk _) _
 have G:au W1 w.heap.size 66 (af h):=by rw[←Y];exact au.new w _ _
 have U:=hr.below E;have A:Below w.heap.size w (W1.alloc (.cells #[.string ⟨#[]⟩,.slice none 0 0] 178)):=E.alloc E.size _;have V:=hr.below A;have l:=cT (U.idle ((Kept.refl ai _).drew)).map h.kind kn B;have m:=cT (V.idle ((Kept.refl ai _).drew)).map h.kind kn B;rw[hw]at l m;simp only[Option.getD_none,Option.isSome_none]at l m;have x2:=U.c2;have k2:=G.cell 2;simp only[af,Qc,Qa,Qb,B]at k2;have y2:=V.c2;have j2:=(G.alloc (.cells #[.string ⟨#[]⟩,.slice none 0 0] 178)).cell 2;simp only[af,Qc,Qa,Qb,B]at j2;have W:=Qh E;have HX:=Qh G;have b:=Qh B;clear hr hw B U V G E A
 go_enter Tryz.func75,Tryz.ntmps75
 go_upto_region 1 with fail
 clear Y
 go_cut [5,6]from 13 to 22 (fun s5 s6 wx=>s5=.pointer (some ⟨W1.heap.size,0,none⟩)∧s6=.bool false∧wx=(W1.alloc (.cells #[.string ⟨#[]⟩,.slice none 0 0] 178)).drew)
 case first=>
  go_region
  all_goals (go_wp2;go_meet;exact⟨rfl,rfl,rfl⟩)
 case rest=>
  obtain⟨rfl,rfl,rfl⟩:=hcut;clear l m x2 k2 y2 j2;have A:Below w.heap.size w (W1.alloc (.cells #[.string ⟨#[]⟩,.slice none 0 0] 178)).drew:=((W.out.alloc W.out.size _)).drew;have Z:Hid (au (W1.alloc (.cells #[.string ⟨#[]⟩,.slice none 0 0] 178)).drew w.heap.size 66 (af h)):=Qh ((HX.out.alloc _).drew);obtain⟨W2,ix⟩:∃W2,(W1.alloc (.cells #[.string ⟨#[]⟩,.slice none 0 0] 178)).drew=W2:=⟨_,rfl⟩
  rw[ix]at A Z⊢;clear ix;have bT:=Qh A;have rq:=Qh (z.out.below A);clear A W HX;have x0:=rq.out.c0;have u:=Z.out.cell 7;simp only[af,Qc,Qa,Qb,im.out]at u;have J:=rq.out.idle ((Kept.refl ai W2).drew);obtain⟨t,hs⟩:=J.src
  have cX:w.heap.size≠K.g:=by
   obtain⟨t',pE⟩:=z.out.src;have:=pE.lt;omega
  have Bz:=Qh J;have p6:=Qh cX;have hB:=og W2.drew K.g a t K.S hs J.off k L.out X tU.out.1 tU.out.2;clear hs J cX;go_upto_region 6 with fail
  go_region_held_law (fun w'=>w'.cell? ⟨K.r,0,none⟩=some (.pointer (some ⟨K.g,0,none⟩))∧w'.cell? ⟨w.heap.size,7,none⟩=some (.int .i64 (k:Int))) (first|exact⟨x0,u⟩|exact rI)
   (first
    |(go_at_call 108
      refine hB.mono ?_;rintro e w3 ⟨p,t',rfl,h2,h3,h4,f⟩;have T:=Qh (Bz.out.gn f ⟨t',h4⟩);have I:Hid (au w3 w.heap.size 66 (af h)):=Qh ((Z.out.drew).bV f p6.out);have fV:=Qh (And.intro h2 h3);have rI:w3.cell? ⟨K.r,0,none⟩=some (.pointer (some ⟨K.g,0,none⟩))∧w3.cell? ⟨w.heap.size,7,none⟩=some (.int .i64 (k:Int)):=⟨T.out.c0,by have:=I.out.cell 7;simp only[af,Qc,Qa,Qb,im.out]at this;exact this⟩
      clear h2 h3 h4 f))
  clear hB rI x0 u;have k3:=I.out.cell 2;simp only[af,Qc,Qa,Qb,b.out]at k3;obtain rfl:kn=120:=by rw[←b.out,Rc.out];rfl
  go_upto_region 13 with fail
  go_wp2_with fail
  refine(mD p k k X w3 kQ.out (Qk _) (by have:=L.out;omega) fV.out.1 (T.out.Ll mP.out)).mono ?_;rintro e M ⟨o,c4,rfl,_,_,N,d⟩;obtain⟨⟨rs,er⟩,H⟩:∃x,di 5 9 X=x:=⟨_,rfl⟩
  have hlen:=rX 5 9 X;rw[H]at N hlen;simp only[H];rw[kQ.out]at hlen;have tG:Hid (di 5 9 X=(rs,er)):=Qh H;obtain⟨rl,O⟩:∃rl,rs.length=rl:=⟨_,rfl⟩
  simp only[O]at N⊢;have D:=Qh (T.out.below d);have DX:Hid (au M w.heap.size 66 (af h)):=Qh (I.out.below d I.out.lt);have xq:=Qh N;have pZ:=Qh hlen;have UQ:=Qh O;clear N hlen d H O k3;obtain rfl:er=0:=by have:=Q5.out;rw[tG.out]at this;exact congrArg Prod.snd this
  obtain rfl:rs=R:=by have:=Q5.out;rw[tG.out]at this;exact congrArg Prod.fst this
  have k4:=DX.out.cell 2;simp only[af,Qc,Qa,Qb,b.out]at k4;go_upto_region 19 with fail;have x4:=D.out.c2
  go_still_tail 8,(by kernel_rfl)
  refine dB (K:=QY) rfl (.tmp 84) (.tmp 86) (.tmp 88) rfl Tryz.underlying89 Tryz.underlying5 K.mw (D.out.idle ((Kept.refl ai M).drew)).map rfl 120 rfl (.agg #[.string ⟨#[]⟩,.slice o rl c4]) rfl ?_;intro w5 yG fS oY;have y:=Qh (And.intro yG (And.intro fS oY));clear yG fS oY;go_wp2;go_ret;exact⟨rfl,mb,v,xs,o,rl,c4,(D.out.idle ((Kept.refl ai M).drew)).waits y.out.2.1.out (by rw[←SZ s q o n c rl c4 rs];exact y.out.1.out) (dZ xq.out ((Kept.refl ai M).drew) (fun _ _ _=>id)) rfl rfl (fun h=>by cases h) ⟨fun r hr=>by have:=pZ.out.1 r hr;have:=L.out;omega,by show rs.length≤1048576;have:=pZ.out.2;have:=L.out;omega⟩ D.out.nl D.out.ll⟩
end
section
variable {w0 w w':World} {K:RK} {a:Nat} {s:RS} {mb:Option Nat} {v:Value} {xs:List MP} {q:Option Addr} {n c:Nat}
def eB (w0:World) (K:RK) (a:Nat) (st:Step) (e:Ending) (w':World):Prop:=
 match st with
 |.fault er=>e=.returned (.int .i64 er)∧Below w0.heap.size w0 w'
 |.done=>False
 |.next k s'=>e=.returned (.int .i64 0)∧Left w0 K (a+k) s' w'
theorem zC (s:RS) (q:Option Addr) (n c:Nat) (k:UInt8):(cD s q n c k).isSome=true↔(k=120∧s.fx=true)∨(k=76∧s.name.isSome=true)∨(k=75∧s.link.isSome=true):=by
 unfold cD
 by_cases h1:k=120
 ·subst h1
  cases s.fx<;>simp
 ·by_cases A:k=76
  ·subst A
   cases s.name<;>simp
  ·by_cases B:k=75
   ·subst B
    cases s.link<;>simp
   ·simp[h1,A,B]
theorem ub (hr:Rd w0 w K (a+512) s mb v xs q n c) (h:aq) (h0:0≤h.size) (hk:qx h.kind=true) (hN:Need w0):
 Calls Tryz.prog 75 #[.pointer (some ⟨K.r,0,none⟩),.agg (af h)] w (eB w0 K a (j1 (K.S.bs.drop a) h s)):=by
 obtain⟨t,hs⟩:=hr.src;have hlen:=hs.len;have hle:=hs.le;have O:(K.S.bs.drop a).length=K.S.n - a:=by rw[Qe,hlen]
 unfold j1
 by_cases h1:(h.kind=120∧s.fx=true)∨(h.kind=76∧s.name.isSome=true)∨(h.kind=75∧s.link.isSome=true)
 ·rw[if_pos h1]
  refine(Kr hr h ((zC s q n c h.kind).2 h1)).mono ?_;rintro e w' ⟨rfl,A⟩;exact⟨rfl,hr.bel.trans (A.mono hr.bel.size)⟩
 ·rw[if_neg h1]
  have hw:cD s q n c h.kind=none:=by
   cases T:cD s q n c h.kind with
   |none=>rfl
   |some y=>exact absurd ((zC s q n c h.kind).1 (by rw[T];rfl)) h1
  by_cases M:1048576<h.size
  ·rw[if_pos M]
   refine(Kp hr h hw M).mono ?_;rintro e w' ⟨rfl,A⟩;exact⟨rfl,hr.bel.trans (A.mono hr.bel.size)⟩
  ·rw[if_neg M]
   obtain⟨k,B⟩:∃k:Nat,h.size=(k:Int):=⟨h.size.toNat,by omega⟩
   have D:k≤1048576:=by omega
   have L:bg k=fJ k:=rfl;unfold sG;rw[B,Int.toNat_natCast,O]
   by_cases R:K.S.n<a+512+fJ k
   ·rw[if_pos (by rw[L];omega)]
    refine(Kq hr h hw k B D R).mono ?_;rintro e w' ⟨rfl,A⟩;exact⟨rfl,A⟩
   ·rw[if_neg (by rw[L];omega)]
    simp only;obtain⟨X,E⟩:∃X,(K.S.bs.drop (a+512)).take k=X:=⟨_,rfl⟩
    rw[List.drop_drop,E,L];have hl:a+512+fJ k≤K.S.n:=by omega
    by_cases G:h.kind=76
    ·rw[if_pos G]
     refine(NQ hr h hw k B D X E hl G).mono ?_;rintro e w' ⟨rfl,A⟩;rw[Nat.add_assoc]at A;exact⟨rfl,A⟩
    ·rw[if_neg G]
     by_cases H:h.kind=75
     ·rw[if_pos H]
      refine(NN hr h hw k B D X E hl H).mono ?_;rintro e w' ⟨rfl,A⟩;rw[Nat.add_assoc]at A;exact⟨rfl,A⟩
     ·rw[if_neg H]
      by_cases I:(di 5 9 X).2≠0
      ·rw[if_pos I]
       refine(Fc hr h hw k B D X E hl _ rfl I ⟨fun e=>G ((km h.kind 76 (by decide)).1 e),fun e=>H ((km h.kind 75 (by decide)).1 e)⟩ hN).mono ?_;rintro e w' ⟨rfl,A⟩;exact⟨rfl,A⟩
      ·rw[if_neg I]
       have N:di 5 9 X=((di 5 9 X).1,0):=Prod.ext rfl (Classical.byContradiction I)
       by_cases J:h.kind=103
       ·rw[if_pos J]
        refine(NM hr h hw k B D X E hl _ N J hN).mono ?_;rintro e w' ⟨rfl,A⟩;rw[Nat.add_assoc]at A;exact⟨rfl,A⟩
       ·rw[if_neg J]
        have U:h.kind=120:=by
         unfold qx at hk
         simpa [G,H,J]using hk
        refine(RN hr h hw k B D X E hl _ N U hN).mono ?_;rintro e w' ⟨rfl,A⟩;rw[Nat.add_assoc]at A;exact⟨rfl,A⟩
end
end Mem
namespace Mem
open Mk Block Hp Head Attr Path Go.Shelf
section
variable {w0 w w':World} {K:RK} {a:Nat} {s:RS} {mb:Option Nat} {v:Value} {xs:List MP} {q:Option Addr} {n c:Nat}
def AJ (s:RS) (q:Option Addr) (n c:Nat):Option Addr × Nat × Nat:=if s.fx=true then(q,n,c)else(none,0,0)
theorem um (h:dd QY w K.mw (cD s q n c)) (ho:AJ s q n c=(q',n',c')):
 (Instr.lookup 89 (.map (some K.mw)) (.int .u8 120) false).run Tryz.prog w=.ok (.agg #[.string ⟨#[]⟩,.slice q' n' c']) w:=by
 have:=h.look Tryz.underlying89 Tryz.underlying5 Ib 120;have e:cD s q n c 120=if s.fx=true then some (.agg #[.string ⟨#[]⟩,.slice q n c])else none:=by unfold cD;rw[if_pos rfl]
 rw[e]at this;unfold AJ at ho
 cases A:s.fx with
 |true=>
  rw[A,if_pos rfl]at ho this
  cases ho
  exact this
 |false=>
  rw[A,if_neg (by decide)]at ho this
  cases ho
  exact this
theorem Rd.ZX (h:Rd w0 w K a s mb v xs q n c) (ho:AJ s q n c=(q',n',c')):cM w q' n' s.own∧n'≤1048576:=by
 unfold AJ at ho
 cases A:s.fx with
 |true=>
  rw[A,if_pos rfl]at ho
  cases ho
  refine⟨h.own,?_⟩;have h1:=h.own.1;have B:=h.ol.2;omega
 |false=>
  rw[A,if_neg (by decide)]at ho
  cases ho
  rw[h.qN A];exact⟨⟨rfl,fun h=>absurd h (by omega)⟩,by omega⟩
theorem Ko (w:World) (x:ByteArray) (p:Option Addr) (m d:Nat):(Instr.field 178 (.agg #[.string x,.slice p m d]) 1).run Tryz.prog w=.ok (.slice p m d) w:=by
 kernel_rfl
theorem Ja (h:aq) (hr:Rd w0 w K a s mb v xs q n c) (h1:h.name.length≤1048576) (h2:h.link.length≤1048576):(fv h s).name.length≤1048576∧(fv h s).link.length≤1048576:=by
 unfold fv;constructor
 ·show(s.name.getD h.name).length≤_
  cases A:s.name with
  |none=>exact h1
  |some t=>exact hr.nl t A
 ·show(s.link.getD h.link).length≤_
  cases A:s.link with
  |none=>exact h2
  |some t=>exact hr.ll t A
theorem qc (h:aq) (hr:Rd w0 w K a s mb v xs q n c) (h0:0≤h.size) (h1:h.name.length≤1048576) (h2:h.link.length≤1048576):
 0≤(cU (aL s.dG) s.own (fv h s)).1.size∧(cU (aL s.dG) s.own (fv h s)).1.name.length≤1048576∧(cU (aL s.dG) s.own (fv h s)).1.link.length≤1048576:=
 J6 1048576 (fun i _=>Ce hr.gl hr.ol.1 _) h0 (Ja h hr h1 h2).1 (Ja h hr h1 h2).2
theorem qd (h:aq) (hr:Rd w0 w K a s mb v xs q n c) (ho:AJ s q n c=(q',n',c')) (H:aq):
 Calls Tryz.prog 112 #[.pointer (some ⟨K.gs,0,none⟩),.agg (af H),.slice q' n' c'] w fun e w'=>e=.returned (lB (cU (aL s.dG) s.own H))∧Below w.heap.size w w':=by
 obtain⟨h1,A⟩:=hr.ZX ho;exact J7 _ _ _ _ _ _ _ _ hr.st.ptr (by omega) h1 (fun i _=>Nat.le_trans (Ce hr.gl hr.ol.1 _) (by decide))
theorem Fk {h:aq} (h0:(eF h).2=0):h.size≤1048576:=by
 unfold eF at h0;split at h0
 ·rename_i h1;exact absurd h0 h1
 ·split at h0
  ·exact absurd h0 (by decide)
  ·split at h0
   ·rename_i h1;exact absurd h0 h1
   ·split at h0
    ·rename_i h1;exact absurd h0 h1
    ·rename_i h1
     unfold qY at h1;split at h1
     ·exact absurd (by decide) h1
     ·split at h1
      ·exact absurd (by decide) h1
      ·omega
end
end Mem
namespace Mem
open Go.Shelf Mk Hp Head Attr Go.Proofs.YtdhibldkldlfpaaGreatDoor.Mp
variable {listed:Array Bool} {bx:Nat} {h ah:aq}
theorem Sm (w:World) (g:Nat) (h:aq) (hb:au w g 66 (af h)):(Instr.loadAt 66 (.pointer (some ⟨g,0,none⟩))).run Tryz.prog w=.ok (.agg (af h)) w:=by
 have c0:=hb.cell;unfold af at c0⊢
 go_simp
theorem Hd {o:Oper} {a:Act} {K:Act→World→Prop} {Q:Exit→Act→World→Prop} (p x:Operand) (ho:o.op=.store 66 p x) (g:Nat) (hp:a.eval p=.pointer (some ⟨g,0,none⟩)) (h z:aq) (hx:a.eval x=.agg (af h)) (hz:au w g 66 (af z))
 (hK:∀w',au w' g 66 (af h)→Kept (ay g) w w'→K (a.put o.dst undef) w'):Oper.wp Tryz.prog o a w K Q:=by
 have A:=mZ hz;have f0:=hz.frozen;have c0:=hz.cell;unfold af at c0
 have D:Kept (ay g) w (((((((((w.setCell ⟨g,0,none⟩ (.string (str h.name))).setCell ⟨g,1,none⟩ (.string (str h.link))).setCell ⟨g,2,none⟩ (.int .u8 (h.kind.toNat:Int))).setCell ⟨g,3,none⟩ (.int .i64 h.mode)).setCell ⟨g,4,none⟩ (.int .i64 h.uid)).setCell ⟨g,5,none⟩ (.int .i64 h.gid)).setCell ⟨g,6,none⟩ (.int .i64 h.time)).setCell ⟨g,7,none⟩ (.int .i64 h.size)).setCell ⟨g,8,none⟩ (.bool h.fL)):=
  (((((((((Kept.refl (ay g) w).setCell (a:=⟨g,0,none⟩) (.inr rfl) _).setCell (a:=⟨g,1,none⟩) (.inr rfl) _).setCell (a:=⟨g,2,none⟩) (.inr rfl) _).setCell (a:=⟨g,3,none⟩) (.inr rfl) _).setCell (a:=⟨g,4,none⟩) (.inr rfl) _).setCell (a:=⟨g,5,none⟩) (.inr rfl) _).setCell (a:=⟨g,6,none⟩) (.inr rfl) _).setCell (a:=⟨g,7,none⟩) (.inr rfl) _).setCell (a:=⟨g,8,none⟩) (.inr rfl) _
 clear hz
 have B:(execOp a.eval o).run Tryz.prog w=.ok .skip (((((((((w.setCell ⟨g,0,none⟩ (.string (str h.name))).setCell ⟨g,1,none⟩ (.string (str h.link))).setCell ⟨g,2,none⟩ (.int .u8 (h.kind.toNat:Int))).setCell ⟨g,3,none⟩ (.int .i64 h.mode)).setCell ⟨g,4,none⟩ (.int .i64 h.uid)).setCell ⟨g,5,none⟩ (.int .i64 h.gid)).setCell ⟨g,6,none⟩ (.int .i64 h.time)).setCell ⟨g,7,none⟩ (.int .i64 h.size)).setCell ⟨g,8,none⟩ (.bool h.fL)):=by
  unfold af at hx;generalize a.eval=ev at hp hx;simp[go_sem,execOp,ho,hp,hx,c0,f0,Result.andThen]
 unfold Oper.wp;rw[B,Oper.upon_skip];exact hK _ (A _ _ _ _ _ _ _ _ _) D
noncomputable def aQ:Array Oper:=lK Tryz.f76 5
def mI (r gs mw bx:Nat) (h h':aq) (oq:Option Addr) (on oc:Nat) (ah:aq) (ae:Int):Nat→Value
 |0=>.pointer (some ⟨r,0,none⟩)|1=>.pointer (some ⟨r,0,none⟩)|2=>.pointer (some ⟨r,1,none⟩)|3=>.pointer (some ⟨gs,0,none⟩)|4=>.pointer (some ⟨r,0,none⟩)|5=>.agg (af h)|6=>.agg (af h')|7=>.pointer (some ⟨r,0,none⟩)|8=>.pointer (some ⟨r,0,none⟩)|9=>.pointer (some ⟨r,2,none⟩)|10=>.map (some mw)|11=>.agg #[.string ⟨#[]⟩,.slice oq on oc]|12=>.slice oq on oc|13=>.tuple #[.agg (af ah),.int .i64 ae]|14=>.tuple #[.agg (af ah),.int .i64 ae]|15=>.agg (af ah)|16=>.int .i64 ae|18=>.int .i64 ae|_=>undef
theorem ru:aQ.size=19:=rfl
theorem uJ:kS aQ 73=true:=by kernel_rfl
theorem JK:aR aQ 0=some 18:=rfl
theorem Nf:∃o,aQ[0]? =some o∧o.op=.move (.tmp 0)∧o.dst=some 18:=⟨_,rfl,rfl,rfl⟩
theorem JL:aR aQ 1=some 19:=rfl
theorem Ng:∃o,aQ[1]? =some o∧o.op=.nilCheck (.tmp 18)∧o.dst=some 19:=⟨_,rfl,rfl,rfl⟩
theorem JM:aR aQ 2=some 20:=rfl
theorem Nh:∃o,aQ[2]? =some o∧o.op=.fieldAddr 91 (.tmp 19) 1∧o.dst=some 20:=⟨_,rfl,rfl,rfl⟩
theorem JN:aR aQ 3=some 21:=rfl
theorem Ni:∃o,aQ[3]? =some o∧o.op=.load 88 (.tmp 20)∧o.dst=some 21:=⟨_,rfl,rfl,rfl⟩
theorem JO:aR aQ 4=some 22:=rfl
theorem Nj:∃o,aQ[4]? =some o∧o.op=.move (.tmp 0)∧o.dst=some 22:=⟨_,rfl,rfl,rfl⟩
theorem JP:aR aQ 5=some 23:=rfl
theorem Nk:∃o,aQ[5]? =some o∧o.op=.load 66 (.tmp 3)∧o.dst=some 23:=⟨_,rfl,rfl,rfl⟩
theorem JQ:aR aQ 6=some 24:=rfl
theorem Nl:∃o,aQ[6]? =some o∧o.op=.call {callee:=.value (.func 113),args:=#[.tmp 22,.tmp 23],argTypes:=#[84,66]}∧o.dst=some 24:=⟨_,rfl,rfl,rfl⟩
theorem JR:aR aQ 7=some 25:=rfl
theorem Nn:∃o,aQ[7]? =some o∧o.op=.move (.tmp 0)∧o.dst=some 25:=⟨_,rfl,rfl,rfl⟩
theorem JS:aR aQ 8=some 26:=rfl
theorem Np:∃o,aQ[8]? =some o∧o.op=.nilCheck (.tmp 25)∧o.dst=some 26:=⟨_,rfl,rfl,rfl⟩
theorem JT:aR aQ 9=some 27:=rfl
theorem Nq:∃o,aQ[9]? =some o∧o.op=.fieldAddr 91 (.tmp 26) 2∧o.dst=some 27:=⟨_,rfl,rfl,rfl⟩
theorem Ex:aR aQ 10=some 28:=rfl
theorem JU:∃o,aQ[10]? =some o∧o.op=.load 89 (.tmp 27)∧o.dst=some 28:=⟨_,rfl,rfl,rfl⟩
theorem Ey:aR aQ 11=some 29:=rfl
theorem JV:∃o,aQ[11]? =some o∧o.op=.lookup 89 (.tmp 28) (.const (.int .u8 120)) false∧o.dst=some 29:=⟨_,rfl,rfl,rfl⟩
theorem Ez:aR aQ 12=some 30:=rfl
theorem JW:∃o,aQ[12]? =some o∧o.op=.field 178 (.tmp 29) 1∧o.dst=some 30:=⟨_,rfl,rfl,rfl⟩
theorem EA:aR aQ 13=some 31:=rfl
theorem JX:∃o,aQ[13]? =some o∧o.op=.call {callee:=.value (.func 112),args:=#[.tmp 21,.tmp 24,.tmp 30],argTypes:=#[88,66,64]}∧o.dst=some 31:=⟨_,rfl,rfl,rfl⟩
theorem EB:aR aQ 14=some 17:=rfl
theorem JY:∃o,aQ[14]? =some o∧o.op=.move (.tmp 31)∧o.dst=some 17:=⟨_,rfl,rfl,rfl⟩
theorem EC:aR aQ 15=some 32:=rfl
theorem JZ:∃o,aQ[15]? =some o∧o.op=.extract (.tmp 17) 0∧o.dst=some 32:=⟨_,rfl,rfl,rfl⟩
theorem ED:aR aQ 16=some 33:=rfl
theorem J0:∃o,aQ[16]? =some o∧o.op=.extract (.tmp 17) 1∧o.dst=some 33:=⟨_,rfl,rfl,rfl⟩
theorem EF:aR aQ 17=none:=rfl
theorem J1:∃o,aQ[17]? =some o∧o.op=.store 66 (.tmp 3) (.tmp 32)∧o.dst=none:=⟨_,rfl,rfl,rfl⟩
theorem EG:aR aQ 18=some 5:=rfl
theorem J2:∃o,aQ[18]? =some o∧o.op=.assign (.tmp 33)∧o.dst=some 5:=⟨_,rfl,rfl,rfl⟩
structure W5 (w:World) (bx:Nat) (h ah:aq) (listed:Array Bool) (w':World):Prop where
 bel:Below w.heap.size w w'
 bf:listed.getD 17 false=false→au w' bx 66 (af h)
 aft:listed.getD 17 false=true→au w' bx 66 (af ah)∧∀j,j<16→listed.getD j false=true
theorem W5.bH (hW:W5 w bx h ah listed w') (ao:j<listed.size) (hj:j≠17):W5 w bx h ah (listed.setIfInBounds j true) w':=by
 have e:(listed.setIfInBounds j true).getD 17 false=listed.getD 17 false:=by rw[aa ao,if_neg (Ne.symm hj)]
 refine⟨hW.bel,fun A=>hW.bf (by rw[←e];exact A),fun A=>⟨(hW.aft (by rw[←e];exact A)).1,fun i hi=>?_⟩⟩;rw[aa ao];split
 ·rfl
 ·exact(hW.aft (by rw[←e];exact A)).2 i hi
theorem W5.not (hW:W5 w bx h ah listed w') (hj:j<16) (jQ:listed.getD j false=false):listed.getD 17 false=false:=by
 cases A:listed.getD 17 false with
 |false=>rfl
 |true=>rw[(hW.aft A).2 j hj]at jQ;cases jQ
theorem W5.call {w2:World} (hW:W5 w bx h ah listed w') (ao:j<listed.size) (hj:j<16) (jQ:listed.getD j false=false) (hb:Below w'.heap.size w' w2):W5 w bx h ah (listed.setIfInBounds j true) w2:=by
 have A:=hW.not hj jQ;have e:(listed.setIfInBounds j true).getD 17 false=false:=by rw[aa ao,if_neg (by omega)];exact A
 refine⟨hW.bel.trans (hb.mono hW.bel.size),fun _=>(hW.bf A).below hb (hW.bf A).lt,fun B=>?_⟩;rw[e]at B
 cases B
theorem kx {Q':Exit→Act→World→Prop} {a0:Act} {w1:World} (r gs mw bx:Nat) (h h':aq) (oq:Option Addr) (on oc:Nat) (ah:aq) (ae:Int)
 (hsz:73≤a0.tmps.size) (h0:a0.eval (.tmp 0)=.pointer (some ⟨r,0,none⟩)) (h3:a0.eval (.tmp 3)=.pointer (some ⟨bx,0,none⟩)) (hbx:w.heap.size≤bx) (ck:Below w.heap.size w w1) (N9:au w1 bx 66 (af h))
 (hS:∀wi,Below w.heap.size w wi→(wi.cell? ⟨r,1,none⟩=some (.pointer (some ⟨gs,0,none⟩))∧wi.cell? ⟨r,2,none⟩=some (.map (some mw)))∧(Instr.lookup 89 (.map (some mw)) (.int .u8 120) false).run Tryz.prog wi=.ok (.agg #[.string ⟨#[]⟩,.slice oq on oc]) wi)
 (ag6:∀wi,Below w.heap.size w wi→Calls Tryz.prog 113 #[.pointer (some ⟨r,0,none⟩),.agg (af h)] wi fun e w'=>e=.returned (.agg (af h'))∧Below wi.heap.size wi w')
 (ae6:∀wi,Below w.heap.size w wi→Calls Tryz.prog 112 #[.pointer (some ⟨gs,0,none⟩),.agg (af h'),.slice oq on oc] wi fun e w'=>e=.returned (.tuple #[.agg (af ah),.int .i64 ae])∧Below wi.heap.size wi w')
 (hQ:∀w',Below w.heap.size w w'→au w' bx 66 (af ah)→Q' .normal ((((((((((((((((((a0.put (some 18) (.pointer (some ⟨r,0,none⟩))).put (some 19) (.pointer (some ⟨r,0,none⟩))).put (some 20) (.pointer (some ⟨r,1,none⟩))).put (some 21) (.pointer (some ⟨gs,0,none⟩))).put (some 22) (.pointer (some ⟨r,0,none⟩))).put (some 23) (.agg (af h))).put (some 24) (.agg (af h'))).put (some 25) (.pointer (some ⟨r,0,none⟩))).put (some 26) (.pointer (some ⟨r,0,none⟩))).put (some 27) (.pointer (some ⟨r,2,none⟩))).put (some 28) (.map (some mw))).put (some 29) (.agg #[.string ⟨#[]⟩,.slice oq on oc])).put (some 30) (.slice oq on oc)).put (some 31) (.tuple #[.agg (af ah),.int .i64 ae])).put (some 17) (.tuple #[.agg (af ah),.int .i64 ae])).put (some 32) (.agg (af ah))).put (some 33) (.int .i64 ae)).put (some 5) (.int .i64 ae)) w'):
 wpAny Tryz.prog .any aQ Q' aQ.size (Array.replicate aQ.size false) a0 w1.drew:=by
 have no:∀j,(Array.replicate aQ.size false).getD j false=false:=fun j=>by
  rw[Array.getD_eq_getD_getElem?,Array.getElem?_replicate];split<;>rfl
 refine jg (Γ:=Unit) (fun _=>mI r gs mw bx h h' oq on oc ah ae) () a0 (fun _ listed w'=>W5 w bx h ah listed w') 73 uJ hsz ?_ ?_ ?_
 ·intro γ listed a w' j o G I W L
  have J:=bp W;have E:=G.wd
  have R:j<19:=by
   have:=(Array.getElem?_eq_some_iff.1 I).1
   rwa [ru]at this
  have same:∀{j':Nat} {H:Oper},aQ[j']? =some H→j=j'→H=o:=fun {j' H} h' e=>by subst e;exact Option.some.inj (h'.symm.trans I)
  have U:=dS W;have b:∀i,listed.getD i false=true→i≠j:=fun i hi e=>by rw[e,U]at hi;cases hi
  rcases(show j=0∨j=1∨j=2∨j=3∨j=4∨j=5∨j=6∨j=7∨j=8∨j=9∨j=10∨j=11∨j=12∨j=13∨j=14∨j=15∨j=16∨j=17∨j=18 by omega)with rfl|rfl|rfl|rfl|rfl|rfl|rfl|rfl|rfl|rfl|rfl|rfl|rfl|rfl|rfl|rfl|rfl|rfl|rfl
  ·obtain⟨H,D,B,M⟩:=Nf
   obtain rfl:=same D rfl;have A:a.eval (.tmp 0)=.pointer (some ⟨r,0,none⟩):=(G.old (t:=0) (by kernel_rfl)).trans h0;exact wp_move _ _ (Or.inl B) A ⟨γ,fun _ _=>rfl,rfl,E.bH J (by decide)⟩
  ·obtain⟨H,D,B,M⟩:=Ng
   obtain rfl:=same D rfl;have A:a.eval (.tmp 18)=.pointer (some ⟨r,0,none⟩):=(G.get I L (i:=0) (d:=18) (by kernel_rfl) rfl)
   refine cE _ ?_ ⟨γ,fun _ _=>rfl,rfl,E.bH J (by decide)⟩;generalize a.eval=ev at A⊢;simp[go_sem,execOp,B,A,mI]
  ·obtain⟨H,D,B,M⟩:=Nh
   obtain rfl:=same D rfl;have A:a.eval (.tmp 19)=.pointer (some ⟨r,0,none⟩):=(G.get I L (i:=1) (d:=19) (by kernel_rfl) rfl)
   refine cE _ ?_ ⟨γ,fun _ _=>rfl,rfl,E.bH J (by decide)⟩;generalize a.eval=ev at A⊢;simp[go_sem,execOp,B,A,mI]
  ·obtain⟨H,D,B,M⟩:=Ni
   obtain rfl:=same D rfl;have A:a.eval (.tmp 20)=.pointer (some ⟨r,1,none⟩):=(G.get I L (i:=2) (d:=20) (by kernel_rfl) rfl)
   have q:=(hS w' E.bel).1.1;refine cE _ ?_ ⟨γ,fun _ _=>rfl,rfl,E.bH J (by decide)⟩;generalize a.eval=ev at A⊢;simp[go_sem,execOp,B,A,q,mI]
  ·obtain⟨H,D,B,M⟩:=Nj
   obtain rfl:=same D rfl;have A:a.eval (.tmp 0)=.pointer (some ⟨r,0,none⟩):=(G.old (t:=0) (by kernel_rfl)).trans h0;exact wp_move _ _ (Or.inl B) A ⟨γ,fun _ _=>rfl,rfl,E.bH J (by decide)⟩
  ·obtain⟨H,D,B,M⟩:=Nk
   obtain rfl:=same D rfl;have A:a.eval (.tmp 3)=.pointer (some ⟨bx,0,none⟩):=(G.old (t:=3) (by kernel_rfl)).trans h3;refine cE _ ?_ ⟨γ,fun _ _=>rfl,rfl,E.bH J (by decide)⟩;have q:=Sm w' bx h (E.bf (E.not (by omega) U));simp[execOp,B,A,q,Result.andThen,mI]
  ·obtain⟨H,D,B,M⟩:=Nl
   obtain rfl:=same D rfl;have A:a.eval (.tmp 22)=.pointer (some ⟨r,0,none⟩):=(G.get I L (i:=4) (d:=22) (by kernel_rfl) rfl)
   have O:a.eval (.tmp 23)=.agg (af h):=(G.get I L (i:=5) (d:=23) (by kernel_rfl) rfl)
   refine q9 _ _ _ B #[.pointer (some ⟨r,0,none⟩),.agg (af h)] (by simp[A,O]) (enters_of Tryz.func113 (by kernel_rfl) rfl) _ _ (ag6 w' E.bel) (fun X V=>⟨γ,fun _ _=>rfl,rfl,E.call J (by omega) U V⟩)
  ·obtain⟨H,D,B,M⟩:=Nn
   obtain rfl:=same D rfl;have A:a.eval (.tmp 0)=.pointer (some ⟨r,0,none⟩):=(G.old (t:=0) (by kernel_rfl)).trans h0;exact wp_move _ _ (Or.inl B) A ⟨γ,fun _ _=>rfl,rfl,E.bH J (by decide)⟩
  ·obtain⟨H,D,B,M⟩:=Np
   obtain rfl:=same D rfl;have A:a.eval (.tmp 25)=.pointer (some ⟨r,0,none⟩):=(G.get I L (i:=7) (d:=25) (by kernel_rfl) rfl)
   refine cE _ ?_ ⟨γ,fun _ _=>rfl,rfl,E.bH J (by decide)⟩;generalize a.eval=ev at A⊢;simp[go_sem,execOp,B,A,mI]
  ·obtain⟨H,D,B,M⟩:=Nq
   obtain rfl:=same D rfl;have A:a.eval (.tmp 26)=.pointer (some ⟨r,0,none⟩):=(G.get I L (i:=8) (d:=26) (by kernel_rfl) rfl)
   refine cE _ ?_ ⟨γ,fun _ _=>rfl,rfl,E.bH J (by decide)⟩;generalize a.eval=ev at A⊢;simp[go_sem,execOp,B,A,mI]
  ·obtain⟨H,D,B,M⟩:=JU
   obtain rfl:=same D rfl;have A:a.eval (.tmp 27)=.pointer (some ⟨r,2,none⟩):=(G.get I L (i:=9) (d:=27) (by kernel_rfl) rfl)
   have q:=(hS w' E.bel).1.2;refine cE _ ?_ ⟨γ,fun _ _=>rfl,rfl,E.bH J (by decide)⟩;generalize a.eval=ev at A⊢;simp[go_sem,execOp,B,A,q,mI]
  ·obtain⟨H,D,B,M⟩:=JV
   obtain rfl:=same D rfl;have A:a.eval (.tmp 28)=.map (some mw):=(G.get I L (i:=10) (d:=28) (by kernel_rfl) rfl)
   exact oQ _ _ _ B _ _ _ A (NL a _) (hS w' E.bel).2 ⟨γ,fun _ _=>rfl,rfl,E.bH J (by decide)⟩
  ·obtain⟨H,D,B,M⟩:=JW
   obtain rfl:=same D rfl;have A:a.eval (.tmp 29)=.agg #[.string ⟨#[]⟩,.slice oq on oc]:=(G.get I L (i:=11) (d:=29) (by kernel_rfl) rfl)
   refine cE _ ?_ ⟨γ,fun _ _=>rfl,rfl,E.bH J (by decide)⟩;have q:=Ko w' ⟨#[]⟩ oq on oc;simp[execOp,B,A,q,Result.andThen,mI]
  ·obtain⟨H,D,B,M⟩:=JX
   obtain rfl:=same D rfl;have A:a.eval (.tmp 21)=.pointer (some ⟨gs,0,none⟩):=(G.get I L (i:=3) (d:=21) (by kernel_rfl) rfl)
   have O:a.eval (.tmp 24)=.agg (af h'):=(G.get I L (i:=6) (d:=24) (by kernel_rfl) rfl)
   have Z:a.eval (.tmp 30)=.slice oq on oc:=(G.get I L (i:=12) (d:=30) (by kernel_rfl) rfl)
   refine q9 _ _ _ B #[.pointer (some ⟨gs,0,none⟩),.agg (af h'),.slice oq on oc] (by simp[A,O,Z]) (enters_of Tryz.func112 (by kernel_rfl) rfl) _ _ (ae6 w' E.bel) (fun X V=>⟨γ,fun _ _=>rfl,rfl,E.call J (by omega) U V⟩)
  ·obtain⟨H,D,B,M⟩:=JY
   obtain rfl:=same D rfl;have A:a.eval (.tmp 31)=.tuple #[.agg (af ah),.int .i64 ae]:=(G.get I L (i:=13) (d:=31) (by kernel_rfl) rfl)
   exact wp_move _ _ (Or.inl B) A ⟨γ,fun _ _=>rfl,rfl,E.bH J (by decide)⟩
  ·obtain⟨H,D,B,M⟩:=JZ
   obtain rfl:=same D rfl;have A:a.eval (.tmp 17)=.tuple #[.agg (af ah),.int .i64 ae]:=(G.get I L (i:=14) (d:=17) (by kernel_rfl) rfl)
   refine cE _ ?_ ⟨γ,fun _ _=>rfl,rfl,E.bH J (by decide)⟩;generalize a.eval=ev at A⊢;simp[go_sem,execOp,B,A,mI]
  ·obtain⟨H,D,B,M⟩:=J0
   obtain rfl:=same D rfl;have A:a.eval (.tmp 17)=.tuple #[.agg (af ah),.int .i64 ae]:=(G.get I L (i:=14) (d:=17) (by kernel_rfl) rfl)
   refine cE _ ?_ ⟨γ,fun _ _=>rfl,rfl,E.bH J (by decide)⟩;generalize a.eval=ev at A⊢;simp[go_sem,execOp,B,A,mI]
  ·obtain⟨H,D,B,M⟩:=J1
   obtain rfl:=same D rfl;have A:a.eval (.tmp 3)=.pointer (some ⟨bx,0,none⟩):=(G.old (t:=3) (by kernel_rfl)).trans h3;have O:a.eval (.tmp 32)=.agg (af ah):=(G.get I L (i:=15) (d:=32) (by kernel_rfl) rfl)
   have all:∀j,j<16→listed.getD j false=true:=fun j R=>by
    rcases(show j=0∨j=1∨j=2∨j=3∨j=4∨j=5∨j=6∨j=7∨j=8∨j=9∨j=10∨j=11∨j=12∨j=13∨j=14∨j=15 by omega)with rfl|rfl|rfl|rfl|rfl|rfl|rfl|rfl|rfl|rfl|rfl|rfl|rfl|rfl|rfl|rfl<;>exact bW I L (by kernel_rfl)
   refine Hd _ _ B bx A ah h O (E.bf U) (fun X Y hk=>⟨γ,fun _ _=>rfl,rfl,⟨E.bel.trans (hk.below E.bel.size (fun k hk=>by rw[show k=bx from hk];exact hbx)),fun T=>?_,fun _=>⟨Y,fun j R=>?_⟩⟩⟩)
   ·rw[aa J,if_pos rfl]at T
    cases T
   ·rw[aa J]
    split
    ·rfl
    ·exact all j R
  ·obtain⟨H,D,B,M⟩:=J2
   obtain rfl:=same D rfl;have A:a.eval (.tmp 33)=.int .i64 ae:=(G.get I L (i:=16) (d:=33) (by kernel_rfl) rfl)
   exact wp_move _ _ (Or.inr B) A ⟨γ,fun _ _=>rfl,rfl,E.bH J (by decide)⟩
 ·intro γ listed a w' G N
  have all:∀j,j<19→listed.getD j false=true:=fun j R=>N j (by rw[ru];exact R)
  have E:=G.wd;rw[gI 73 uJ hsz G N,ru];simp only[gh,JK,JL,JM,JN,JO,JP,JQ,JR,JS,JT,Ex,Ey,Ez,EA,EB,EC,ED,EF,EG,Dn,mI];exact hQ w' E.bel (E.aft (all 17 (by omega))).1
 ·exact⟨ck.drew,fun _=>N9.drew,fun T=>by rw[no]at T;cases T⟩
end Mem
end Go.Proofs.YtdhibldkldlfpaaGreatDoor
