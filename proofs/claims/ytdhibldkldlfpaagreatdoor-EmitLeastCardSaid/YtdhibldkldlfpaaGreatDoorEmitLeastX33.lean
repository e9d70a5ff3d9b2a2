/- Merged. -/
import Derived.RangeFuncNested
import Derived.RangeFuncBound
import Derived.Shelf.Abstract
import Derived.Shelf.RegionOpen
import Derived.WalkKit
import Derived.OwnWalkIn
import Derived.LoopNIn
import Derived.LoopIn
import Derived.Test.YtdhibldkldlfpaaGreatDoorEmitLeastX32
import Derived.Test.YtdhibldkldlfpaaGreatDoorEmitLeastX23
import Derived.Test.YtdhibldkldlfpaaGreatDoorEmitLeastX28
namespace Go.Proofs.YtdhibldkldlfpaaGreatDoor
set_option linter.unusedVariables false
set_option maxHeartbeats 4000000
set_option maxRecDepth 100000
variable {M:Array Value} {B b g i k n:Nat} {p:Option Addr} {α:Type} {W w W' w':World}
namespace Path
open Go.ChangeShapes Go.WideShapes Go.ChangeAt Go.RowKit Go.Shelf Base bJ cn Go.Lib qd
attribute [local go_sem] Oper.semAt_some
theorem od {β:Type} {B:Nat} {J:β→World→Prop} (h:AbidesFrom B J) {s:β} {w:World} (hs:J s w) (n:Nat):J s (w.drewN n):=
 match n with
 |0=>hs
 |n+1=>h s (w.drewN n) _ none (od h hs n) ⟨rfl,rfl,rfl,Qk _,fun _ _ _=>rfl⟩ (fun r e=>by cases e)
def EU (m:Bool) (l:List UInt8):List (List UInt8):=if m then aC l else[]
theorem K1 (l:List UInt8):EU true l=(na l).1::EU (na l).2.2 (na l).2.1:=by
 unfold EU na;rw[if_pos rfl];obtain⟨h1,A⟩:=wv l
 by_cases h:0≤Lib.indexByte l 47
 ·rw[if_pos h,h1 h]
  simp
 ·rw[if_neg h,A h]
  simp
theorem JV (l:List UInt8):(na l).2.1.length+(if(na l).2.2 then 1 else 0)<l.length+1:=by
 unfold na
 by_cases h:0≤Lib.indexByte l 47
 ·rw[if_pos h]
  obtain⟨k,hk⟩:∃k:Nat,Lib.indexByte l 47=k:=⟨(Lib.indexByte l 47).toNat,by omega⟩
  have A:=(List.getElem?_eq_some_iff.1 (Lib.indexByte_some hk).1).1;simp only[Qe,hk,Int.toNat_natCast,if_true];omega
 ·rw[if_neg h]
  simp
def Pj (r m:Value):Nat:=(match r with|.string s=>s.size|_=>0)+(match m with|.bool true=>1|_=>0)
abbrev Part:={x:List UInt8 // x.length≤140737488351232}
theorem H7 (l:List UInt8):∀p∈aC l,p.length≤l.length:=by
 induction l with
 |nil=>simp[aC]
 |cons b l ih=>
  unfold aC
  by_cases A:b=47
  ·rw[if_pos A]
   intro p hp;rcases List.mem_cons.1 hp with rfl|hp
   ·simp
   ·have:=ih p hp;rw[List.length_cons];omega
  ·rw[if_neg A]
   cases B:aC l with
   |nil=>exact absurd B (tG l)
   |cons q qs=>
    rw[B]at ih;intro p hp;rcases List.mem_cons.1 hp with rfl|hp
    ·have:=ih q (by simp)
     simp only[List.headD_cons,List.length_cons];omega
    ·have:=ih p (List.mem_cons_of_mem _ hp);rw[List.length_cons];omega
theorem DL (s:List UInt8) (hm:s.length≤140737488351232):∃ps:List Part,ps.map (·.1)=aC s:=by
 refine⟨(aC s).attachWith _ (fun p A=>Nat.le_trans (H7 s p A) hm),?_⟩;simp
theorem Ry (F:Fence) (n:Nat) (hF:F=Fence.wide) (hn:1≤n) (l Bn:Nat) (s:List UInt8) (hm:s.length≤140737488351232) (ps:List Part) (xG:ps.map (·.1)=aC s) (J Jx:List Part→World→Prop) (B:Nat) (hJ:AbidesFrom B J)
 (hY:∀pre x W,J pre W→pre.length<ps.length→YieldAt F (n - 1) Tryz.prog l #[.string (str x.1)] W fun e W'=>
  (e=.returned (.bool true)∧J (pre++[x]) W'∧True)∨(e=.returned (.bool false)∧Jx (pre++[x]) W'))
 (W:World) (Qw:W.cell? ⟨Bn,0,none⟩=some (.string (str s))) (h0:J [] W):
 CallsIn F n Tryz.prog 187 #[.func (.yield l) #[] #[],.pointer (some ⟨Bn,0,none⟩)] W fun e W'=>(∃v,e=.returned v)∧
  ((∃ys,ys=ps∧J ys W')∨(∃pre,pre<+:ps∧Jx pre W')):=by
 subst hF;refine callsIn_of_wp Tryz.func187 rfl trivial ?_ rfl;simp only[Tryz.ntmps187,List.size_toArray,List.length_cons,List.length_nil,Nat.reduceAdd,Nat.reduceSub,Array.replicate_succ,Array.replicate_zero,List.push_toArray,List.append_toArray,List.nil_append,List.cons_append]
 gi_wp2
 gi_loopw [3,4] (fun r m wr=>∃(pre D:List Part) (rest:List UInt8) (b:Bool),r=.string (str rest)∧m=.bool b∧Hid (ps=pre++D∧D.map (·.1)=EU b rest)∧rest.length≤140737488351232∧J pre wr)
  (fun r m wr=>Pj r m)
 case atStart=>exact⟨[],ps,s,true,rfl,rfl,⟨rfl,xG⟩,hm,h0⟩
 case round=>
  obtain⟨pre,D,rest,b,rfl,rfl,O,f,U⟩:=hrel
  cases b with
  |false=>
   gi_wp2
   go_end0
   exact⟨⟨_,rfl⟩,.inl ⟨pre,by obtain⟨h1,M⟩:=O.out;obtain rfl:D=[]:=List.map_eq_nil_iff.1 M;simp[h1],U⟩⟩
  |true=>
   obtain⟨G,A⟩:=O.out;rw[K1]at A
   obtain⟨x,Sp,R⟩:∃x Sp,D=x::Sp:=by
    cases D with
    |nil=>simp at A
    |cons x Sp=>exact⟨x,Sp,rfl⟩
   rw[R,List.map_cons,List.cons.injEq]at A;have hc:=xq rest wr f;have hl:=JV rest;have E:(str rest).size=rest.length:=aq rest;obtain⟨p,N⟩:∃p:List UInt8,p=x.1:=⟨_,rfl⟩
   obtain⟨q,I⟩:∃q,q=(na rest).2.1:=⟨_,rfl⟩
   obtain⟨b,H⟩:∃b,b=(na rest).2.2:=⟨_,rfl⟩
   rw[←A.1,←N,←I,←H]at hc;rw[←I,←H]at A;rw[R]at G;rw[←I,←H]at hl;have L:=Qh (And.intro G A.2);have T:=Qh hl;have X:=Qh E
   have V:∀k,YieldAt Fence.wide (n - 1) Tryz.prog l #[.string (str x.1)] (wr.drewN k) fun e W'=>
    (e=.returned (.bool true)∧J (pre++[x]) W'∧True)∨(e=.returned (.bool false)∧Jx (pre++[x]) W'):=
    fun k=>hY pre x _ (od hJ U k) (by rw[G];simp)
   rw[←N]at V;clear N I H G A hl E O R hY
   gi_wp2_with (refine⟨trivial,?_⟩;gi_at_call 141;refine(callsIn_wide.2 hc).mono ?_;rintro e w' ⟨rfl,k,rfl⟩;obtain⟨fn,tmps,assign,body,hy,d⟩:=V k)
   refine d.mono ?_;rintro e g (⟨rfl,Z,-⟩|⟨rfl,Y⟩)
   ·gi_wp2
    go_roundw
    case rel=>exact⟨pre++[x],Sp,q,b,rfl,rfl,⟨by rw[L.out.1];simp,L.out.2⟩,by have:=T.out;omega,Z⟩
    case measure=>
     have h1:=T.out;have M:=X.out;have c:(str q).size=q.length:=aq q
     cases b<;>simp[Pj,M,c]at h1⊢<;>omega
   ·gi_wp2
    refine bodyPost_ret (results_none rfl _ _ _) rfl ?_;exact⟨⟨_,rfl⟩,.inr ⟨pre++[x],by rw[L.out.1];exact⟨Sp,by simp⟩,Y⟩⟩
theorem Ix (n:Nat) (hn:1≤n) (Bn:Nat) (s:List UInt8) (hm:s.length≤140737488351232) (ps:List Part) (xG:ps.map (·.1)=aC s) (w:World) (Qw:Bn<w.heap.size) (hc:w.cell? ⟨Bn,0,none⟩=some (.string (str s))):
 SeqStopsK Fence.wide n Tryz.prog 187 #[.pointer (some ⟨Bn,0,none⟩)] (fun x:Part=>#[Value.string (str x.1)]) (fun _ _=>True) (fun ys=>ys=ps) (fun pre=>pre<+:ps) ps.length w:=fun l J A W E D _ G B=>
 Ry Fence.wide n rfl hn l Bn s hm ps xG J A _ D G W ((E.cell (p:=⟨Bn,0,none⟩) Qw).trans hc) B
theorem H5 (s:List UInt8) (w:World):
 Calls Tryz.prog 150 #[.string (str s)] w fun e w'=>e=.returned (.func (.func 187) #[] #[.pointer (some ⟨w.heap.size,0,none⟩)])∧w'=w.alloc (.cells #[.string (str s)] 9):=by
 go_enter Tryz.func150,Tryz.ntmps150
 go_wp2;go_ret;exact⟨rfl,rfl⟩
end Path
namespace Path
open Go.ChangeShapes Go.WideShapes Go.ChangeAt Go.RowKit Go.Shelf Base bJ cn Go.Lib qd
variable {v:Value}
attribute [local go_sem] Oper.semAt_some
theorem Ev (a b:List (List UInt8)):∀c,rG c (a++b)=(rG c a).bind fun d=>rG d b:=by
 induction a with
 |nil=>intro c;rfl
 |cons p a ih=>
  intro c;rw[List.cons_append,rG,rG];split
  ·rfl
  ·exact ih _
theorem J5 (pre:List (List UInt8)) (p c d:List UInt8) (h:rG c pre=some d):rG c (pre++[p])=if p=[46,46]∨200<(bF d p).length then none else some (bF d p):=by
 rw[Ev,h,Option.bind_some];unfold rG;split<;>rfl
theorem Qs (ps:List (List UInt8)):∀c d,c.length≤200→rG c ps=some d→d.length≤200:=by
 induction ps with
 |nil=>intro c d hc h;cases h;exact hc
 |cons p ps ih=>
  intro c d hc h;unfold rG at h;split at h
  ·cases h
  ·next A=>exact ih _ _ (by rcases Nat.lt_or_ge 200 (bF c p).length with h'|h';exact absurd (.inr h') A;exact h') h
theorem J4 (a b:List (List UInt8)) (h:rG [] a=none):rG [] (a++b)=none:=by rw[Ev,h];rfl
theorem sL (l:List UInt8):Lib.hasPrefix l [47]=decide (l.head? =some 47):=by
 cases l with
 |nil=>simp[Lib.hasPrefix]
 |cons b t=>
  by_cases h:b=47
  ·subst h;simp[Lib.hasPrefix]
  ·have A:¬(47:UInt8)=b:=fun e=>h e.symm
   simp[Lib.hasPrefix,List.isPrefixOf,h,A]
def Cell (W:World) (b:Nat) (v:Value):Prop:=W.cell? ⟨b,0,none⟩=some v∧W.frozen? ⟨b,0,none⟩=false
theorem Cell.kept (h:Cell W b v) {row:Option Nat} (hg:W.grownBy W' row) (hr:∀r,row=some r→∃o:Obj,W.heap[r]? =some o∧o.isCells=false):Cell W' b v:=
 ⟨cell_kept h.1 hg hr,(frozen_kept h.1 hg hr).trans h.2⟩
theorem Cell.below (h:Cell W b v) (hb:Below n W W') (hn:b<n):Cell W' b v:=
 ⟨(hb.cell (p:=⟨b,0,none⟩) hn).trans h.1,(hb.frozen (p:=⟨b,0,none⟩) hn).trans h.2⟩
theorem Cell.new (W:World) (v:Value) (t:TypeId):Cell (W.alloc (.cells #[v] t)) W.heap.size v:=by
 have h:=World.alloc_heap_new W (.cells #[v] t);unfold Cell World.cell? World.frozen?;rw[h];exact⟨rfl,rfl⟩
theorem Cell.alloc (h:Cell W b v) (o:Obj):Cell (W.alloc o) b v:=h.kept (World.grownBy_alloc W o none) (fun r e=>by cases e)
theorem Cell.set (h:Cell W b v) (u:Value):Cell (W.setCell ⟨b,0,none⟩ u) b u:=
 ⟨World.cell?_setCell_same' _ _ _ (by rw[h.1];rfl),by rw[World.frozen?_setCell];exact h.2⟩
theorem Cell.other {b':Nat} (h:Cell W b v) (u:Value) (cV:b'≠b):Cell (W.setCell ⟨b',0,none⟩ u) b v:=
 ⟨(World.cell?_setCell_other _ _ _ _ (fun e=>cV (congrArg Addr.block e))).trans h.1,by rw[World.frozen?_setCell];exact h.2⟩
def dV (P:Int) (l:List UInt8):List UInt8 × Int:=
 if l.head? =some 47 then([],P)else match rG [] (aC l)with|none=>([],P)|some a=>if a=[]then([],P)else(a,0)
theorem B4 (T P:Int) (l:List UInt8):bz T P l=if aQ l=false then([],T)else dV P l:=Gg T P l
theorem kl (W:World) (tm:Array Value) (b0 b1:Nat) (s:ByteArray) (e:Int) (h0:tm[2]? =some (.pointer (some ⟨b0,0,none⟩))) (h1:tm[3]? =some (.pointer (some ⟨b1,0,none⟩)))
 (c0:Cell W b0 (.string s)) (c1:Cell W b1 (.int .i64 e)):(results Tryz.f116 tm).run Tryz.prog W=.ok (.tuple #[.string s,.int .i64 e]) W:=by
 obtain⟨A,B⟩:=c0;obtain⟨Nd,D⟩:=c1;simp[results,Tryz.f116,go_sem,h0,h1,A,Nd]
theorem vw (l:List UInt8) (w:World) (hm:l.length≤140737488351232) (hT:Tabs w):
 Calls Tryz.prog 116 #[.string (str l)] w fun e w'=>e=.returned (.tuple #[.string (str (bz 9 6 l).1),.int .i64 (bz 9 6 l).2])∧Below w.heap.size w w':=by
 have hR:=fun w hT=>wK l w hm hT
 have hP:=fun w=>Any.strings_HasPrefix Tryz.CQ (str l) ⟨#[47]⟩ w
 rw[B4];simp only[bg,sL]at hP;refine(callsIn_wide (n:=3)).1 ?_;refine callsIn_of_wp_marks Tryz.func116 rfl trivial ?_ rfl;simp only[Tryz.ntmps116,List.size_toArray,List.length_cons,List.length_nil,Nat.reduceAdd,Nat.reduceSub,Array.replicate_succ,Array.replicate_zero,List.push_toArray,List.append_toArray,List.nil_append,List.cons_append];have pf:Below w.heap.size w ((w.alloc (.cells #[.string ⟨#[]⟩] 9)).alloc (.cells #[.int .i64 0] 27)):=((Below.refl _ _).alloc (Qk _) _).alloc (by simp) _;have z:=hT.below pf;have c0:Cell ((w.alloc (.cells #[.string ⟨#[]⟩] 9)).alloc (.cells #[.int .i64 0] 27)) w.heap.size (.string ⟨#[]⟩):=(Cell.new w _ _).alloc _
 have c1:Cell ((w.alloc (.cells #[.string ⟨#[]⟩] 9)).alloc (.cells #[.int .i64 0] 27)) (w.heap.size+1) (.int .i64 0):=by
  have:=Cell.new (w.alloc (.cells #[.string ⟨#[]⟩] 9)) (.int .i64 0) 27
  rwa [World.size_alloc]at this
 have HC:=Qh (And.intro c0 c1);have HB:=Qh pf;clear c0 c1 pf hT
 cases ht:aQ l with
 |false=>
  rw[if_pos rfl];have R:=hR _ z;rw[ht]at R
  gi_wp2_with fail
  refine⟨trivial,(callsIn_wide.2 R).mono ?_⟩;rintro e o ⟨rfl,J⟩;simp only[World.size_alloc]at J;obtain⟨WI,WJ⟩:=HC.out.1.below J (by omega);obtain⟨d10,d11⟩:=HC.out.2.below J (by omega);have b:=Qh (HB.out.trans (J.mono (by omega)));clear J R z hR hP
  gi_wp2_with fail
  refine⟨_,kl _ _ w.heap.size (w.heap.size+1) ⟨#[]⟩ 9 rfl rfl (((show Cell o w.heap.size _ from⟨WI,WJ⟩).set _).other _ (by omega)) (((show Cell o (w.heap.size+1) _ from⟨d10,d11⟩).other _ (by omega)).set _),rfl,?_⟩;exact(b.out.setCell (p:=⟨w.heap.size,0,none⟩) (Qk _) _).setCell (p:=⟨w.heap.size+1,0,none⟩) (by simp) _
 |true=>
  rw[if_neg (by simp)];have R:=hR _ z;rw[ht]at R;obtain⟨G,H⟩:∃G,dV 6 l=G:=⟨_,rfl⟩
  rw[H];unfold dV at H;have HG:=Qh H;clear H
  gi_wp2_with fail
  refine⟨trivial,(callsIn_wide.2 R).mono ?_⟩;rintro e o ⟨rfl,J⟩;simp only[World.size_alloc]at J;have d0:=HC.out.1.below J (by omega);have d1:=HC.out.2.below J (by omega);have mY:Hid (w.heap.size+2≤o.heap.size):=Qh (by have:=J.size;rw[World.size_alloc,World.size_alloc]at this;omega);have b:=Qh (HB.out.trans (J.mono (by omega)));clear J R z hR;have y:=hP o;clear hP
  by_cases V:l.head? =some 47
  ·obtain rfl:([],6)=G:=by rw[←HG.out,if_pos V]
   rw[decide_eq_true V]at y;clear V;obtain⟨WI,WJ⟩:=d0;obtain⟨d10,d11⟩:=d1
   gi_wp2_with fail
   refine⟨trivial,(callsIn_wide.2 y).mono ?_⟩;rintro e w' ⟨rfl,rfl⟩
   gi_wp2_with fail
   refine⟨_,kl _ _ w.heap.size (w.heap.size+1) ⟨#[]⟩ 6 rfl rfl (((show Cell w' w.heap.size _ from⟨WI,WJ⟩).set _).other _ (by omega)) (((show Cell w' (w.heap.size+1) _ from⟨d10,d11⟩).other _ (by omega)).set _),rfl,?_⟩;exact(b.out.setCell (p:=⟨w.heap.size,0,none⟩) (Qk _) _).setCell (p:=⟨w.heap.size+1,0,none⟩) (by simp) _
  ·have H:=HG.out
   rw[if_neg V]at H;rw[decide_eq_false V]at y;have f:=Qh H;clear V HG H;have HD:=Qh (And.intro d0 d1);clear d0 d1
   gi_wp2_with fail
   refine⟨trivial,(callsIn_wide.2 y).mono ?_⟩;rintro e w' ⟨rfl,rfl⟩
   gi_wp2_with fail
   have bI:Hid (Below w.heap.size w ((w'.alloc (.cells #[.string ⟨#[]⟩] 9)).alloc (.cells #[.string (str l)] 9))):=
    Qh ((b.out.alloc (by have:=mY.out;omega) _).alloc (by have:=mY.out;rw[World.size_alloc];omega) _)
   have HX:=Qh (((Cell.new w' (.string ⟨#[]⟩) 9)).alloc (.cells #[.string (str l)] 9));have HY:=Qh (And.intro ((HD.out.1.alloc (.cells #[.string ⟨#[]⟩] 9)).alloc (.cells #[.string (str l)] 9)) ((HD.out.2.alloc (.cells #[.string ⟨#[]⟩] 9)).alloc (.cells #[.string (str l)] 9)));have t:=Qh (Cell.new (w'.alloc (.cells #[.string ⟨#[]⟩] 9)) (.string (str l)) 9);clear b HD HC;obtain⟨ps,xG⟩:=DL l hm;refine⟨trivial,(callsIn_wide.2 (H5 l _)).mono ?_⟩;rintro e w2 ⟨rfl,rfl⟩
   gi_wp2_with fail
   obtain⟨n1,Sk⟩:∃n1,w'.heap.size=n1:=⟨_,rfl⟩
   obtain⟨W0,sI⟩:∃W0,(w'.alloc (.cells #[.string ⟨#[]⟩] 9)).alloc (.cells #[.string (str l)] 9)=W0:=⟨_,rfl⟩
   have M:Hid (W0.heap.size=n1+2∧w.heap.size+2≤n1):=Qh (by rw[←sI,World.size_alloc,World.size_alloc];exact⟨by omega,by have:=mY.out;omega⟩);rw[sI]at bI HX HY t⊢;rw[World.size_alloc]at t;rw[Sk]at HX t⊢;clear sI mY Sk HB
   refine wpIn_rangeFunc_ownF rfl (by omega) (gf:=187) (lb:=#[.pointer (some ⟨n1+1,0,none⟩)]) rfl trivial (enters_of Tryz.func187 (by kernel_rfl) rfl)
    (Ix _ (by omega) (n1+1) l hm ps xG W0 (by rw[M.out.1];omega) t.out.1) (fun _ _=>trivial) (fun _ _ _ _ _ _ _ _=>trivial) (Below.refl _ _) (fun _=>rfl)
    (fun pre W=>(∃c,rG [] (pre.map (·.1))=some c∧Cell W n1 (.string (str c))∧Cell W w.heap.size (.string ⟨#[]⟩)∧Cell W (w.heap.size+1) (.int .i64 0))∧Below w.heap.size w W)
    (fun c pre W=>(c=.ret∧rG [] (pre.map (·.1))=none∧Cell W w.heap.size (.string ⟨#[]⟩)∧Cell W (w.heap.size+1) (.int .i64 6))∧Below w.heap.size w W)
    (OwnFrom.and (Own.from (fun s A B row hs I Y=>by obtain⟨c,h1,X,h3,h4⟩:=hs;exact⟨c,h1,X.kept I Y,h3.kept I Y,h4.kept I Y⟩) _) (ownFrom_below (Qk _) (by rw[M.out.1];have:=M.out.2;omega)))
    (fun c=>OwnFrom.and (Own.from (fun s A B row hs I Y=>⟨hs.1,hs.2.1,hs.2.2.1.kept I Y,hs.2.2.2.kept I Y⟩) _) (ownFrom_below (Qk _) (by rw[M.out.1];have:=M.out.2;omega)))
    ⟨⟨[],rfl,HX.out,HY.out.1,HY.out.2⟩,bI.out⟩
    (fun x=>{tmps:=#[.string (str l),undef,.pointer (some ⟨w.heap.size,0,none⟩),.pointer (some ⟨w.heap.size+1,0,none⟩),.pointer (some ⟨n1,0,none⟩),.string (str x.1),.string (str l),.bool true,.bool false,.string (str l),.bool false,.string (str l),.func (.func 187) #[] #[.pointer (some ⟨n1+1,0,none⟩)],.string (str x.1),undef,undef,undef,undef,undef,undef,undef,undef,undef,undef,undef,undef,undef],defers:=[]}) ?assign ?body ?done ?stop
   case assign=>
    intro l x W K N
    gi_wp2
    exact N
   case body=>
    rintro l' pre x W ⟨⟨c,I,c0,c1,c2⟩,L⟩ _;have hc:=Qs _ _ _ (by simp) I;have hj:=KO c x.1 W (by have:=x.2;omega);have hs:=J5 _ x.1 _ _ I;obtain⟨d,hd⟩:∃d,bF c x.1=d:=⟨_,rfl⟩
    rw[hd]at hj hs;have e0:=(c0.set (.string (str d)))
    have e1:=(c1.other (.string (str d)) (show n1≠_ by have:=M.out.2;omega))
    have e2:=(c2.other (.string (str d)) (show n1≠_ by have:=M.out.2;omega))
    have b6:=L.setCell (p:=⟨n1,0,none⟩) (show w.heap.size≤n1 by have:=M.out.2;omega) (.string (str d));have E:=Qh (And.intro e1 (And.intro e2 b6));have T:((str d).size:Int)=d.length:=by rw[aq]
    obtain⟨f0,f1⟩:=c0;have HP:=Qh hd
    by_cases U:x.1=[46,46]
    ·have b1:((str x.1).toList==[46,46])=true:=by rw[il];simpa using U
     rw[if_pos (.inl U)]at hs;have O:rG [] ((pre++[x]).map (·.1))=none:=by rw[List.map_append];exact hs
     have Z:=Qh O;clear hs O U hd I hc e1 e2 c1 c2 L b6 T
     gi_wp2_with fail
     refine⟨trivial,(CallsIn.inRound l' (callsIn_wide.2 hj)).mono ?_⟩;rintro e w3 ⟨rfl,rfl⟩;obtain⟨Zj,Ve⟩:=e0;obtain⟨WL,WM⟩:=E.out.1;obtain⟨g10,g11⟩:=E.out.2.1
     gi_wp2
     exact⟨((KeepsOthers.setCell _ _ _).trans (KeepsOthers.setCell _ _ _)).trans (KeepsOthers.setCell _ _ _),⟨rfl,Z.out,(E.out.1.set _).other _ (by omega),(E.out.2.1.other _ (by omega)).set _⟩,(E.out.2.2.setCell (p:=⟨w.heap.size,0,none⟩) (Qk _) _).setCell (p:=⟨w.heap.size+1,0,none⟩) (by simp) _⟩
    ·have b1:((str x.1).toList==[46,46])=false:=by rw[il];simpa using U
     obtain⟨n,hn⟩:∃n,(str d).size=n:=⟨_,rfl⟩
     by_cases X:200<d.length
     ·have b2:(200:Int)<(n:Int):=by omega
      rw[if_pos (.inr X)]at hs;have O:rG [] ((pre++[x]).map (·.1))=none:=by rw[List.map_append];exact hs
      have Z:=Qh O;clear hs O U hd I hc e1 e2 c1 c2 L b6 T X
      gi_wp2_with fail
      refine⟨trivial,(CallsIn.inRound l' (callsIn_wide.2 hj)).mono ?_⟩;rintro e w3 ⟨rfl,rfl⟩;obtain⟨Zj,Ve⟩:=e0;obtain⟨WL,WM⟩:=E.out.1;obtain⟨g10,g11⟩:=E.out.2.1
      gi_wp2
      exact⟨((KeepsOthers.setCell _ _ _).trans (KeepsOthers.setCell _ _ _)).trans (KeepsOthers.setCell _ _ _),⟨rfl,Z.out,(E.out.1.set _).other _ (by omega),(E.out.2.1.other _ (by omega)).set _⟩,(E.out.2.2.setCell (p:=⟨w.heap.size,0,none⟩) (Qk _) _).setCell (p:=⟨w.heap.size+1,0,none⟩) (by simp) _⟩
     ·have b2:¬(200:Int)<(n:Int):=by omega
      rw[if_neg (fun h=>h.elim U X)]at hs;have O:rG [] ((pre++[x]).map (·.1))=some d:=by rw[List.map_append];exact hs
      have Z:=Qh O;clear hs O U hd I hc e1 e2 c1 c2 L b6 T X
      gi_wp2_with fail
      refine⟨trivial,(CallsIn.inRound l' (callsIn_wide.2 hj)).mono ?_⟩;rintro e w3 ⟨rfl,rfl⟩;obtain⟨Zj,Ve⟩:=id e0;obtain⟨WL,WM⟩:=E.out.1;obtain⟨g10,g11⟩:=E.out.2.1
      gi_wp2
      exact⟨KeepsOthers.setCell _ _ _,trivial,⟨d,Z.out,e0,E.out.1,E.out.2.1⟩,E.out.2.2⟩
   case done=>
    rintro D ys W hD rfl ⟨⟨c,I,c0,c1,c2⟩,L⟩ N;rw[xG]at I;have H:=f.out;rw[I]at H;simp only at H;have u:w.heap.size≤D:=by have:=M.out;omega
    obtain⟨f0,f1⟩:=id c0;obtain⟨WL,WM⟩:=id c1;obtain⟨g10,g11⟩:=id c2;have E:=Qh (And.intro c1 (And.intro c2 L));have q:=Qh N
    by_cases hc:c=[]
    ·have b1:(str c).toList.isEmpty=true:=by rw[aV];simpa using hc
     obtain rfl:([],6)=G:=by rw[←H,if_pos hc]
     clear H hc I f c0 c1 c2 L N
     gi_wp2
     have hK':=((KeepsOthers.setCell W ⟨w.heap.size,0,none⟩ (.string ⟨#[]⟩)).trans (KeepsOthers.setCell _ ⟨w.heap.size+1,0,none⟩ (.int .i64 6))).same D _ q.out rfl;refine⟨by simp,.inl ⟨_,_,rfl,run_takeDeferred hK',?_⟩⟩;have g:=((E.out.1.set (.string ⟨#[]⟩)).other (.int .i64 6) (show w.heap.size+1≠_ by omega)).kept (grownBy_putObj' _ D (.deferred none)) (fun r e=>by cases e;exact⟨_,hK',rfl⟩);have m:=((E.out.2.1.other (.string ⟨#[]⟩) (show w.heap.size≠_ by omega)).set (.int .i64 6)).kept (grownBy_putObj' _ D (.deferred none)) (fun r e=>by cases e;exact⟨_,hK',rfl⟩);exact⟨_,kl _ _ w.heap.size (w.heap.size+1) ⟨#[]⟩ 6 rfl rfl g m,rfl,((E.out.2.2.setCell (p:=⟨w.heap.size,0,none⟩) (Qk _) _).setCell (p:=⟨w.heap.size+1,0,none⟩) (by simp) _).trans (belowK_b (w:=w) (Qk _) _ D _ _ u hK' rfl rfl)⟩
    ·have b1:(str c).toList.isEmpty=false:=by rw[aV];simpa using hc
     obtain rfl:(c,0)=G:=by rw[←H,if_neg hc]
     clear H hc I f c0 c1 c2 L N
     gi_wp2
     have hK':=((KeepsOthers.setCell W ⟨w.heap.size,0,none⟩ (.string (str c))).trans (KeepsOthers.setCell _ ⟨w.heap.size+1,0,none⟩ (.int .i64 0))).same D _ q.out rfl;refine⟨by simp,.inl ⟨_,_,rfl,run_takeDeferred hK',?_⟩⟩;have g:=((E.out.1.set (.string (str c))).other (.int .i64 0) (show w.heap.size+1≠_ by omega)).kept (grownBy_putObj' _ D (.deferred none)) (fun r e=>by cases e;exact⟨_,hK',rfl⟩);have m:=((E.out.2.1.other (.string (str c)) (show w.heap.size≠_ by omega)).set (.int .i64 0)).kept (grownBy_putObj' _ D (.deferred none)) (fun r e=>by cases e;exact⟨_,hK',rfl⟩);exact⟨_,kl _ _ w.heap.size (w.heap.size+1) (str c) 0 rfl rfl g m,rfl,((E.out.2.2.setCell (p:=⟨w.heap.size,0,none⟩) (Qk _) _).setCell (p:=⟨w.heap.size+1,0,none⟩) (by simp) _).trans (belowK_b (w:=w) (Qk _) _ D _ _ u hK' rfl rfl)⟩
   case stop=>
    rintro D c pre W hD QY ⟨⟨rfl,hn,c1,c2⟩,L⟩ N;have H:=f.out;obtain⟨tl,zB⟩:=QY;rw[←xG,←zB,List.map_append,J4 _ _ hn]at H;obtain rfl:([],6)=G:=H;have u:w.heap.size≤D:=by have:=M.out;omega
    have E:=Qh (And.intro c1 (And.intro c2 L));have q:=Qh N;clear zB hn f c1 c2 L N
    gi_wp2
    have hK':=q.out;refine⟨by simp,.inl ⟨_,_,rfl,run_takeDeferred hK',?_⟩⟩;have g:=E.out.1.kept (grownBy_putObj' _ D (.deferred none)) (fun r e=>by cases e;exact⟨_,hK',rfl⟩);have m:=E.out.2.1.kept (grownBy_putObj' _ D (.deferred none)) (fun r e=>by cases e;exact⟨_,hK',rfl⟩);exact⟨_,kl _ _ w.heap.size (w.heap.size+1) ⟨#[]⟩ 6 rfl rfl g m,rfl,E.out.2.2.trans (belowK_b (w:=w) (Qk _) _ D _ _ u hK' rfl rfl)⟩
end Path
namespace Mem
open Go.ChangeShapes Go.WideShapes Go.ChangeAt Go.RowKit Base bJ cn Bk Hp Head qd Path Go.Lib
theorem jq (k:UInt8) (n:Nat) (hn:n<256):((k.toNat:Int)=(n:Int))↔k=UInt8.ofNat n:=by
 constructor
 ·intro h
  apply UInt8.toNat.inj;rw[UInt8.toNat_ofNat'];omega
 ·rintro rfl
  rw[UInt8.toNat_ofNat'];omega
theorem iQ (k:UInt8) (w:World):
 Calls Tryz.prog 79 #[.int .u8 (k.toNat:Int)] w fun e w'=>e=.returned (.bool (fL k))∧w=w':=by
 have I:=k.toNat_lt;have B:(k.toNat:Int)=48↔k=48:=jq k 48 (by decide);have D:(k.toNat:Int)=49↔k=49:=jq k 49 (by decide);have E:(k.toNat:Int)=50↔k=50:=jq k 50 (by decide);have G:(k.toNat:Int)=53↔k=53:=jq k 53 (by decide);obtain⟨r,A⟩:∃r,fL k=r:=⟨_,rfl⟩
 rw[A];unfold fL at A;obtain⟨x,H⟩:∃x:Int,x=(k.toNat:Int):=⟨_,rfl⟩
 rw[←H]at B D E G⊢
 by_cases J:x=48
 ·obtain rfl:r=true:=by rw[←A];simp[B.1 J]
  clear B D E G A H I;subst J
  go_enter Tryz.func79,Tryz.ntmps79
  go_wp2;go_ret;exact⟨rfl,rfl⟩
 ·by_cases h1:x=49
  ·obtain rfl:r=true:=by rw[←A];simp[D.1 h1]
   clear B D E G A H I;subst h1
   go_enter Tryz.func79,Tryz.ntmps79
   go_wp2;go_ret;exact⟨rfl,rfl⟩
  ·by_cases L:x=50
   ·obtain rfl:r=true:=by rw[←A];simp[E.1 L]
    clear B D E G A H I;subst L
    go_enter Tryz.func79,Tryz.ntmps79
    go_wp2;go_ret;exact⟨rfl,rfl⟩
   ·by_cases M:x=53
    ·obtain rfl:r=true:=by rw[←A];simp[G.1 M]
     clear B D E G A H I;subst M
     go_enter Tryz.func79,Tryz.ntmps79
     go_wp2;go_ret;exact⟨rfl,rfl⟩
    ·obtain rfl:r=false:=by
      rw[←A];have a0:¬k=48:=fun h=>J (B.2 h)
      have N:¬k=49:=fun h=>h1 (D.2 h)
      have a2:¬k=50:=fun h=>L (E.2 h)
      have a3:¬k=53:=fun h=>M (G.2 h)
      simp[a0,N,a2,a3]
     clear B D E G A H I
     go_enter Tryz.func79,Tryz.ntmps79
     go_wp2;go_ret;exact⟨rfl,rfl⟩
theorem LP (k:UInt8) (n:Int) (w:World):
 Calls Tryz.prog 119 #[.int .u8 (k.toNat:Int),.int .i64 n] w fun e w'=>e=.returned (.int .i64 (o8 k n))∧w=w':=by
 have G:=k.toNat_lt;have B:(k.toNat:Int)=48↔k=48:=jq k 48 (by decide);obtain⟨r,A⟩:∃r,o8 k n=r:=⟨_,rfl⟩
 rw[A];unfold o8 at A;obtain⟨x,E⟩:∃x:Int,x=(k.toNat:Int):=⟨_,rfl⟩
 rw[←E]at B⊢
 by_cases D:x=48
 ·have hk:k=48:=B.1 D
  rw[if_neg (by simp[hk])]at A
  by_cases h1:1048576<n
  ·rw[if_pos h1]at A
   subst A;clear B E G;subst D
   go_enter Tryz.func119,Tryz.ntmps119
   go_wp2;go_ret;exact⟨rfl,rfl⟩
  ·rw[if_neg h1]at A
   subst A;clear B E G;subst D
   go_enter Tryz.func119,Tryz.ntmps119
   go_wp2;go_ret;exact⟨rfl,rfl⟩
 ·have hk:¬k=48:=fun h=>D (B.2 h)
  by_cases H:n=0
  ·subst H
   rw[if_neg (by simp),if_neg (by omega)]at A;subst A;clear B E G
   go_enter Tryz.func119,Tryz.ntmps119
   go_wp2;go_ret;exact⟨rfl,rfl⟩
  ·rw[if_pos ⟨hk,H⟩]at A
   subst A;clear B E G;have I:(x != 48)=true:=by simpa using D
   have J:(n != 0)=true:=by simpa using H
   go_enter Tryz.func119,Tryz.ntmps119
   go_wp2;go_ret;exact⟨rfl,rfl⟩
theorem xO (a b c d:Int) (w:World):
 Calls Tryz.prog 117 #[.agg #[.int .i64 a,.int .i64 b,.int .i64 c,.int .i64 d]] w fun e w'=>e=.returned (.bool (eu a b c d))∧Below w.heap.size w w':=by
 obtain⟨r,A⟩:∃r,eu a b c d=r:=⟨_,rfl⟩
 rw[A];unfold eu at A;have D:=(Below.refl w.heap.size w).alloc (Qk _) (.cells #[.int .i64 a,.int .i64 b,.int .i64 c,.int .i64 d] 46);have B:=Qh D;clear D
 by_cases h1:0≤a∧a≤4095
 ·by_cases E:0≤b∧b≤2147483647
  ·by_cases G:0≤c∧c≤2147483647
   ·by_cases H:0≤d∧d≤1099511627776
    ·obtain rfl:r=true:=by rw[←A];simp only[decide_eq_true_eq];omega
     clear A
     go_enter Tryz.func117,Tryz.ntmps117
     go_wp2_with (go_at_call 152;refine(dX _ _ _ _ (by omega) (by omega)).mono ?_;rintro e w' ⟨rfl,rfl⟩)
     go_ret;exact⟨rfl,B.out⟩
    ·obtain rfl:r=false:=by rw[←A];simp only[decide_eq_false_iff_not];omega
     clear A
     go_enter Tryz.func117,Tryz.ntmps117
     go_wp2_with (go_at_call 152;first|(refine(dX _ _ _ _ (by omega) (by omega)).mono ?_;rintro e w' ⟨rfl,rfl⟩)|(refine(jb _ _ _ _ (by omega)).mono ?_;rintro e w' ⟨rfl,rfl⟩))
     go_ret;exact⟨rfl,B.out⟩
   ·obtain rfl:r=false:=by rw[←A];simp only[decide_eq_false_iff_not];omega
    clear A
    go_enter Tryz.func117,Tryz.ntmps117
    go_wp2_with (go_at_call 152;first|(refine(dX _ _ _ _ (by omega) (by omega)).mono ?_;rintro e w' ⟨rfl,rfl⟩)|(refine(jb _ _ _ _ (by omega)).mono ?_;rintro e w' ⟨rfl,rfl⟩))
    go_ret;exact⟨rfl,B.out⟩
  ·obtain rfl:r=false:=by rw[←A];simp only[decide_eq_false_iff_not];omega
   clear A
   go_enter Tryz.func117,Tryz.ntmps117
   go_wp2_with (go_at_call 152;first|(refine(dX _ _ _ _ (by omega) (by omega)).mono ?_;rintro e w' ⟨rfl,rfl⟩)|(refine(jb _ _ _ _ (by omega)).mono ?_;rintro e w' ⟨rfl,rfl⟩))
   go_ret;exact⟨rfl,B.out⟩
 ·obtain rfl:r=false:=by rw[←A];simp only[decide_eq_false_iff_not];omega
  clear A
  go_enter Tryz.func117,Tryz.ntmps117
  go_wp2_with (go_at_call 152;first|(refine(dX _ _ _ _ (by omega) (by omega)).mono ?_;rintro e w' ⟨rfl,rfl⟩)|(refine(jb _ _ _ _ (by omega)).mono ?_;rintro e w' ⟨rfl,rfl⟩))
  go_ret;exact⟨rfl,B.out⟩
theorem J6 (k:UInt8) (l:List UInt8) (w:World) (hm:l.length≤140737488351232) (hT:Tabs w):
 Calls Tryz.prog 118 #[.int .u8 (k.toNat:Int),.string (str l)] w fun e w'=>e=.returned (.tuple #[.string (str (oC k l).1),.int .i64 (oC k l).2])∧Below w.heap.size w w':=by
 have H:=vw l w hm hT;have I:=uh l w hm hT;have A:(k.toNat:Int)=49↔k=49:=jq k 49 (by decide);have B:(k.toNat:Int)=50↔k=50:=jq k 50 (by decide);unfold oC;obtain⟨x,D⟩:∃x:Int,x=(k.toNat:Int):=⟨_,rfl⟩
 rw[←D]at A B⊢
 by_cases h1:x=49
 ·rw[if_pos (A.1 h1)]
  clear A B D;subst h1
  go_enter Tryz.func118,Tryz.ntmps118
  go_wp2_with (go_at_call 116;refine H.mono ?_;rintro e J ⟨rfl,G⟩)
  go_ret2;exact⟨rfl,G⟩
 ·rw[if_neg (fun h=>h1 (A.2 h))]
  by_cases E:x=50
  ·rw[if_pos (B.1 E)]
   clear A B D;subst E
   go_enter Tryz.func118,Tryz.ntmps118
   go_wp2_with (go_at_call 153;refine I.mono ?_;rintro e J ⟨rfl,G⟩)
   go_ret2;exact⟨rfl,G⟩
  ·rw[if_neg (fun h=>E (B.2 h))]
   clear A B D
   go_enter Tryz.func118,Tryz.ntmps118
   go_wp2;go_ret2;exact⟨rfl,Below.refl _ _⟩
theorem K4 (w:World) (g:Nat) (a b:ByteArray) (k m u i t:Int) (p:Option Addr) (n c:Nat) (h:ao w g 48 #[.string a,.string b,.int .u8 k,.int .i64 m,.int .i64 u,.int .i64 i,.int .i64 t,.slice p n c]):
 (loadVar 48 ⟨g,0,none⟩).run Tryz.prog w=.ok (.agg #[.string a,.string b,.int .u8 k,.int .i64 m,.int .i64 u,.int .i64 i,.int .i64 t,.slice p n c]) w:=by
 have c0:=h.cell 0;have c1:=h.cell 1;have c2:=h.cell 2;have c3:=h.cell 3;have c4:=h.cell 4;have c5:=h.cell 5;have c6:=h.cell 6;have c7:=h.cell 7;clear h
 go_simp
theorem ml {fn:Func} (hf:fn.results=#[.cell 2 48,.tmp 3]) (tmps:Array Value) (w:World) (g:Nat) (v:Value) (ht:tmps.getD 2 undef=.pointer (some ⟨g,0,none⟩)) (hv:tmps.getD 3 undef=v)
 (m:av) (p:Option Addr) (c:Nat) (hb:ao w g 48 (cO m p c)):(results fn tmps).run Tryz.prog w=.ok (.tuple #[.agg (cO m p c),v]) w:=by
 rw[results_cell_tmp hf,ht,hv];have hl:=K4 w g _ _ _ _ _ _ _ _ _ _ hb;simp only[asAddr,Sem.run_pure,hl,Result.andThen];rfl
theorem JP {m:av} {c:Nat} (hb:ao w g 48 (cO m p c)) (a0 a1 a2 a3 a4 a5 a6 a7:Value):
 ao ((((((((w.setCell ⟨g,0,none⟩ a0).setCell ⟨g,1,none⟩ a1).setCell ⟨g,2,none⟩ a2).setCell ⟨g,3,none⟩ a3).setCell ⟨g,4,none⟩ a4).setCell ⟨g,5,none⟩ a5).setCell ⟨g,6,none⟩ a6).setCell ⟨g,7,none⟩ a7) g 48 #[a0,a1,a2,a3,a4,a5,a6,a7]:=
 (((((((hb.set 0 a0 (by show 0<8;decide)).set 1 a1 (by show 1<8;decide)).set 2 a2 (by show 2<8;decide)).set 3 a3 (by show 3<8;decide)).set 4 a4 (by show 4<8;decide)).set 5 a5 (by show 5<8;decide)).set 6 a6 (by show 6<8;decide)).set 7 a7 (by show 7<8;decide)
theorem sk (hk:Below w.heap.size w w') (hg:w.heap.size≤g) (a0 a1 a2 a3 a4 a5 a6 a7:Value):
 Below w.heap.size w ((((((((w'.setCell ⟨g,0,none⟩ a0).setCell ⟨g,1,none⟩ a1).setCell ⟨g,2,none⟩ a2).setCell ⟨g,3,none⟩ a3).setCell ⟨g,4,none⟩ a4).setCell ⟨g,5,none⟩ a5).setCell ⟨g,6,none⟩ a6).setCell ⟨g,7,none⟩ a7):=
 ((((((((hk.setCell (p:=⟨g,0,none⟩) hg a0).setCell (p:=⟨g,1,none⟩) hg a1).setCell (p:=⟨g,2,none⟩) hg a2).setCell (p:=⟨g,3,none⟩) hg a3).setCell (p:=⟨g,4,none⟩) hg a4).setCell (p:=⟨g,5,none⟩) hg a5).setCell (p:=⟨g,6,none⟩) hg a6).setCell (p:=⟨g,7,none⟩) hg a7)
def MH (w wi:World) (h:ak):Prop:=Below w.heap.size w wi∧ao wi w.heap.size 66 (aa h)∧ao wi (w.heap.size+1) 48 (cO rm none 0)
theorem MH.below {wi wj:World} {h:ak} (hm:MH w wi h) (hb:Below wi.heap.size wi wj):MH w wj h:=
 ⟨hm.1.trans (hb.mono hm.1.size),hm.2.1.below hb hm.2.1.lt,hm.2.2.below hb hm.2.2.lt⟩
theorem iD (h:ak) (w:World) (h1:h.name.length≤140737488351232) (h2:h.link.length≤140737488351232) (hT:Tabs w):
 Calls Tryz.prog 80 #[.agg (aa h)] w fun e w'=>e=.returned (.tuple #[.agg (cO (dG h).1 none 0),.int .i64 (dG h).2])∧Below w.heap.size w w':=by
 obtain⟨⟨u,ce⟩,hc⟩:∃x,bz 9 6 h.name=x:=⟨_,rfl⟩
 obtain⟨⟨y,ge⟩,hg⟩:∃x,oC h.kind h.link=x:=⟨_,rfl⟩
 obtain⟨mo,X3⟩:∃x,eu h.mode h.uid h.gid h.time=x:=⟨_,rfl⟩
 obtain⟨o,g⟩:∃x,o8 h.kind h.size=x:=⟨_,rfl⟩
 have l:Hid (∀wi,Below w.heap.size w wi→Calls Tryz.prog 116 #[.string (str h.name)] wi fun e w'=>e=.returned (.tuple #[.string (str u),.int .i64 ce])∧Below wi.heap.size wi w'):=
  Qh (fun wi D=>by have:=vw h.name wi h1 (hT.below D);rwa [hc]at this)
 have r:Hid (∀wi,Calls Tryz.prog 117 #[.agg #[.int .i64 h.mode,.int .i64 h.uid,.int .i64 h.gid,.int .i64 h.time]] wi fun e w'=>e=.returned (.bool mo)∧Below wi.heap.size wi w'):=
  Qh (fun wi=>by have:=xO h.mode h.uid h.gid h.time wi;rwa [X3]at this)
 have q:Hid (∀wi,Below w.heap.size w wi→Calls Tryz.prog 118 #[.int .u8 (h.kind.toNat:Int),.string (str h.link)] wi fun e w'=>e=.returned (.tuple #[.string (str y),.int .i64 ge])∧Below wi.heap.size wi w'):=
  Qh (fun wi D=>by have:=J6 h.kind h.link wi h2 (hT.below D);rwa [hg]at this)
 have CS:Hid (∀wi,Calls Tryz.prog 119 #[.int .u8 (h.kind.toNat:Int),.int .i64 h.size] wi fun e w'=>e=.returned (.int .i64 o)∧wi=w'):=
  Qh (fun wi=>by have:=LP h.kind h.size wi;rwa [g]at this)
 obtain⟨U,hU⟩:∃U,dG h=U:=⟨_,rfl⟩
 rw[hU]
 have m:Hid (U=if ce≠0 then(rm,ce)else if mo=false then(rm,4)else if ge≠0 then(rm,ge)else if o≠0 then(rm,o)else(⟨u,y,h.kind,h.mode,h.uid,h.gid,h.time,[]⟩,0)):=
  Qh (by rw[←hU];unfold dG;rw[hc,hg,X3,g])
 clear h1 h2 hT hU hc hg X3 g
 have I:Hid (MH w ((w.alloc (.cells (aa h) 66)).alloc (.cells (cO rm none 0) 48)) h):=by
  have B:=ao.new (w.alloc (.cells (aa h) 66)) 48 (cO rm none 0);rw[World.size_alloc]at B;exact Qh ⟨((Below.refl _ w).alloc (Qk _) _).alloc (by simp) _,(ao.new w 66 (aa h)).alloc _,B⟩
 obtain⟨kn,t⟩:∃kn:Int,(h.kind.toNat:Int)=kn:=⟨_,rfl⟩
 have f:=Qh t;simp only[aa,t]at I⊢;rw[t]at q CS;clear t
 by_cases a1:ce=0
 ·subst a1
  cases mo with
  |false=>
   have E:Hid (U=(rm,4)):=Qh (by rw[m.out];simp)
   go_enter Tryz.func80,Tryz.ntmps80
   go_wp2_with fail
   refine(l.out _ I.out.1).mono ?_;rintro e z ⟨rfl,D⟩;have G:=Qh (I.out.below D);clear D I;have B:=G.out.2.1;have M:=B.cell 3;have N:=B.cell 4;have O:=B.cell 5;have R:=B.cell 6;simp only[aa,Qc,Qa,Qb]at M N O R;clear B;go_wp2_with fail;refine(r.out _).mono ?_;rintro e w2 ⟨rfl,D⟩;have H:=Qh (G.out.below D);clear D G M N O R;have A:=H.out.2.2;have T:=A.cell 0;have f0:=A.frozen 0;have V:=A.cell 1;have f1:=A.frozen 1;have W:=A.cell 2;have f2:=A.frozen 2;have X:=A.cell 3;have f3:=A.frozen 3;have Y:=A.cell 4;have f4:=A.frozen 4;have Z:=A.cell 5;have f5:=A.frozen 5;have b:=A.cell 6;have f6:=A.frozen 6;have c:=A.cell 7;have f7:=A.frozen 7;simp only[cO,rm,Qc,Qa,Qb]at T V W X Y Z b c;clear A;go_wp2;refine bodyPost_ret (ml rfl _ _ (w.heap.size+1) _ rfl rfl rm none 0 (JP H.out.2.2 _ _ _ _ _ _ _ _)) rfl ?_;exact⟨by rw[E.out];rfl,sk H.out.1 (by omega) _ _ _ _ _ _ _ _⟩
  |true=>
   by_cases a2:ge=0
   ·subst a2
    by_cases a3:o=0
    ·subst a3
     have E:Hid (U=(⟨u,y,h.kind,h.mode,h.uid,h.gid,h.time,[]⟩,0)):=Qh (by rw[m.out];simp)
     go_enter Tryz.func80,Tryz.ntmps80
     go_wp2_with fail
     refine(l.out _ I.out.1).mono ?_;rintro e z ⟨rfl,D⟩;have G:=Qh (I.out.below D);clear D I;have B:=G.out.2.1;have M:=B.cell 3;have N:=B.cell 4;have O:=B.cell 5;have R:=B.cell 6;simp only[aa,Qc,Qa,Qb]at M N O R;clear B;go_wp2_with fail;refine(r.out _).mono ?_;rintro e w2 ⟨rfl,D⟩;have H:=Qh (G.out.below D);clear D G M N O R;have B:=H.out.2.1;have d:=B.cell 1;have J:=B.cell 2;simp only[aa,Qc,Qa,Qb,f.out]at d J;clear B;go_wp2_with fail;refine(q.out _ H.out.1).mono ?_;rintro e w3 ⟨rfl,D⟩;have L:=Qh (H.out.below D);clear D H d J;have B:=L.out.2.1;have J:=B.cell 2;have p:=B.cell 7;simp only[aa,Qc,Qa,Qb,f.out]at J p;clear B;go_wp2_with fail;refine(CS.out _).mono ?_;rintro e w4 ⟨rfl,rfl⟩;clear J p;have B:=L.out.2.1;have J:=B.cell 2;have M:=B.cell 3;have N:=B.cell 4;have O:=B.cell 5;have R:=B.cell 6;simp only[aa,Qc,Qa,Qb,f.out]at J M N O R;clear B;have A7:=f.out;subst A7;have A:=L.out.2.2;have T:=A.cell 0;have f0:=A.frozen 0;have V:=A.cell 1;have f1:=A.frozen 1;have W:=A.cell 2;have f2:=A.frozen 2;have X:=A.cell 3;have f3:=A.frozen 3;have Y:=A.cell 4;have f4:=A.frozen 4;have Z:=A.cell 5;have f5:=A.frozen 5;have b:=A.cell 6;have f6:=A.frozen 6;have c:=A.cell 7;have f7:=A.frozen 7;simp only[cO,rm,Qc,Qa,Qb]at T V W X Y Z b c;clear A;go_wp2;refine bodyPost_ret (ml rfl _ _ (w.heap.size+1) _ rfl rfl ⟨u,y,h.kind,h.mode,h.uid,h.gid,h.time,[]⟩ none 0 (JP L.out.2.2 _ _ _ _ _ _ _ _)) rfl ?_;exact⟨by rw[E.out];rfl,sk L.out.1 (by omega) _ _ _ _ _ _ _ _⟩
    ·have E:Hid (U=(rm,o)):=Qh (by rw[m.out];simp[a3])
     go_enter Tryz.func80,Tryz.ntmps80
     go_wp2_with fail
     refine(l.out _ I.out.1).mono ?_;rintro e z ⟨rfl,D⟩;have G:=Qh (I.out.below D);clear D I;have B:=G.out.2.1;have M:=B.cell 3;have N:=B.cell 4;have O:=B.cell 5;have R:=B.cell 6;simp only[aa,Qc,Qa,Qb]at M N O R;clear B;go_wp2_with fail;refine(r.out _).mono ?_;rintro e w2 ⟨rfl,D⟩;have H:=Qh (G.out.below D);clear D G M N O R;have B:=H.out.2.1;have d:=B.cell 1;have J:=B.cell 2;simp only[aa,Qc,Qa,Qb,f.out]at d J;clear B;go_wp2_with fail;refine(q.out _ H.out.1).mono ?_;rintro e w3 ⟨rfl,D⟩;have L:=Qh (H.out.below D);clear D H d J;have B:=L.out.2.1;have J:=B.cell 2;have p:=B.cell 7;simp only[aa,Qc,Qa,Qb,f.out]at J p;clear B;go_wp2_with fail;refine(CS.out _).mono ?_;rintro e w4 ⟨rfl,rfl⟩;clear J p;have A:=L.out.2.2;have T:=A.cell 0;have f0:=A.frozen 0;have V:=A.cell 1;have f1:=A.frozen 1;have W:=A.cell 2;have f2:=A.frozen 2;have X:=A.cell 3;have f3:=A.frozen 3;have Y:=A.cell 4;have f4:=A.frozen 4;have Z:=A.cell 5;have f5:=A.frozen 5;have b:=A.cell 6;have f6:=A.frozen 6;have c:=A.cell 7;have f7:=A.frozen 7;simp only[cO,rm,Qc,Qa,Qb]at T V W X Y Z b c;clear A;go_wp2;refine bodyPost_ret (ml rfl _ _ (w.heap.size+1) _ rfl rfl rm none 0 (JP L.out.2.2 _ _ _ _ _ _ _ _)) rfl ?_;exact⟨by rw[E.out];rfl,sk L.out.1 (by omega) _ _ _ _ _ _ _ _⟩
   ·have E:Hid (U=(rm,ge)):=Qh (by rw[m.out];simp[a2])
    go_enter Tryz.func80,Tryz.ntmps80
    go_wp2_with fail
    refine(l.out _ I.out.1).mono ?_;rintro e z ⟨rfl,D⟩;have G:=Qh (I.out.below D);clear D I;have B:=G.out.2.1;have M:=B.cell 3;have N:=B.cell 4;have O:=B.cell 5;have R:=B.cell 6;simp only[aa,Qc,Qa,Qb]at M N O R;clear B;go_wp2_with fail;refine(r.out _).mono ?_;rintro e w2 ⟨rfl,D⟩;have H:=Qh (G.out.below D);clear D G M N O R;have B:=H.out.2.1;have d:=B.cell 1;have J:=B.cell 2;simp only[aa,Qc,Qa,Qb,f.out]at d J;clear B;go_wp2_with fail;refine(q.out _ H.out.1).mono ?_;rintro e w3 ⟨rfl,D⟩;have L:=Qh (H.out.below D);clear D H d J;have A:=L.out.2.2;have T:=A.cell 0;have f0:=A.frozen 0;have V:=A.cell 1;have f1:=A.frozen 1;have W:=A.cell 2;have f2:=A.frozen 2;have X:=A.cell 3;have f3:=A.frozen 3;have Y:=A.cell 4;have f4:=A.frozen 4;have Z:=A.cell 5;have f5:=A.frozen 5;have b:=A.cell 6;have f6:=A.frozen 6;have c:=A.cell 7;have f7:=A.frozen 7;simp only[cO,rm,Qc,Qa,Qb]at T V W X Y Z b c;clear A;go_wp2;refine bodyPost_ret (ml rfl _ _ (w.heap.size+1) _ rfl rfl rm none 0 (JP L.out.2.2 _ _ _ _ _ _ _ _)) rfl ?_;exact⟨by rw[E.out];rfl,sk L.out.1 (by omega) _ _ _ _ _ _ _ _⟩
 ·have E:Hid (U=(rm,ce)):=Qh (by rw[m.out];simp[a1])
  go_enter Tryz.func80,Tryz.ntmps80
  go_wp2_with fail
  refine(l.out _ I.out.1).mono ?_;rintro e z ⟨rfl,D⟩;have G:=Qh (I.out.below D);clear D I;have A:=G.out.2.2;have T:=A.cell 0;have f0:=A.frozen 0;have V:=A.cell 1;have f1:=A.frozen 1;have W:=A.cell 2;have f2:=A.frozen 2;have X:=A.cell 3;have f3:=A.frozen 3;have Y:=A.cell 4;have f4:=A.frozen 4;have Z:=A.cell 5;have f5:=A.frozen 5;have b:=A.cell 6;have f6:=A.frozen 6;have c:=A.cell 7;have f7:=A.frozen 7;simp only[cO,rm,Qc,Qa,Qb]at T V W X Y Z b c;clear A;go_wp2;refine bodyPost_ret (ml rfl _ _ (w.heap.size+1) _ rfl rfl rm none 0 (JP G.out.2.2 _ _ _ _ _ _ _ _)) rfl ?_;exact⟨by rw[E.out];rfl,sk G.out.1 (by omega) _ _ _ _ _ _ _ _⟩
theorem kE (h:ak):(dG h).1.body=[]:=by
 unfold dG;split
 ·rfl
 ·split
  ·rfl
  ·split
   ·rfl
   ·split<;>rfl
theorem Ir (a b c d:Int) (w:World):
 Calls Tryz.prog 38 #[.agg #[.int .i64 a,.int .i64 b,.int .i64 c,.int .i64 d]] w fun e w'=>e=.returned (.bool (eu a b c d))∧Below w.heap.size w w':=by
 obtain⟨r,A⟩:∃r,eu a b c d=r:=⟨_,rfl⟩
 rw[A];unfold eu at A;have B:=Qh ((Below.refl w.heap.size w).alloc (Qk _) (.cells #[.int .i64 a,.int .i64 b,.int .i64 c,.int .i64 d] 46))
 by_cases D:0≤a
 ·by_cases h1:a≤4095
  ·by_cases E:0≤b
   ·by_cases G:b<2147483648
    ·by_cases H:0≤c
     ·by_cases I:c<2147483648
      ·by_cases J:0≤d
       ·by_cases L:d≤1099511627776
        ·obtain rfl:r=true:=by rw[←A];simp only[decide_eq_true_eq];omega
         clear A
         go_enter Tryz.func38,Tryz.ntmps38
         go_wp2;go_ret;exact⟨rfl,B.out⟩
        ·obtain rfl:r=false:=by rw[←A];simp only[decide_eq_false_iff_not];omega
         have hd:decide (d≤1099511627776)=false:=by simpa using L
         clear A
         go_enter Tryz.func38,Tryz.ntmps38
         go_wp2;go_ret;exact⟨rfl,B.out⟩
       ·obtain rfl:r=false:=by rw[←A];simp only[decide_eq_false_iff_not];omega
        have hd:decide (0≤d)=false:=by simpa using J
        clear A
        go_enter Tryz.func38,Tryz.ntmps38
        go_wp2;go_ret;exact⟨rfl,B.out⟩
      ·obtain rfl:r=false:=by rw[←A];simp only[decide_eq_false_iff_not];omega
       have hd:decide (c<2147483648)=false:=by simpa using I
       clear A
       go_enter Tryz.func38,Tryz.ntmps38
       go_wp2;go_ret;exact⟨rfl,B.out⟩
     ·obtain rfl:r=false:=by rw[←A];simp only[decide_eq_false_iff_not];omega
      have hd:decide (0≤c)=false:=by simpa using H
      clear A
      go_enter Tryz.func38,Tryz.ntmps38
      go_wp2;go_ret;exact⟨rfl,B.out⟩
    ·obtain rfl:r=false:=by rw[←A];simp only[decide_eq_false_iff_not];omega
     have hd:decide (b<2147483648)=false:=by simpa using G
     clear A
     go_enter Tryz.func38,Tryz.ntmps38
     go_wp2;go_ret;exact⟨rfl,B.out⟩
   ·obtain rfl:r=false:=by rw[←A];simp only[decide_eq_false_iff_not];omega
    have hd:decide (0≤b)=false:=by simpa using E
    clear A
    go_enter Tryz.func38,Tryz.ntmps38
    go_wp2;go_ret;exact⟨rfl,B.out⟩
  ·obtain rfl:r=false:=by rw[←A];simp only[decide_eq_false_iff_not];omega
   have hd:decide (a≤4095)=false:=by simpa using h1
   clear A
   go_enter Tryz.func38,Tryz.ntmps38
   go_wp2;go_ret;exact⟨rfl,B.out⟩
 ·obtain rfl:r=false:=by rw[←A];simp only[decide_eq_false_iff_not];omega
  have hd:decide (0≤a)=false:=by simpa using D
  clear A
  go_enter Tryz.func38,Tryz.ntmps38
  go_wp2;go_ret;exact⟨rfl,B.out⟩
theorem AD (l:List UInt8) (w:World) (hm:l.length≤140737488351232):
 Calls Tryz.prog 39 #[.string (str l)] w fun e w'=>e=.returned (.int .i64 (cY 9 6 l))∧w=w':=by
 have B:=wL (str l) w (by rw[aq];omega);rw[bg]at B;have hs:(str l).size=l.length:=aq l;obtain⟨r,A⟩:∃r,cY 9 6 l=r:=⟨_,rfl⟩
 rw[A];unfold cY at A
 cases G:aQ l with
 |false=>
  rw[G]at A B;simp only[if_true]at A;subst A
  go_enter Tryz.func39,Tryz.ntmps39
  go_wp2_with fail
  refine B.mono ?_;rintro e E ⟨rfl,rfl⟩;go_wp2;go_ret;exact⟨rfl,rfl⟩
 |true=>
  rw[G]at A B
  by_cases D:l=[]
  ·subst D
   simp at A;subst A
   go_enter Tryz.func39,Tryz.ntmps39
   go_wp2_with fail
   refine B.mono ?_;rintro e E ⟨rfl,rfl⟩;have H:(str []).toList.isEmpty=true:=by rw[aV];rfl
   go_wp2;go_ret;exact⟨rfl,rfl⟩
  ·have H:(str l).toList.isEmpty=false:=by rw[aV];simpa using D
   by_cases h1:200<l.length
   ·have I:(200:Int)<(l.length:Int):=by omega
    simp[D,h1]at A;subst A
    go_enter Tryz.func39,Tryz.ntmps39
    go_wp2_with fail
    refine B.mono ?_;rintro e E ⟨rfl,rfl⟩;go_wp2;go_ret;exact⟨rfl,rfl⟩
   ·have I:¬(200:Int)<(l.length:Int):=by omega
    simp[D,h1]at A;subst A
    go_enter Tryz.func39,Tryz.ntmps39
    go_wp2_with fail
    refine B.mono ?_;rintro e E ⟨rfl,rfl⟩;go_wp2;go_ret;exact⟨rfl,rfl⟩
theorem Ff (l:List UInt8) (w:World) (hm:l.length≤140737488351232):
 Calls Tryz.prog 56 #[.string (str l)] w fun e w'=>e=.returned (.bool (di l))∧w=w':=by
 have E:=Dv (str l) w (by rw[aq];omega);rw[bg]at E;obtain⟨r,A⟩:∃r,di l=r:=⟨_,rfl⟩
 rw[A];unfold di at A;obtain⟨⟨G,ce⟩,hc⟩:∃x,bz 9 6 l=x:=⟨_,rfl⟩
 rw[hc]at E A;clear hc;simp only[Prod.mk.injEq]at A
 by_cases D:ce=0
 ·by_cases h1:l=G
  ·have H:((str l).toList==(str G).toList)=true:=by rw[ay,ay];simpa using h1
   have B:r=true:=by rw[←A];simp[D,h1]
   subst D B;clear A h1
   go_enter Tryz.func56,Tryz.ntmps56
   go_wp2_with fail
   refine E.mono ?_;rintro e I ⟨rfl,rfl⟩;go_wp2;go_ret;exact⟨rfl,rfl⟩
  ·have H:((str l).toList==(str G).toList)=false:=by rw[ay,ay];simpa using h1
   have B:r=false:=by rw[←A];simp;exact fun h=>absurd h.symm h1
   subst D B;clear A h1
   go_enter Tryz.func56,Tryz.ntmps56
   go_wp2_with fail
   refine E.mono ?_;rintro e I ⟨rfl,rfl⟩;go_wp2;go_ret;exact⟨rfl,rfl⟩
 ·have H:(ce==0)=false:=by simpa using D
  have B:r=false:=by rw[←A];simp[D]
  subst B;clear A
  go_enter Tryz.func56,Tryz.ntmps56
  go_wp2_with fail
  refine E.mono ?_;rintro e I ⟨rfl,rfl⟩;go_wp2;go_ret;exact⟨rfl,rfl⟩
theorem Io (m:av) (p:Option Addr) (c:Nat) (w:World) (h1:m.path.length≤140737488351232) (h2:m.target.length≤140737488351232):
 Calls Tryz.prog 24 #[.agg (cO m p c)] w fun e w'=>e=.returned (.bool (bC m))∧Below w.heap.size w w':=by
 have hu:=fun k hk=>jq m.kind k hk
 obtain⟨kn,y⟩:∃kn:Int,(m.kind.toNat:Int)=kn:=⟨_,rfl⟩
 unfold cO;rw[y]at hu⊢;have O:=fun w=>Ff m.path w h1
 have o:=fun w=>Ff m.target w h2
 have q:=fun w=>AD m.target w h2
 have R:=fun w=>Ir m.mode m.uid m.gid m.time w
 obtain⟨r,W⟩:∃r,bC m=r:=⟨_,rfl⟩
 rw[W];unfold bC at W;obtain⟨t,cf⟩:∃b,di m.path=b:=⟨_,rfl⟩
 obtain⟨b2,z⟩:∃b,di m.target=b:=⟨_,rfl⟩
 obtain⟨Y,fr⟩:∃b,cY 9 6 m.target=b:=⟨_,rfl⟩
 obtain⟨u,fS⟩:∃b,eu m.mode m.uid m.gid m.time=b:=⟨_,rfl⟩
 simp only[cf,z,fr,fS]at W O o q R;clear cf z fr fS h1 h2;have d:m.kind=48↔kn=48:=(hu 48 (by decide)).symm;have dR:m.kind=49↔kn=49:=(hu 49 (by decide)).symm;have dc:m.kind=50↔kn=50:=(hu 50 (by decide)).symm;have dw:m.kind=53↔kn=53:=(hu 53 (by decide)).symm;obtain⟨bl,Z⟩:∃bl,m.body.length=bl:=⟨_,rfl⟩
 have hte:(str m.target).toList.isEmpty=decide (m.target=[]):=aV m.target
 have ir:(t&&u&&decide (bl≤1048576)&&(decide (kn=48)||decide (bl=0))&&(if kn=48∨kn=53 then decide (m.target=[])else if kn=49 then b2 else if kn=50 then(Y==0)else false))=r:=by
  rw[←W];have e1:(m.kind==48)=decide (kn=48):=by rw[Bool.eq_iff_iff];simp[d]
  have e2:(m.body==[])=decide (bl=0):=by rw[Bool.eq_iff_iff,←Z];simp
  have e3:(m.target==[])=decide (m.target=[]):=by rw[Bool.eq_iff_iff];simp
  have e4:(Y==0)=decide (Y=0):=by rw[Bool.eq_iff_iff];simp
  rw[e1,e2,e3,e4,Z];simp only[d,dR,dc,dw]
 rw[Z];clear W d dR dc dw Z hu;have G:=Qh ((Below.refl w.heap.size w).alloc (Qk _) (.cells #[.string (str m.path),.string (str m.target),.int .u8 kn,.int .i64 m.mode,.int .i64 m.uid,.int .i64 m.gid,.int .i64 m.time,.slice p bl c] 48));have D:=Qh (ao.new w 48 #[.string (str m.path),.string (str m.target),.int .u8 kn,.int .i64 m.mode,.int .i64 m.uid,.int .i64 m.gid,.int .i64 m.time,.slice p bl c]);have T:=Qh ir;clear ir y
 cases t with
 |false=>
  have H:r=false:=by rw[←T.out];simp
  subst H
  go_enter Tryz.func24,Tryz.ntmps24
  go_wp2_with fail
  refine(O _).mono ?_;rintro e U ⟨rfl,rfl⟩;go_wp2;go_ret;exact⟨rfl,G.out⟩
 |true=>
  cases u with
  |false=>
   have H:r=false:=by rw[←T.out];simp
   subst H
   go_enter Tryz.func24,Tryz.ntmps24
   go_wp2_with fail
   refine(O _).mono ?_;rintro e U ⟨rfl,rfl⟩;have A:=D.out;have y3:=A.cell 3;have y4:=A.cell 4;have E:=A.cell 5;have y6:=A.cell 6;simp only[Qc,Qa,Qb]at y3 y4 E y6;clear A;go_wp2_with fail;refine(R _).mono ?_;rintro e V ⟨rfl,B⟩;have I:=Qh (G.out.trans (B.mono G.out.size));have J:=Qh (D.out.below B D.out.lt);clear B y3 y4 E y6;have A:=J.out;have L:=A.cell 1;have M:=A.cell 2;have N:=A.cell 7;simp only[Qc,Qa,Qb]at L M N;clear A;go_wp2;go_ret;exact⟨rfl,I.out⟩
  |true=>
   by_cases l1:1048576<bl
   ·have l2:(1048576:Int)<(bl:Int):=by omega
    have H:r=false:=by rw[←T.out];simp;omega
    subst H
    go_enter Tryz.func24,Tryz.ntmps24
    go_wp2_with fail
    refine(O _).mono ?_;rintro e U ⟨rfl,rfl⟩;have A:=D.out;have y3:=A.cell 3;have y4:=A.cell 4;have E:=A.cell 5;have y6:=A.cell 6;simp only[Qc,Qa,Qb]at y3 y4 E y6;clear A;go_wp2_with fail;refine(R _).mono ?_;rintro e V ⟨rfl,B⟩;have I:=Qh (G.out.trans (B.mono G.out.size));have J:=Qh (D.out.below B D.out.lt);clear B y3 y4 E y6;have A:=J.out;have L:=A.cell 1;have M:=A.cell 2;have N:=A.cell 7;simp only[Qc,Qa,Qb]at L M N;clear A;go_wp2;go_ret;exact⟨rfl,I.out⟩
   ·have l2:¬(1048576:Int)<(bl:Int):=by omega
    have l3:bl≤1048576:=by omega
    by_cases X:kn=48
    ·subst X
     have H:r=decide (m.target=[]):=by rw[←T.out];simp[l3]
     subst H
     go_enter Tryz.func24,Tryz.ntmps24
     go_wp2_with fail
     refine(O _).mono ?_;rintro e U ⟨rfl,rfl⟩;have A:=D.out;have y3:=A.cell 3;have y4:=A.cell 4;have E:=A.cell 5;have y6:=A.cell 6;simp only[Qc,Qa,Qb]at y3 y4 E y6;clear A;go_wp2_with fail;refine(R _).mono ?_;rintro e V ⟨rfl,B⟩;have I:=Qh (G.out.trans (B.mono G.out.size));have J:=Qh (D.out.below B D.out.lt);clear B y3 y4 E y6;have A:=J.out;have L:=A.cell 1;have M:=A.cell 2;have N:=A.cell 7;simp only[Qc,Qa,Qb]at L M N;clear A;go_wp2;go_ret;exact⟨rfl,I.out⟩
    ·have e0:(kn != 48)=true:=by simpa using X
     have f0:(kn==48)=false:=by simpa using X
     by_cases l4:bl=0
     ·subst l4
      by_cases l:kn=53
      ·subst l
       have H:r=decide (m.target=[]):=by rw[←T.out];simp
       subst H
       go_enter Tryz.func24,Tryz.ntmps24
       go_wp2_with fail
       refine(O _).mono ?_;rintro e U ⟨rfl,rfl⟩;have A:=D.out;have y3:=A.cell 3;have y4:=A.cell 4;have E:=A.cell 5;have y6:=A.cell 6;simp only[Qc,Qa,Qb]at y3 y4 E y6;clear A;go_wp2_with fail;refine(R _).mono ?_;rintro e V ⟨rfl,B⟩;have I:=Qh (G.out.trans (B.mono G.out.size));have J:=Qh (D.out.below B D.out.lt);clear B y3 y4 E y6;have A:=J.out;have L:=A.cell 1;have M:=A.cell 2;have N:=A.cell 7;simp only[Qc,Qa,Qb]at L M N;clear A;go_wp2;go_ret;exact⟨rfl,I.out⟩
      ·have f3:(kn==53)=false:=by simpa using l
       by_cases f:kn=49
       ·subst f
        have H:r=b2:=by rw[←T.out];simp
        subst H
        go_enter Tryz.func24,Tryz.ntmps24
        go_wp2_with fail
        refine(O _).mono ?_;rintro e U ⟨rfl,rfl⟩;have A:=D.out;have y3:=A.cell 3;have y4:=A.cell 4;have E:=A.cell 5;have y6:=A.cell 6;simp only[Qc,Qa,Qb]at y3 y4 E y6;clear A;go_wp2_with fail;refine(R _).mono ?_;rintro e V ⟨rfl,B⟩;have I:=Qh (G.out.trans (B.mono G.out.size));have J:=Qh (D.out.below B D.out.lt);clear B y3 y4 E y6;have A:=J.out;have L:=A.cell 1;have M:=A.cell 2;have N:=A.cell 7;simp only[Qc,Qa,Qb]at L M N;clear A;go_wp2_with fail;refine(o _).mono ?_;rintro e w3 ⟨rfl,rfl⟩;go_wp2;go_ret;exact⟨rfl,I.out⟩
       ·have f1:(kn==49)=false:=by simpa using f
        by_cases g:kn=50
        ·subst g
         have H:r=(Y==0):=by rw[←T.out];simp
         subst H
         go_enter Tryz.func24,Tryz.ntmps24
         go_wp2_with fail
         refine(O _).mono ?_;rintro e U ⟨rfl,rfl⟩;have A:=D.out;have y3:=A.cell 3;have y4:=A.cell 4;have E:=A.cell 5;have y6:=A.cell 6;simp only[Qc,Qa,Qb]at y3 y4 E y6;clear A;go_wp2_with fail;refine(R _).mono ?_;rintro e V ⟨rfl,B⟩;have I:=Qh (G.out.trans (B.mono G.out.size));have J:=Qh (D.out.below B D.out.lt);clear B y3 y4 E y6;have A:=J.out;have L:=A.cell 1;have M:=A.cell 2;have N:=A.cell 7;simp only[Qc,Qa,Qb]at L M N;clear A;go_wp2_with fail;refine(q _).mono ?_;rintro e w3 ⟨rfl,rfl⟩;go_wp2;go_ret;exact⟨rfl,I.out⟩
        ·have f2:(kn==50)=false:=by simpa using g
         have H:r=false:=by rw[←T.out];simp[X,f,g,l]
         subst H
         go_enter Tryz.func24,Tryz.ntmps24
         go_wp2_with fail
         refine(O _).mono ?_;rintro e U ⟨rfl,rfl⟩;have A:=D.out;have y3:=A.cell 3;have y4:=A.cell 4;have E:=A.cell 5;have y6:=A.cell 6;simp only[Qc,Qa,Qb]at y3 y4 E y6;clear A;go_wp2_with fail;refine(R _).mono ?_;rintro e V ⟨rfl,B⟩;have I:=Qh (G.out.trans (B.mono G.out.size));have J:=Qh (D.out.below B D.out.lt);clear B y3 y4 E y6;have A:=J.out;have L:=A.cell 1;have M:=A.cell 2;have N:=A.cell 7;simp only[Qc,Qa,Qb]at L M N;clear A;go_wp2;go_ret;exact⟨rfl,I.out⟩
     ·have l5:(0:Int)<(bl:Int):=by omega
      have H:r=false:=by rw[←T.out];simp[X,l4]
      subst H
      go_enter Tryz.func24,Tryz.ntmps24
      go_wp2_with fail
      refine(O _).mono ?_;rintro e U ⟨rfl,rfl⟩;have A:=D.out;have y3:=A.cell 3;have y4:=A.cell 4;have E:=A.cell 5;have y6:=A.cell 6;simp only[Qc,Qa,Qb]at y3 y4 E y6;clear A;go_wp2_with fail;refine(R _).mono ?_;rintro e V ⟨rfl,B⟩;have I:=Qh (G.out.trans (B.mono G.out.size));have J:=Qh (D.out.below B D.out.lt);clear B y3 y4 E y6;have A:=J.out;have L:=A.cell 1;have M:=A.cell 2;have N:=A.cell 7;simp only[Qc,Qa,Qb]at L M N;clear A;go_wp2;go_ret;exact⟨rfl,I.out⟩
theorem lU (m:av) (p:Option Addr) (c:Nat) (w:World) (h1:m.path.length≤140737488351232) (h2:m.target.length≤140737488351232) (hT:Tabs w):
 Calls Tryz.prog 52 #[.agg (cO m p c)] w fun e w'=>e=.returned (.bool (bC m))∧Below w.heap.size w w':=by
 rw[J7];obtain⟨⟨A,H⟩,I⟩:∃x,dG (kH m)=x:=⟨_,rfl⟩
 have V:A.body=[]:=by have:=kE (kH m);rw[I]at this;exact this
 have U:∀wi,Below w.heap.size w wi→Calls Tryz.prog 80 #[.agg #[.string (str m.path),.string (str m.target),.int .u8 (m.kind.toNat:Int),.int .i64 m.mode,.int .i64 m.uid,.int .i64 m.gid,.int .i64 m.time,.int .i64 (m.body.length:Int),.bool false]] wi fun e w'=>e=.returned (.tuple #[.agg #[.string (str A.path),.string (str A.target),.int .u8 (A.kind.toNat:Int),.int .i64 A.mode,.int .i64 A.uid,.int .i64 A.gid,.int .i64 A.time,.slice none 0 0],.int .i64 H])∧Below wi.heap.size wi w':=fun wi B=>by
  have:=iD (kH m) wi h1 h2 (hT.below B);rw[I]at this;unfold cO at this;simp only[V,List.length_nil]at this;exact this
 have N:=Qh U;have E:=iQ m.kind;unfold cO;obtain⟨kn,G⟩:∃kn:Int,(m.kind.toNat:Int)=kn:=⟨_,rfl⟩
 obtain⟨bl,T⟩:∃bl,m.body.length=bl:=⟨_,rfl⟩
 rw[G,T]at N;rw[G]at E;rw[G,T]
 have b:((str A.path).toList==(str m.path).toList)=decide (A.path=m.path):=by
  rw[ay,ay]
  by_cases h:A.path=m.path<;>simp[h]
 have d:((str A.target).toList==(str m.target).toList)=decide (A.target=m.target):=by
  rw[ay,ay]
  by_cases h:A.target=m.target<;>simp[h]
 rw[I];simp only;obtain⟨x0,L⟩:∃x,fL m.kind=x:=⟨_,rfl⟩
 obtain⟨g,J⟩:∃x,decide (A.path=m.path)=x:=⟨_,rfl⟩
 obtain⟨r,M⟩:∃x,decide (A.target=m.target)=x:=⟨_,rfl⟩
 rw[L]at E;rw[L,J,M];rw[J]at b;rw[M]at d;have D:=Qh ((Below.refl w.heap.size w).alloc (Qk _) (.cells #[.string (str m.path),.string (str m.target),.int .u8 kn,.int .i64 m.mode,.int .i64 m.uid,.int .i64 m.gid,.int .i64 m.time,.slice p bl c] 48));have W:=Qh (ao.new w 48 #[.string (str m.path),.string (str m.target),.int .u8 kn,.int .i64 m.mode,.int .i64 m.uid,.int .i64 m.gid,.int .i64 m.time,.slice p bl c]);clear L J M G T I V U h1 h2 hT
 cases x0 with
 |false=>
  go_enter Tryz.func52,Tryz.ntmps52
  go_wp2_with fail
  refine(E _).mono ?_;rintro e Z ⟨rfl,rfl⟩;go_wp2;go_ret;exact⟨rfl,D.out⟩
 |true=>
  have Y:∀(wi:World),Below (w.alloc (.cells #[.string (str m.path),.string (str m.target),.int .u8 kn,.int .i64 m.mode,.int .i64 m.uid,.int .i64 m.gid,.int .i64 m.time,.slice p bl c] 48)).heap.size (w.alloc (.cells #[.string (str m.path),.string (str m.target),.int .u8 kn,.int .i64 m.mode,.int .i64 m.uid,.int .i64 m.gid,.int .i64 m.time,.slice p bl c] 48)) wi→Below w.heap.size w (wi.alloc (.cells #[.string (str A.path),.string (str A.target),.int .u8 (A.kind.toNat:Int),.int .i64 A.mode,.int .i64 A.uid,.int .i64 A.gid,.int .i64 A.time,.slice none 0 0] 48))   :=fun wi B=>
   (D.out.trans (B.mono D.out.size)).alloc (D.out.trans (B.mono D.out.size)).size _
  have X:=Qh Y;clear Y
  by_cases R:H=0
  ·subst R
   go_enter Tryz.func52,Tryz.ntmps52
   go_wp2_with fail
   refine(E _).mono ?_;rintro e Z ⟨rfl,rfl⟩;go_wp2_with fail;refine(N.out _ D.out).mono ?_;rintro e f ⟨rfl,B⟩;have F:=Qh (X.out _ B);have O:=W.out.below (B.alloc B.size (.cells #[.string (str A.path),.string (str A.target),.int .u8 (A.kind.toNat:Int),.int .i64 A.mode,.int .i64 A.uid,.int .i64 A.gid,.int .i64 A.time,.slice none 0 0] 48)) W.out.lt;have l:=O.cell 0;have o:=O.cell 1;simp only[Qc,Qa,Qb]at l o;clear B O
   cases g with
   |false=>
    go_wp2;go_ret;exact⟨rfl,F.out⟩
   |true=>
    go_wp2;go_ret;exact⟨rfl,F.out⟩
  ·have q:(H==0)=false:=by simpa using R
   have hd:decide (H=0)=false:=by simpa using R
   rw[hd]
   go_enter Tryz.func52,Tryz.ntmps52
   go_wp2_with fail
   refine(E _).mono ?_;rintro e Z ⟨rfl,rfl⟩;go_wp2_with fail;refine(N.out _ D.out).mono ?_;rintro e f ⟨rfl,B⟩;have F:=Qh (X.out _ B);clear B;go_wp2;go_ret;exact⟨rfl,F.out⟩
end Mem
namespace Tre
open Go.ChangeShapes Go.WideShapes Go.ChangeAt Go.RowKit Base bJ cn Bk Mem Go.Lib
variable {ms:List av}
def Oz (xs:List MP):Prop:=∀x∈xs,x.m.path.length≤140737488351232∧x.m.target.length≤140737488351232
def jw (ms:List av):Option Nat:=ms.findIdx? fun m=>!bC m
def Rc (o:Option Nat):Int:=match o with|some i=>(i:Int)|none=>-1
theorem si (h:∀m∈ms,bC m=true):jw ms=none:=by
 rw[jw,List.findIdx?_eq_none_iff];intro m hm;rw[h m hm];rfl
theorem BQ (hk:k<ms.length) (h0:∀m∈ms.take k,bC m=true) (h:bC (ms.getD k cH)=false):jw ms=some k:=by
 rw[jw,List.findIdx?_eq_some_iff_getElem];refine⟨hk,?_,fun j A=>?_⟩
 ·rw[List.getD,Qd hk]at h
  simpa using h
 ·have:=h0 ms[j] (by
   rw[List.mem_take_iff_getElem]
   exact⟨j,by omega,rfl⟩)
  simpa using this
theorem lX (m:av) (p:Option Addr) (c:Nat) (w:World) (h1:m.path.length≤140737488351232) (h2:m.target.length≤140737488351232) (hT:Path.Tabs w):
 Calls Tryz.prog 58 #[.agg (cO m p c)] w fun e w'=>e=.returned (.bool (!bC m))∧Below w.heap.size w w':=by
 obtain⟨W0,D⟩:∃W0,w.alloc (.cells (cO m p c) 48)=W0:=⟨_,rfl⟩
 have B:Below w.heap.size w W0:=by rw[←D];exact(Below.refl _ _).alloc (Qk _) _
 have A:=lU m p c W0 h1 h2 (hT.below B);obtain⟨r,I⟩:∃r,bC m=r:=⟨_,rfl⟩
 rw[I]at A⊢;have J:=Qh B;have G:=Qh D;have E:=Qh A;unfold cO at G E⊢;clear B D A I
 go_enter Tryz.func58,Tryz.ntmps58
 go_wp2_with fail
 rw[G.out];refine E.out.mono ?_;rintro e M ⟨rfl,H⟩;have L:=Qh (J.out.trans (H.mono J.out.size));clear H;go_wp2;go_ret;exact⟨rfl,L.out⟩
theorem iZ (xs:List MP) (k:Nat):(xs.map MP.m).getD k cH=(xs.getD k bP).m:=by
 rw[List.getD,List.getD,List.getElem?_map]
 cases xs[k]? <;>rfl
theorem pI (p:Option Addr) (n c:Nat) (xs:List MP) (w:World) (h:dr w p n xs) (hn:n≤1000000000) (hF:Oz xs) (hT:Path.Tabs w):
 Calls Tryz.prog 57 #[.slice p n c,.func (.func 58) #[] #[]] w fun e w'=>e=.returned (.int .i64 (Rc (jw (xs.map MP.m))))∧Below w.heap.size w w':=by
 have Y:=Qh h;have I:=Qh h.1;have X:=Qh hF;have Z:=Qh hT;clear h hF hT
 go_enter Tryz.func57,Tryz.ntmps57
 go_wp2_with fail
 go_loopw [5,8] (fun _ i wr=>∃(j:Nat),j≤n∧i=.int .i64 (j:Int)∧Hid (∀m∈(xs.map MP.m).take j,bC m=true)∧Hid (Below w.heap.size w wr)) (fun _ i _=>n - (RowKit.intOf i).toNat)
 case atStart=>exact⟨0,Nat.zero_le _,rfl,Qh (by simp),Qh (Below.refl _ _)⟩
 case round=>
  obtain⟨j,l,rfl,hA,A⟩:=hrel
  by_cases N:j<n
  ·have H:j<xs.length:=by rw[I.out];exact N
   have T:=lL xs j H;have M:=ug xs j H;have G:=X.out _ T;obtain⟨b,o,rfl,d,W,c0,c1,c2,c3,c4,c5,c6,c7⟩:=(Y.out.below A.out).cells N;have L:=iZ xs j;obtain⟨y,hy⟩:∃y,xs.getD j bP=y:=⟨_,rfl⟩
   rw[hy]at M T G W c0 c1 c2 c3 c4 c5 c6 c7 L;rw[Nat.mul_comm]at c0 c1 c2 c3 c4 c5 c6 c7;have D:=lX y.m y.p y.c wr G.1 G.2 (Z.out.below A.out);unfold cO at D;obtain⟨r,R⟩:∃r,bC y.m=r:=⟨_,rfl⟩
   rw[R]at D;have J:=Qh M;have V:=Qh R;have g:=Qh L;have U:=Qh D;have q:(j:Int)<(n:Int):=by omega
   clear M d hy D R T H G W L
   cases r with
   |true=>
    go_wp2_with fail
    refine U.out.mono ?_;rintro e f ⟨rfl,B⟩;have O:=Qh (A.out.trans (B.mono A.out.size));clear B c0 c1 c2 c3 c4 c5 c6 c7;go_wp2;go_roundw
    case rel=>exact⟨j+1,by omega,by go_num,Qh (fun x hx=>by
     rw[←List.map_take,J.out,List.mem_append]at hx;rcases hx with hx|hx
     ·exact hA.out x (by rw[←List.map_take];exact hx)
     ·rw[List.mem_singleton.1 hx];exact V.out),O⟩
    case measure=>simp[RowKit.intOf];omega
   |false=>
    go_wp2_with fail
    refine U.out.mono ?_;rintro e f ⟨rfl,B⟩;have O:=Qh (A.out.trans (B.mono A.out.size));have E:Hid (jw (xs.map MP.m)=some j):=Qh (BQ (by rw[Qi,I.out];exact N) hA.out (by rw[g.out];exact V.out));clear B c0 c1 c2 c3 c4 c5 c6 c7;go_wp2;go_ret;exact⟨by rw[E.out];rfl,O.out⟩
  ·have t:¬((j:Int)<(n:Int)):=by omega
   have E:Hid (jw (xs.map MP.m)=none):=Qh (si (fun x hx=>hA.out x (by rw[List.take_of_length_le (by rw[Qi,I.out];omega)];exact hx)));go_wp2;go_ret;exact⟨by rw[E.out];rfl,A.out⟩
end Tre
namespace Tre
open Go.ChangeShapes Go.WideShapes Go.ChangeAt Go.RowKit Base bJ cn Bk Mk Mem Go.Lib
variable {N:Nat} {S:St}
theorem oJ (k:UInt8) (n:UInt8) (z:Int) (hz:(n.toNat:Int)=z):(((k.toNat:Int))==z)=decide (k=n):=by
 subst hz
 by_cases h:k=n
 ·simp[h]
 ·have:¬k.toNat=n.toNat:=fun A=>h (UInt8.toNat.inj A)
  simp only[h,decide_false,beq_eq_false_iff_ne,ne_eq];omega
theorem zG (k:UInt8) (n:UInt8) (z:Int) (hz:(n.toNat:Int)=z):(((k.toNat:Int)) != z)=!decide (k=n):=by
 rw[←oJ k n z hz];rfl
def fv (f:List UInt8→Option Nat):List UInt8→Option Value:=fun x=>(f x).map fun n=>.int .i64 (n:Int)
structure ly (W:World) (g B:Nat) (p:Option Addr) (n c:Nat) (f:List UInt8→Option Nat):Prop where
 obj:ao W g 150 #[.slice p n c,.map (some B)]
 map:cF ik W B (fv f)
theorem lH {t:TypeId} {cs:Array Value} {K:ie α} {f:α→Option Value} (h:ao W g t cs) (hm:cF K W B f):g≠B:=fun e=>by
 obtain⟨es,clock,A,_⟩:=hm;subst e;have D:W.heap[g]? =some (.cells cs t (0,0)):=h;rw[D]at A
 cases A
theorem ly.below {c:Nat} {f:List UInt8→Option Nat} (h:ly W g B p n c f) (hb:Below W.heap.size W W'):ly W' g B p n c f:=
 ⟨h.obj.below hb h.obj.lt,h.map.kept (Kept.aS hb ag) (fun h=>h.elim)⟩
def Bl (w:World) (p:Option Addr) (n c:Nat) (e:Ending) (w':World):Prop:=
 ∃g B,e=.returned (.pointer (some ⟨g,0,none⟩))∧ly w' g B p n c (fun _=>none)∧w.heap.size≤g∧w.heap.size≤B∧Below w.heap.size w w'
theorem Dc (p:Option Addr) (n c:Nat) (w:World):
 Calls Tryz.prog 59 #[.slice p n c] w (Bl w p n c):=by
 have D:=@run_makeMap Tryz.prog
 go_enter Tryz.func59,Tryz.ntmps59
 go_wp2;go_ret;have A:=(iR ik w)
 have B:ao ((w.alloc (.map #[] 0)).alloc (.cells #[.slice p n c,.map (some w.heap.size)] 150)) (w.heap.size+1) 150 #[.slice p n c,.map (some w.heap.size)]:=by
  have:=ao.new (w.alloc (.map #[] 0)) 150 #[.slice p n c,.map (some w.heap.size)]
  rwa [World.size_alloc]at this
 refine⟨w.heap.size+1,w.heap.size,rfl,⟨B,?_⟩,by omega,Qk _,((Below.refl _ _).alloc (Qk _) _).alloc (by simp) _⟩;exact A.kept ((Kept.refl ag _).alloc _) (fun h=>h.elim)
theorem zh (q r:α→Bool) (h:∀x,r x=true→q x=true) (l:List α):(l.filter q).find? r=l.find? r:=by
 induction l with
 |nil=>rfl
 |cons a l ih=>
  rw[List.filter_cons]
  by_cases A:q a=true
  ·rw[if_pos A,List.find?_cons,List.find?_cons,ih]
  ·rw[if_neg A,List.find?_cons,ih]
   have:r a=false:=by
    cases B:r a with
    |false=>rfl
    |true=>exact absurd (h a B) A
   rw[this]
theorem K5 (S:St) (p x:List UInt8) (n:Nat):look (jm S p n) x=if x=p then some n else look S x:=by
 unfold look jm;rw[List.find?_append]
 by_cases h:x=p
 ·subst h
  rw[if_pos rfl]
  have:(S.filter fun e=>!(e.1==x)).find? (fun e=>e.1==x)=none:=by
   rw[List.find?_eq_none];intro e he;rw[List.mem_filter]at he
   simpa using he.2
  rw[this];simp
 ·rw[if_neg h,zh _ _ (fun e he=>by
   have:e.1=x:=by simpa using he
   simpa [this]using h)]
  have A:([(p,n)]:St).find? (fun e=>e.1==x)=none:=by
   have:(p==x)=false:=by simpa using fun e:p=x=>h e.symm
   simp[this]
  rw[A,Option.or_none]
def Mj (S:St) (N:Nat):Prop:=∀e∈S,e.2<N
theorem Mj.look (h:Mj S N) {x:List UInt8} (hl:look S x=some n):n<N:=by
 unfold Tre.look at hl;rw[Option.map_eq_some_iff]at hl;obtain⟨e,he,rfl⟩:=hl;exact h e (List.mem_of_find?_eq_some he)
theorem Mj.put (h:Mj S N) {p:List UInt8} (hn:n<N):Mj (jm S p n) N:=fun e he=>by
 unfold jm at he;rw[List.mem_append,List.mem_filter]at he;rcases he with he|he
 ·exact h e he.1
 ·rw[List.mem_singleton.1 he];exact hn
theorem NN {ms:List av} {S':St} (h:jS ms S i=some S') (hS:Mj S ms.length) (hi:i<ms.length):Mj S' ms.length:=by
 unfold jS at h
 dsimp only at h
 split at h
 ·split at h
  ·cases h
  ·next n A=>
   split at h
   ·cases h;exact hS.put (hS.look A)
   ·cases h
 ·cases h;exact hS.put hi
def Ed (W:World) (ms:List av) (S:St) (i g B:Nat) (p:Option Addr) (n c:Nat) (e:Ending) (w':World):Prop:=
 e=.returned (.bool (jS ms S i).isSome)∧ly w' g B p n c (look ((jS ms S i).getD S))∧Kept (aA B) W w'
theorem vW (S:St) (x:List UInt8) (n:Nat):fv (look (jm S x n))=fun y=>if y=x then some (.int .i64 (n:Int))else fv (look S) y:=by
 funext y
 unfold fv;rw[K5]
 by_cases h:y=x<;>simp[h]
theorem xQ (w:World) (g B:Nat) (p:Option Addr) (n c:Nat) (xs:List MP) (S:St) (i:Nat) (W:World) (hM:dr w p n xs) (hb:Below w.heap.size w W) (hB:w.heap.size≤B) (hn:n≤1000000000) (hi:i<n) (hS:Mj S n) (hL:ly W g B p n c (look S)):
 Calls Tryz.prog 60 #[.pointer (some ⟨g,0,none⟩),.int .i64 (i:Int)] W (Ed W (xs.map MP.m) S i g B p n c):=by
 have HL:=Qh hM.1;have Kn:=lH hL.obj hL.map;have o:=hM.below hb;obtain⟨t,o1,rfl,cf,b6,gR⟩:=o.jO hi;have b:=iZ xs i;obtain⟨y,hy⟩:∃y,xs.getD i bP=y:=⟨_,rfl⟩
 rw[hy]at b6 gR b;obtain⟨W1,I⟩:∃W1,W.alloc (.cells y.cs 48)=W1:=⟨_,rfl⟩
 have T:Below W.heap.size W W1:=by rw[←I];exact(Below.refl _ _).alloc (Qk _) _
 have L:ao W1 W.heap.size 48 y.cs:=by rw[←I];exact ao.new W _ _
 have V:=hL.below T;have HLA:=Qh hL;have A:=Qh V;have RH:=Qh Kn;have O:=Qh T;have jL:=Qh (o.below T);have HS:=Qh hS;have HY:=Qh L;have Be:=Qh (And.intro hL.obj.lt hL.map.lt);have k0:=hL.obj.cell 0;have g0:=V.obj.cell 0;have g1:=V.obj.cell 1;have Y:=L.cell 0;have y1:=L.cell 1;have y2:=L.cell 2;simp only[MP.cs,cO,Qc,Qa,Qb]at k0 g0 g1 Y y1 y2;have u:=oJ y.m.kind 49 49 rfl;obtain⟨kn,bQ⟩:∃k:Int,(y.m.kind.toNat:Int)=k:=⟨_,rfl⟩
 obtain⟨c0,c1,c2,c3,c4,c5,c6,c7⟩:=gR;unfold MP.cs cO at I;rw[bQ]at I y2 c2 u;have Z:=Qh b;have hiz:(i:Int)<(n:Int):=by omega
 have QQ:(0:Int)≤(i:Int):=by omega
 clear hM hb o cf b6 hy T L hL V Kn hS bQ b
 go_enter Tryz.func60,Tryz.ntmps60
 go_upto_region 2 with fail
 clear c0 c1 c2 c3 c4 c5 c6 c7 I
 by_cases D:y.m.kind=49
 ·rw[decide_eq_true D]at u
  have NA:=A.out.map.look_ok (P:=Tryz.prog) Tryz.underlying99 Tryz.underlying9 (z:=.int .i64 0) (fun w=>Tryz.zeroValue3 w) y.m.target
  have U:Hid (∀q:fW W1,(Instr.lookup 99 (.map (some B)) (.string (str y.m.target)) true).run Tryz.prog q.w'=.ok (.tuple #[(fv (look S) y.m.target).getD (.int .i64 0),.bool (fv (look S) y.m.target).isSome]) q.w'):=Qh (fun q=>
   (A.out.map.kept (Kept.aS q.bel ag) (fun h=>h.elim)).look_ok (P:=Tryz.prog) Tryz.underlying99 Tryz.underlying9 (z:=.int .i64 0) (fun w=>Tryz.zeroValue3 w) y.m.target)
  clear NA;obtain⟨fo,uC⟩:∃fo,look S y.m.target=fo:=⟨_,rfl⟩
  have X:=Qh uC;unfold fv at U;rw[uC]at U;have d:=Qh D;clear uC D
  cases fo with
  |none=>
   have E:Hid (jS (xs.map MP.m) S i=none):=Qh (by
    unfold jS;rw[Z.out]
    dsimp only
    rw[if_pos d.out,X.out])
   have lk:∀m,(Instr.lookup 99 (.map (some B)) (.string (str y.m.target)) true).run Tryz.prog (W1.drewN m)=.ok (.tuple #[.int .i64 0,.bool false]) (W1.drewN m):=fun m=>U.out ⟨W1.drewN m,below_drewN (Below.refl _ _) m⟩
   go_wp2_with fail
   go_quiet (fail)
   go_wp2;go_ret;exact⟨by rw[E.out];rfl,by rw[E.out];exact A.out.below (below_drewN (Below.refl _ _) _),(Kept.aS O.out (aA B)).drewN _⟩
  |some n0=>
   have Ud:n0<n:=HS.out.look X.out;obtain⟨b2,o2,zA,bZ,J,kr⟩:=jL.out.jO Ud;simp only[Option.some.injEq,Addr.mk.injEq,and_true]at zA;obtain⟨rfl,rfl⟩:=zA;have l:=iZ xs n0;obtain⟨v,hv⟩:∃v,xs.getD n0 bP=v:=⟨_,rfl⟩
   rw[hv]at kr l;have z2:=kr.2.2.1;have f:∀m,(W1.drewN m).cell? ⟨t,o1+n0*8+2,none⟩=some (.int .u8 (v.m.kind.toNat:Int)):=fun m=>z2
   have ev:=zG v.m.kind 48 48 rfl;obtain⟨kv,Kt⟩:∃k:Int,(v.m.kind.toNat:Int)=k:=⟨_,rfl⟩
   rw[Kt]at ev z2 f;have du:=Qh l;have lk:∀m,(Instr.lookup 99 (.map (some B)) (.string (str y.m.target)) true).run Tryz.prog (W1.drewN m)=.ok (.tuple #[.int .i64 (n0:Int),.bool true]) (W1.drewN m):=fun m=>U.out ⟨W1.drewN m,below_drewN (Below.refl _ _) m⟩
   have ab5:(n0:Int)<(n:Int):=by omega
   have ab4:(0:Int)≤(n0:Int):=by omega
   clear bZ J kr hv Kt l
   by_cases G:v.m.kind=48
   ·rw[decide_eq_true G,Bool.not_true]at ev
    have E:Hid (jS (xs.map MP.m) S i=some (jm S y.m.path n0)):=Qh (by
     unfold jS;rw[Z.out]
     dsimp only
     rw[if_pos d.out,X.out]
     dsimp only
     rw[du.out,if_pos G])
    clear G;go_wp2_with fail
    go_quiet (fail)
    obtain⟨W2,jr⟩:∃W2,W1.drewN nq=W2:=⟨_,rfl⟩
    have H:=A.out.below (below_drewN (Below.refl W1.heap.size W1) nq);have J:=O.out.trans ((below_drewN (Below.refl W1.heap.size W1) nq).mono O.out.size);have r:=HY.out.drewN nq;have z2':=f nq;rw[jr]at H J r z2'⊢;clear jr lk f z2 g0 g1 Y y1 y2;have g0:=H.obj.cell 0;have g1:=H.obj.cell 1;have Y:=r.cell 0;simp only[MP.cs,cO,Qc,Qa,Qb]at g0 g1 Y;have D8:=Qh H;have PA:=Qh J;clear H J r;go_wp2_with fail
    go_still_tail 7,(by kernel_rfl)
    refine cQ (K:=ik) rfl (.tmp 45) (.tmp 47) (.tmp 48) rfl Tryz.underlying99 Tryz.underlying9 B (D8.out.map.kept (Kept.refl ag W2).drew id) rfl y.m.path rfl (.int .i64 (n0:Int)) rfl ?_;intro w5 R M qy
    have F:Hid (ly w5 g B (some ⟨t,o1,none⟩) n c (look (jm S y.m.path n0))∧Kept (aA B) W w5):=by
     have N:Kept (aA B) W2 w5:=((Kept.refl (aA B) W2).drew).trans M.out;refine Qh ⟨⟨D8.out.obj.bW N RH.out,?_⟩,(Kept.aS PA.out (aA B)).trans N⟩;rw[vW];exact R.out
    clear R M qy;go_wp2;go_ret;exact⟨by rw[E.out];rfl,by rw[E.out];exact F.out.1,F.out.2⟩
   ·rw[decide_eq_false G,Bool.not_false]at ev
    have E:Hid (jS (xs.map MP.m) S i=none):=Qh (by
     unfold jS;rw[Z.out]
     dsimp only
     rw[if_pos d.out,X.out]
     dsimp only
     rw[du.out,if_neg G])
    clear G;go_wp2_with fail
    go_quiet (fail)
    go_wp2;go_ret;exact⟨by rw[E.out];rfl,by rw[E.out];exact A.out.below (below_drewN (Below.refl _ _) _),(Kept.aS O.out (aA B)).drewN _⟩
 ·rw[decide_eq_false D]at u
  have E:Hid (jS (xs.map MP.m) S i=some (jm S y.m.path i)):=Qh (by
   unfold jS;rw[Z.out]
   dsimp only
   rw[if_neg D])
  clear D;go_wp2_with fail
  go_still_tail 7,(by kernel_rfl)
  refine cQ (K:=ik) rfl (.tmp 45) (.tmp 47) (.tmp 48) rfl Tryz.underlying99 Tryz.underlying9 B (A.out.map.kept (Kept.refl ag W1).drew id) rfl y.m.path rfl (.int .i64 (i:Int)) rfl ?_;intro w5 R M qy
  have F:Hid (ly w5 g B (some ⟨t,o1,none⟩) n c (look (jm S y.m.path i))∧Kept (aA B) W w5):=by
   have N:Kept (aA B) W1 w5:=((Kept.refl (aA B) W1).drew).trans M.out;refine Qh ⟨⟨A.out.obj.bW N RH.out,?_⟩,(Kept.aS O.out (aA B)).trans N⟩;rw[vW];exact R.out
  clear R M qy;go_wp2;go_ret;exact⟨by rw[E.out];rfl,by rw[E.out];exact F.out.1,F.out.2⟩
end Tre
namespace Tre
open Mem
variable {ms:List av} {f:Nat} {S T:St}
def iU (S:St):Prop:=(S.map (·.1)).Nodup
theorem iU.put (h:iU S) (p:List UInt8) (n:Nat):iU (jm S p n):=by
 unfold iU jm at*;rw[List.map_append,List.nodup_append];refine⟨(List.Sublist.nodup (List.Sublist.map _ (List.filter_sublist)) h),by simp,?_⟩;intro a A b B;simp only[List.map_cons,List.map_nil,List.mem_singleton]at B;subst B;rw[List.mem_map]at A;obtain⟨e,he,rfl⟩:=A;rw[List.mem_filter]at he
 simpa using he.2
theorem zR (h:iU S) {e:List UInt8 × Nat} (he:e∈S):look S e.1=some e.2:=by
 unfold look iU at*
 induction S with
 |nil=>cases he
 |cons a S ih=>
  rw[List.map_cons,List.nodup_cons]at h;rw[List.find?_cons]
  by_cases A:a.1=e.1
  ·have:(a.1==e.1)=true:=by simpa using A
   rw[this];rcases List.mem_cons.1 he with rfl|XH
   ·rfl
   ·exact absurd (List.mem_map.2 ⟨e,XH,A.symm⟩) h.1
  ·have:(a.1==e.1)=false:=by simpa using A
   rw[this];rcases List.mem_cons.1 he with rfl|XH
   ·exact absurd rfl A
   ·exact ih h.2 XH
theorem lT (x:List UInt8):(look S x).isSome=true↔x∈S.map (·.1):=by
 unfold look;rw[Option.isSome_map,List.find?_isSome,List.mem_map];constructor
 ·rintro⟨e,he,h⟩;exact⟨e,he,by simpa using h⟩
 ·rintro⟨e,he,h⟩;exact⟨e,he,by simpa using h⟩
theorem CO {S':St} (h:jS ms S i=some S') (hS:iU S):iU S':=by
 unfold jS at h
 dsimp only at h
 split at h
 ·split at h
  ·cases h
  ·split at h
   ·cases h;exact hS.put _ _
   ·cases h
 ·cases h;exact hS.put _ _
theorem qD (ms:List av):∀k S,eF ms k=.ok S→iU S
 |0,S,h=>by cases h;exact List.nodup_nil
 |k+1,S,h=>by
  unfold eF at h;split at h
  ·cases h
  ·next A B=>
   split at h
   ·cases h
   ·next D h1=>cases h;exact CO h1 (qD ms k A B)
theorem tc (ms:List av):∀k S,k≤ms.length→eF ms k=.ok S→Mj S ms.length
 |0,S,_,h=>by cases h;intro e he;cases he
 |k+1,S,hk,h=>by
  unfold eF at h;split at h
  ·cases h
  ·next A B=>
   split at h
   ·cases h
   ·next D h1=>cases h;exact NN h1 (tc ms k A (by omega) B) (by omega)
def Eg (T:St):Prop:=T.Pairwise fun a b=>dI a.1 b.1=true
theorem Hb (a b c:List UInt8 × Nat) (h1:KZ a b=true) (h2:KZ b c=true):KZ a c=true:=by
 unfold KZ at*;simp only[Bool.not_eq_true']at*
 cases h:dI c.1 a.1 with
 |false=>rfl
 |true=>rw[x9 (a:=b.1) (b:=c.1) (c:=a.1) h2 h]at h1;cases h1
theorem Ha (a b:List UInt8 × Nat):(KZ a b||KZ b a)=true:=by
 unfold KZ
 cases h:dI b.1 a.1 with
 |false=>simp
 |true=>rw[kf h];simp
theorem nP (S:St):(k8 S).Perm S:=List.mergeSort_perm S KZ
theorem tV (h:iU S):Eg (k8 S):=by
 have h1:=List.pairwise_mergeSort Hb Ha S;have A:((k8 S).map (·.1)).Nodup:=((nP S).map _).nodup_iff.2 h;have B:(k8 S).Pairwise fun a b=>a.1≠b.1:=(List.pairwise_map (f:=fun e:List UInt8 × Nat=>e.1)).1 A
 refine((show(k8 S).Pairwise (fun a b=>KZ a b=true)from h1).and B).imp fun⟨h4,h5⟩=>?_
 unfold KZ at h4;exact kN (by simpa using h4) (fun e=>h5 e.symm)
theorem DM (h:iU S) (hp:T.Perm S) (hr:Eg T):T=k8 S:=by
 have A:T.Pairwise fun(a b:List UInt8 × Nat)=>dI a.1 b.1=true:=hr
 have B:(k8 S).Pairwise fun(a b:List UInt8 × Nat)=>dI a.1 b.1=true:=tV h
 refine List.Perm.eq_of_pairwise (fun a b _ _ (h1:dI a.1 b.1=true) (h2:dI b.1 a.1=true)=>?_) A B (hp.trans (nP S).symm);rw[kf h1]at h2;cases h2
theorem G5 (h:iU S) {ts:List (List UInt8)} (hp:ts.Perm (S.map (·.1))) (hr:ts.Pairwise fun a b=>dI a b=true):k8 S=ts.map fun x=>(x,(look S x).getD 0):=by
 symm
 refine DM h ?_ ?_
 ·have:=hp.map fun x=>(x,(look S x).getD 0)
  refine this.trans (List.Perm.of_eq ?_);rw[List.map_map]
  conv=>rhs;rw[←List.map_id S]
  refine List.map_congr_left fun e he=>?_
  simp only[Function.comp,zR h he,Option.getD_some,id]
 ·unfold Eg
  rw[List.pairwise_map];exact hr
theorem CT (hk:k<T.length) (h:∀j,j<k→(T.getD j ([],0)).2≠(T.getD k ([],0)).2):ni T (T.getD k ([],0)).2=(T.getD k ([],0)).1:=by
 unfold ni;have A:T.getD k ([],0)=T[k]:=by rw[List.getD,Qd hk];rfl
 rw[A]at h⊢
 have:T.find? (fun e=>e.2==T[k].2)=some T[k]:=by
  rw[List.find?_eq_some_iff_getElem];refine⟨by simp,k,hk,rfl,fun j B=>?_⟩;have:=h j B;rw[List.getD,Qd (show j<T.length by omega)]at this
  simpa using this
 rw[this];rfl
def fg (T:St) (n:Nat):Option Nat:=T.findIdx? fun e=>e.2==n
theorem zL (h:fg T n=some f):ni T n=(T.getD f ([],0)).1:=by
 unfold fg at h;rw[List.findIdx?_eq_some_iff_getElem]at h;obtain⟨hf,h1,A⟩:=h;unfold ni
 have:T.find? (fun e=>e.2==n)=some T[f]:=by
  rw[List.find?_eq_some_iff_getElem];exact⟨h1,f,hf,rfl,fun j B=>by simpa using A j B⟩
 rw[this,List.getD,Qd hf];rfl
theorem fG (T:St) (k n:Nat) (hk:k<T.length):fg (T.take (k+1)) n=(fg (T.take k) n).or (if(T.getD k ([],0)).2=n then some k else none):=by
 unfold fg;rw[List.take_succ_eq_append_getElem hk,List.findIdx?_append]
 congr 1
 have A:T.getD k ([],0)=T[k]:=by rw[List.getD,Qd hk];rfl
 rw[A]
 by_cases h:T[k].2=n
 ·simp[h,List.findIdx?_cons]
  omega
 ·have:(T[k].2==n)=false:=by simpa using h
  simp[h,List.findIdx?_cons,this]
theorem xw (h:fg (T.take k) n=some f):fg T n=some f:=by
 unfold fg at*
 conv=>lhs;rw[←List.take_append_drop k T,List.findIdx?_append,h]
 rfl
def leads (ms:List av) (T:St) (k n:Nat):Option Nat:=if(ms.getD n cH).kind=48 then fg (T.take k) n else none
theorem CU (ms:List av) (T:St) (n:Nat):leads ms T 0 n=none:=by
 unfold leads;split<;>rfl
theorem zM (hk:k<T.length) (h:(ms.getD (T.getD k ([],0)).2 cH).kind≠48):leads ms T (k+1)=leads ms T k:=by
 funext n
 unfold leads;split
 ·next A=>
  rw[fG T k n hk,if_neg (fun e=>h (by rw[e];exact A)),Option.or_none]
 ·rfl
theorem Hd (hk:k<T.length) (h:leads ms T k (T.getD k ([],0)).2=some f):leads ms T (k+1)=leads ms T k:=by
 funext n
 unfold leads at*;split
 ·next A=>
  rw[fG T k n hk]
  by_cases e:(T.getD k ([],0)).2=n
  ·rw[e,if_pos A]at h
   rw[h];rfl
  ·rw[if_neg e,Option.or_none]
 ·rfl
theorem Hc (hk:k<T.length) (hf:(ms.getD (T.getD k ([],0)).2 cH).kind=48) (h:leads ms T k (T.getD k ([],0)).2=none):leads ms T (k+1)=fun n=>if n=(T.getD k ([],0)).2 then some k else leads ms T k n:=by
 funext n
 unfold leads at*;rw[if_pos hf]at h
 by_cases e:n=(T.getD k ([],0)).2
 ·rw[if_pos e,e,if_pos hf,fG T k _ hk,h,if_pos rfl];rfl
 ·rw[if_neg e]
  split
  ·rw[fG T k n hk,if_neg (fun h=>e h.symm),Option.or_none]
  ·rfl
theorem th (hk:k<T.length) (hf:(ms.getD (T.getD k ([],0)).2 cH).kind=48):ni T (T.getD k ([],0)).2=(T.getD ((leads ms T k (T.getD k ([],0)).2).getD k) ([],0)).1:=by
 have h1:fg (T.take (k+1)) (T.getD k ([],0)).2=some ((leads ms T k (T.getD k ([],0)).2).getD k):=by
  rw[fG T k _ hk,if_pos rfl];unfold leads;rw[if_pos hf]
  cases fg (T.take k) (T.getD k ([],0)).2<;>rfl
 exact zL (xw h1)
theorem K0 (h:leads ms T k n=some f):f<k∧f<T.length:=by
 unfold leads at h;split at h
 ·unfold fg at h
  rw[List.findIdx?_eq_some_iff_getElem]at h;obtain⟨h1,_⟩:=h;rw[Qg]at h1;omega
 ·cases h
end Tre
namespace Tre
open Go.ChangeShapes Go.WideShapes Go.ChangeAt Go.RowKit Base bJ cn Bk Mk Mem Go.Lib
variable {ms:List av} {S S':St}
theorem tQ {fn:Func} (hf:fn.results=#[.tmp 2,.cell 3 32]) (tmps:Array Value) (w:World) (g:Nat) (v:Value) (ht:tmps.getD 3 undef=.pointer (some ⟨g,0,none⟩)) (hv:tmps.getD 2 undef=v)
 (a b:Int) (hb:ao w g 32 #[.int .i64 a,.int .i64 b]):(results fn tmps).run Tryz.prog w=.ok (.tuple #[v,.agg #[.int .i64 a,.int .i64 b]]) w:=by
 have c0:=hb.cell 0;have c1:=hb.cell 1;simp only[Qc,Qa,Qb]at c0 c1;clear hb;have hl:(loadVar 32 ⟨g,0,none⟩).run Tryz.prog w=.ok (.agg #[.int .i64 a,.int .i64 b]) w:=by go_simp
 have B:tmps[3]?.getD undef=.pointer (some ⟨g,0,none⟩):=by simpa using ht
 have A:tmps[2]?.getD undef=v:=by simpa using hv
 simp only[results,hf];simp[Result.andThen,B,A,asAddr,hl]
theorem om {x y:Value} (h:ao w g 32 #[x,y]) (a b:Value):ao ((w.setCell ⟨g,0,none⟩ a).setCell ⟨g,1,none⟩ b) g 32 #[a,b]:=
 (h.set 0 a (by show 0<2;decide)).set 1 b (by show 1<2;decide)
theorem Lu (S:St) (p:List UInt8) (n:Nat):(jm S p n).length≤S.length+1:=by
 unfold jm;rw[Qf];have:=List.length_filter_le (fun e:List UInt8 × Nat=>!(e.1==p)) S
 simpa using this
structure PZ (ms:List av) (S:St) (k:Nat):Prop where
 len:S.length≤k
 from_:∀e∈S,∃j,j<k∧e.1=(ms.getD j cH).path
theorem PZ.put (h:PZ ms S k) (n:Nat):PZ ms (jm S (ms.getD k cH).path n) (k+1):=by
 refine⟨Nat.le_trans (Lu _ _ _) (Nat.succ_le_succ h.len),fun e he=>?_⟩;unfold jm at he;rw[List.mem_append,List.mem_filter]at he;rcases he with he|he
 ·obtain⟨j,B,A⟩:=h.from_ e he.1
  exact⟨j,by omega,A⟩
 ·rw[List.mem_singleton.1 he]
  exact⟨k,by omega,rfl⟩
theorem PZ.lay (h:PZ ms S k) (hl:jS ms S k=some S'):PZ ms S' (k+1):=by
 unfold jS at hl
 dsimp only at hl
 split at hl
 ·split at hl
  ·cases hl
  ·split at hl
   ·cases hl;exact h.put _
   ·cases hl
 ·cases hl;exact h.put _
theorem zJ (ms:List av):∀k S,eF ms k=.ok S→PZ ms S k
 |0,S,h=>by cases h;exact⟨Qk _,fun e he=>by cases he⟩
 |k+1,S,h=>by
  unfold eF at h;split at h
  ·cases h
  ·next A B=>
   split at h
   ·cases h
   ·next D h1=>cases h;exact(zJ ms k A B).lay h1
theorem tf (h:eF ms k=.ok S) (hl:jS ms S k=some S'):eF ms (k+1)=.ok S':=by
 unfold eF;rw[h]
 dsimp only
 rw[hl]
theorem CP (h:eF ms k=.ok S) (hl:jS ms S k=none):eF ms (k+1)=.error k:=by
 unfold eF;rw[h]
 dsimp only
 rw[hl]
theorem td {ms:List av} {k:Nat} {i:Nat} (h:eF ms k=.error i):∀d,eF ms (k+d)=.error i
 |0=>h
 |d+1=>by
  show eF ms ((k+d)+1)=_;unfold eF;rw[td h d]
theorem GG (h:jw ms=some i):gQ ms=([],1,i):=by
 unfold jw at h;unfold gQ;rw[h]
theorem Cg (h:jw ms=none) (h2:eF ms ms.length=.error i):gQ ms=([],7,i):=by
 unfold jw at h;unfold gQ;rw[h]
 dsimp only
 rw[h2]
theorem zl (h:jw ms=none) (h2:eF ms ms.length=.ok S):gQ ms=(mA ms S,0,0):=by
 unfold jw at h;unfold gQ;rw[h]
 dsimp only
 rw[h2]
end Tre
namespace Mem
open Go.ChangeShapes Go.WideShapes Go.ChangeAt Go.RowKit Base bJ cn Bk Hp Head qd Path Go.Lib
theorem Gr (p q:Option Addr) (n c m d:Nat) (a b:List UInt8) (w:World) (ha:a.length=n) (hb:b.length=m) (h1:cB w p n a) (h2:cB w q m b):
 Calls Tryz.prog 78 #[.slice p n c,.slice q m d] w fun e w'=>e=.returned (.bool (decide (a=b)))∧w=w':=by
 have c1:(convert 26 9 (.slice p n c)).run Tryz.prog w=.ok (.string (str a)) w:=cD h1 ha _ _ _ Tryz.underlying26 Tryz.underlying5 Tryz.underlying9 _;have c2:(convert 26 9 (.slice q m d)).run Tryz.prog w=.ok (.string (str b)) w:=cD h2 hb _ _ _ Tryz.underlying26 Tryz.underlying5 Tryz.underlying9 _
 have A:((str a).toList==(str b).toList)=decide (a=b):=by
  rw[ay,ay]
  by_cases h:a=b<;>simp[h]
 clear h1 h2
 go_enter Tryz.func78,Tryz.ntmps78
 go_wp2;go_ret;exact⟨rfl,rfl⟩
theorem qo (a b c d a' b' c' d':Int) (n:Nat) (w:World):(Op.equalIn (n+1+1) 46 (.agg #[.int .i64 a,.int .i64 b,.int .i64 c,.int .i64 d]) (.agg #[.int .i64 a',.int .i64 b',.int .i64 c',.int .i64 d'])).run Tryz.prog w=.ok (decide (a=a'∧b=b'∧c=c'∧d=d')) w:=by
 have A:Tryz.prog.underlying 46=some (.struct (Tryz.prog.fieldsOf 46)):=by kernel_rfl
 have B:Tryz.prog.stoodInHeld 46=false:=by kernel_rfl
 rw[run_equalIn_agg (P:=Tryz.prog) w (n+1) 46 _ _ A B];clear A B;simp only[Program.fieldsOf,Tryz.underlying46]
 go_simp
 by_cases D:a=a'<;>by_cases E:b=b'<;>by_cases G:c=c'<;>by_cases H:d=d'<;>simp[D,E,G,H]
theorem Qn (a b c d a' b' c' d':Int) (w:World):(binOp .eql 46 (.agg #[.int .i64 a,.int .i64 b,.int .i64 c,.int .i64 d]) (.agg #[.int .i64 a',.int .i64 b',.int .i64 c',.int .i64 d'])).run Tryz.prog w=.ok (.bool (decide (a=a'∧b=b'∧c=c'∧d=d'))) w:=by
 rw[run_eql_struct,show(10000:Nat)=9998+1+1 from rfl,qo];rfl
end Mem
namespace Tre
open Go.ChangeShapes Go.WideShapes Go.ChangeAt Go.RowKit Base bJ cn Bk Mem Go.Lib
theorem Ht {t:TypeId} {a b:Int} {q:Option Addr} {zs:List NP} (hb:ao w g t #[.int .i64 a,.int .i64 b]) (h:aY w q n zs) (hk:Kept (aA g) w w'):aY w' q n zs:=by
 have E:∀{i:Nat} {v:Value},w.cell? ⟨g,i,none⟩=some v→v=.int .i64 a∨v=.int .i64 b:=fun {i v} hv=>by
  rw[hb.cell]at hv
  match i,hv with
  |0,hv=>cases hv;exact .inl rfl
  |1,hv=>cases hv;exact .inr rfl
 refine⟨h.1,fun y hy=>(h.2.1 y hy).kept hk (fun B z J H=>?_),fun B=>?_⟩
 ·obtain⟨A,o,he,_,hc⟩:=(h.2.1 y hy).gZ.cell B
  rw[J]at he
  cases he
  have e:A=g:=H;have c0:=hc 0 B;rw[e]at c0;rcases E c0 with h|h<;>cases h
 ·obtain⟨A,o,he,G,hc⟩:=h.2.2 B
  refine⟨A,o,he,Nat.lt_of_lt_of_le G hk.size,fun i hi j I=>?_⟩
  have D:A≠g:=fun e=>by
   have c0:=hc 0 B 0 (by omega);rw[e]at c0;rcases E c0 with h|h<;>cases h
  rw[World.cell?_of_block (hk.block A G (fun h=>D h))];exact hc i hi j I
theorem Yx (a b:List UInt8):((str a).toList==(str b).toList)=decide (a=b):=by
 rw[ay,ay]
 by_cases h:a=b<;>simp[h]
end Tre
namespace Wr
open Go.ChangeShapes Go.WideShapes Go.ChangeAt Go.RowKit Base bJ cn Bk Hp Head Rec Attr Mem Block Go.Lib
theorem LQ (w:World) (B:Nat):rA (w.alloc (.cells #[.slice none 0 0] 105)) w.heap.size B (.slice none 0 0) []:=
 ⟨ao.new w _ _,World.ownsRow_nil _ _ _ _⟩
def vd (w:World) (bs:List UInt8) (e:Ending) (w':World):Prop:=∃v,e=.returned (.tuple #[v,.int .i64 0])∧eR w' w.heap.size v bs.length bs∧Below w.heap.size w w'
end Wr
namespace Mem
open Go.ChangeShapes Go.WideShapes Go.ChangeAt Go.RowKit Go.Shelf Base bJ cn Bk Hp Head Go.Proofs.YtdhibldkldlfpaaGreatDoor.Mp Block Go.Lib
structure Ln where
 v1:Value
 vp:Value
 v2:Value
structure WE (w:World) (B bm:Nat) (M:Array Value) (v0:Value) (X Y P:List UInt8) (w1:World) (γ:Ln) (listed:Array Bool) (w':World):Prop where
 bel:Below w.heap.size w w'
 le:w1.heap.size≤w'.heap.size
 mem:ao w' bm 48 M
 YN:listed.getD 2 false=false→∀b o,cB w1 (some ⟨b,o,none⟩) 512 Y→(∀k,v0.ownBlock=some k→k≠b)→cB w' (some ⟨b,o,none⟩) 512 Y
 o0:listed.getD 2 false=false→eR w' B v0 X.length X
 o1:listed.getD 2 false=true→listed.getD 6 false=false→eR w' B γ.v1 (X++Y).length (X++Y)
 pd:listed.getD 5 false=true→listed.getD 6 false=false→eR w' w1.heap.size γ.vp P.length P
 fin:listed.getD 6 false=true→eR w' B γ.v2 ((X++Y)++P).length ((X++Y)++P)
 c6:listed.getD 6 false=true→listed.getD 2 false=true∧listed.getD 5 false=true
theorem WE.cI {w1:World} {bm:Nat} {v0:Value} {X Y P:List UInt8} {γ:Ln} {listed:Array Bool} (hW:WE w B bm M v0 X Y P w1 γ listed w') {j:Nat} (ax:j<listed.size) (hj:j≠2∧j≠5∧j≠6):WE w B bm M v0 X Y P w1 γ (listed.setIfInBounds j true) w':=by
 have A:(listed.setIfInBounds j true).getD 2 false=listed.getD 2 false:=by rw[ai ax,if_neg (by omega)]
 have E:(listed.setIfInBounds j true).getD 5 false=listed.getD 5 false:=by rw[ai ax,if_neg (by omega)]
 have D:(listed.setIfInBounds j true).getD 6 false=listed.getD 6 false:=by rw[ai ax,if_neg (by omega)]
 exact⟨hW.bel,hW.le,hW.mem,by rw[A];exact hW.YN,by rw[A];exact hW.o0,by rw[A,D];exact hW.o1,by rw[E,D];exact hW.pd,by rw[D];exact hW.fin,by rw[A,E,D];exact hW.c6⟩
end Mem
namespace Mem
open Go.ChangeShapes Go.WideShapes Go.ChangeAt Go.RowKit Base bJ cn Bk Hp Head qd Path Block Rec Attr Go.Proofs.YtdhibldkldlfpaaGreatDoor.Mp Go.Lib
variable {wx wy:World} {h:ak}
structure PM (w:World) (M:Array Value) (wx:World) (h:ak):Prop where
 bel:Below w.heap.size w wx
 mem:ao wx w.heap.size 48 M
 hd:ao wx (w.heap.size+1) 66 (aa h)
theorem PM.below (hm:PM w M wx h) (hb:Below wx.heap.size wx wy):PM w M wy h:=
 ⟨hm.bel.trans (hb.mono hm.bel.size),hm.mem.below hb hm.mem.lt,hm.hd.below hb hm.hd.lt⟩
theorem PM.kept (hm:PM w M wx h) (hk:Kept ag wx wy):PM w M wy h:=hm.below (hk.below (Qk _) (fun _ h=>h.elim))
end Mem
namespace Mem
open Go.ChangeShapes Go.WideShapes Go.ChangeAt Go.RowKit Base bJ cn Bk Hp Head qd Path Block Rec Go.Lib
theorem Lq {m:av} (h:dh m):(fU m).length≤3000000:=by
 have D:=(j4 m.body.length).2;have hl:=(j4 (aN (aO m)).length).2;have E:=ke h;have G:=h.body;obtain⟨H,_,A,_,(⟨_,e⟩|⟨X,_,B,_,e⟩)⟩:=kj h
 ·rw[e,Qf,bB,A];omega
 ·rw[e,Qf,Qf,Qf,bB,bB,A,B];omega
theorem qI:∀(ms:List av),(∀m∈ms,dh m)→(cw ms).length≤ms.length*3000000
 |[],_=>Nat.zero_le _
 |m::ms,h=>by
  rw[fN,Qf,List.length_cons];have h1:=Lq (h m (List.mem_cons_self ..));have B:=qI ms (fun x A=>h x (List.mem_cons_of_mem _ A));omega
end Mem
namespace Wr
open Go.ChangeShapes Go.WideShapes Go.ChangeAt Go.RowKit Base bJ cn Bk Hp Head Rec Attr Mem Block Go.Lib
variable {xs:List MP}
def Fit (xs:List MP):Prop:=∀x∈xs,x.m.path.length≤1000000000000∧x.m.target.length≤1000000000000
def Ga (xs:List MP):Bool:=xs.all fun x=>bC x.m
theorem se:Ga xs=true↔∀x∈xs,bC x.m=true:=by simp[Ga]
theorem AJ (xs:List MP) (k:Nat) (h:k<xs.length):xs.take (k+1)=xs.take k++[xs.getD k bP]:=by
 rw[List.take_succ_eq_append_getElem h,List.getD,Qd h];rfl
theorem lX (m:av) (p:Option Addr) (c:Nat) (w:World) (h1:m.path.length≤1000000000000) (h2:m.target.length≤1000000000000) (hN:Need w):
 Calls Tryz.prog 51 #[.agg (cO m p c)] w fun e w'=>e=.returned (.bool (!bC m))∧Below w.heap.size w w':=by
 obtain⟨W0,D⟩:∃W0,w.alloc (.cells (cO m p c) 48)=W0:=⟨_,rfl⟩
 have B:Below w.heap.size w W0:=by rw[←D];exact(Below.refl _ _).alloc (Qk _) _
 have A:=lU m p c W0 (by omega) (by omega) (hN.below B).yr;obtain⟨r,I⟩:∃r,bC m=r:=⟨_,rfl⟩
 rw[I]at A⊢;have J:=Qh B;have G:=Qh D;have E:=Qh A;unfold cO at G E⊢;clear B D A I
 go_enter Tryz.func51,Tryz.ntmps51
 go_wp2_with fail
 rw[G.out];refine E.out.mono ?_;rintro e M ⟨rfl,H⟩;have L:=Qh (J.out.trans (H.mono J.out.size));clear H;go_wp2;go_ret;exact⟨rfl,L.out⟩
def M3 (xs:List MP) (w:World) (e:Ending) (w':World):Prop:=∃k:Int,e=.returned (.int .i64 k)∧decide (0≤k)=!Ga xs∧Below w.heap.size w w'
theorem pI (p:Option Addr) (n c:Nat) (xs:List MP) (w:World) (h:dr w p n xs) (hn:n≤100000) (hF:Fit xs) (hN:Need w):
 Calls Tryz.prog 57 #[.slice p n c,.func (.func 51) #[] #[]] w (M3 xs w):=by
 have W:=Qh h;have O:=Qh h.1;have V:=Qh hF;have X:=Qh hN;clear h hF hN
 go_enter Tryz.func57,Tryz.ntmps57
 go_wp2_with fail
 go_loopw [5,8] (fun _ i wr=>∃(j:Nat),j≤n∧i=.int .i64 (j:Int)∧Hid (∀x∈xs.take j,bC x.m=true)∧Hid (Below w.heap.size w wr)) (fun _ i _=>n - (RowKit.intOf i).toNat)
 case atStart=>exact⟨0,Nat.zero_le _,rfl,Qh (by simp),Qh (Below.refl _ _)⟩
 case round=>
  obtain⟨j,g,rfl,hA,A⟩:=hrel
  by_cases T:j<n
  ·have I:j<xs.length:=by rw[O.out];exact T
   have H:=lL xs j I;have L:=AJ xs j I;have G:=V.out _ H;obtain⟨b,o,rfl,d,U,c0,c1,c2,c3,c4,c5,c6,c7⟩:=(W.out.below A.out).cells T;obtain⟨y,hy⟩:∃y,xs.getD j bP=y:=⟨_,rfl⟩
   rw[hy]at L H G U c0 c1 c2 c3 c4 c5 c6 c7;rw[Nat.mul_comm]at c0 c1 c2 c3 c4 c5 c6 c7;have D:=lX y.m y.p y.c wr G.1 G.2 (X.out.below A.out);unfold cO at D;obtain⟨r,M⟩:∃r,bC y.m=r:=⟨_,rfl⟩
   rw[M]at D;have Y:=Qh L;have R:=Qh M;have Z:=Qh H;have N:=Qh D;have l:(j:Int)<(n:Int):=by omega
   clear L d hy D M H I G U
   cases r with
   |true=>
    go_wp2_with fail
    refine N.out.mono ?_;rintro e f ⟨rfl,B⟩;have J:=Qh (A.out.trans (B.mono A.out.size));clear B c0 c1 c2 c3 c4 c5 c6 c7;go_wp2;go_roundw
    case rel=>exact⟨j+1,by omega,by go_num,Qh (fun x hx=>by
     rw[Y.out,List.mem_append]at hx;rcases hx with hx|hx
     ·exact hA.out x hx
     ·rw[List.mem_singleton.1 hx];exact R.out),J⟩
    case measure=>simp[RowKit.intOf];omega
   |false=>
    go_wp2_with fail
    refine N.out.mono ?_;rintro e f ⟨rfl,B⟩;have J:=Qh (A.out.trans (B.mono A.out.size))
    have E:Hid (Ga xs=false):=Qh (by
     rw[Bool.eq_false_iff];intro h;have:=se.1 h _ Z.out;rw[R.out]at this
     cases this)
    clear B c0 c1 c2 c3 c4 c5 c6 c7;go_wp2;go_ret;exact⟨(j:Int),rfl,by rw[E.out];simp,J.out⟩
  ·have q:¬((j:Int)<(n:Int)):=by omega
   have E:Hid (Ga xs=true):=Qh (se.2 (fun x hx=>hA.out x (by rw[List.take_of_length_le (by rw[O.out];omega)];exact hx)));go_wp2;go_ret;exact⟨-1,rfl,by rw[E.out];decide,A.out⟩
theorem iC (p:Option Addr) (n c:Nat) (xs:List MP) (w:World) (h:dr w p n xs) (hn:n≤100000) (hF:Fit xs) (hN:Need w):
 Calls Tryz.prog 50 #[.slice p n c,.func (.func 51) #[] #[]] w fun e w'=>e=.returned (.bool (!Ga xs))∧Below w.heap.size w w':=by
 have D:=Qh (pI p n c xs w h hn hF hN);clear h hF hN
 go_enter Tryz.func50,Tryz.ntmps50
 go_wp2_with fail
 refine D.out.mono ?_;rintro e E ⟨k,rfl,hk,A⟩;have B:=Qh A;clear A;go_wp2;go_ret;exact⟨by first|rw[hk]|rfl,B.out⟩
structure uZ (w:World) (g:Nat) (xs:List MP) (j:Nat) (wr:World):Prop where
 qQ:∃v,rA wr g w.heap.size v (cw ((xs.take j).map MP.m))
 bel:Below w.heap.size w wr
theorem uZ.below {wr:World} {j:Nat} (h:uZ w g xs j wr) (hb:Below wr.heap.size wr w'):uZ w g xs j w':=by
 obtain⟨v,A⟩:=h.qQ;exact⟨⟨v,A.kept (Kept.aS hb ag) id (fun _ _=>id)⟩,h.bel.trans (hb.mono h.bel.size)⟩
theorem IU (p:Option Addr) (n c:Nat) (xs:List MP) (w:World) (h:dr w p n xs) (hn:n≤4096) (hA:∀x∈xs,bC x.m=true) (hN:Need w):
 Calls Tryz.prog 23 #[.slice p n c] w (vd w (vm (xs.map MP.m))):=by
 have H:∀x∈xs,dh x.m:=fun x A=>eE (hA x A)
 have Z:=iC p n c xs w h (by omega) (fun x A=>⟨by have:=(H x A).wC;omega,by have:=(H x A).AK;omega⟩) hN;rw[se.2 hA]at Z
 have hlen:∀j,(cw ((xs.take j).map MP.m)).length≤12288000000:=fun j=>by
  have:=qI ((xs.take j).map MP.m) (fun m hm=>by
   obtain⟨x,A,rfl⟩:=List.mem_map.1 hm
   exact H x (List.mem_of_mem_take A))
  rw[Qi,Qg]at this;have h1:=h.1;omega
 have hm:¬(4096:Int)<(n:Int):=by omega
 have HC:=Qh Z;have z:=Qh h;have u:=Qh h.1;have PF:=Qh H;have lf:=Qh hlen;have HN:=Qh hN;clear h hA hN Z H hlen
 go_enter Tryz.func23,Tryz.ntmps23
 go_wp2_with fail
 refine HC.out.mono ?_;rintro e E ⟨rfl,cf⟩;have X:=Qh cf;clear cf;go_wp2_with fail;obtain⟨w2,L⟩:∃w2,E.alloc (.cells #[.slice none 0 0] 105)=w2:=⟨_,rfl⟩
 have vL:rA w2 E.heap.size w.heap.size (.slice none 0 0) []:=by rw[←L];exact LQ E _
 have Ty:Below E.heap.size E w2:=by rw[←L];exact(Below.refl _ _).alloc (Qk _) _
 have Sz:Hid (uZ w E.heap.size xs 0 w2):=Qh ⟨⟨_,by simpa [cw]using vL⟩,X.out.trans (Ty.mono X.out.size)⟩;have l:Hid (w.heap.size≤E.heap.size):=Qh X.out.size;obtain⟨g,hg⟩:∃g,E.heap.size=g:=⟨_,rfl⟩
 rw[hg]at Sz l⊢;rw[L];clear vL Ty L hg
 go_loopw [6,15] (fun _ i wr=>∃(j:Nat),j≤n∧i=.int .i64 (j:Int)∧Hid (uZ w g xs j wr)) (fun _ i _=>n - (RowKit.intOf i).toNat)
 case atStart=>exact⟨0,Nat.zero_le _,rfl,Sz⟩
 case round=>
  obtain⟨j,hj,rfl,G⟩:=hrel
  by_cases V:j<n
  ·have M:j<xs.length:=by rw[u.out];exact V
   have R:=PF.out _ (lL xs j M);have d:=ug xs j M;obtain⟨b,o,rfl,hb,q,c0,c1,c2,c3,c4,c5,c6,c7⟩:=(z.out.below G.out.bel).cells V
   have t:∀x,0<(xs.getD j bP).m.body.length→(xs.getD j bP).p=some x→x.block<w.heap.size:=fun x Y A=>by
    obtain⟨b',o',he,j0,_⟩:=(z.out.cells V).choose_spec.choose_spec.2.2.1.gZ.cell Y;rw[A]at he
    cases he
    exact j0
   obtain⟨y,hy⟩:∃y,xs.getD j bP=y:=⟨_,rfl⟩
   rw[hy]at d R q c0 c1 c2 c3 c4 c5 c6 c7 t;rw[Nat.mul_comm]at c0 c1 c2 c3 c4 c5 c6 c7;obtain⟨W,f⟩:∃W,wr.alloc (.cells #[.string (str y.m.path),.string (str y.m.target),.int .u8 (y.m.kind.toNat:Int),.int .i64 y.m.mode,.int .i64 y.m.uid,.int .i64 y.m.gid,.int .i64 y.m.time,.slice y.p y.m.body.length y.c] 48)=W:=⟨_,rfl⟩
   have U:Below wr.heap.size wr W:=by rw[←f];exact(Below.refl _ _).alloc (Qk _) _
   have I:=G.out.below U;obtain⟨v,D⟩:=I.qQ
   have T:=xQ W g w.heap.size v _ D I.bel.size y.m y.p y.c R (q.gZ.below U) (fun Y x A e=>by
    have h1:=t x Y A;have h2:=(D.own.lt _ e).1
    omega) (by have:=lf.out j;omega) (HN.out.below I.bel)
   unfold cO at T;have RN:=Qh T;have HT:=Qh d;have B:=Qh f;have YX:=Qh I;have N:=Qh D;have kK:(j:Int)<(n:Int):=by omega
   clear d hb hy T M f U I D t q R;go_upto_region 9 with fail;rw[B.out];have m0:W.cell? ⟨wr.heap.size,0,none⟩=some (.string (str y.m.path)):=by rw[←B.out];exact(ao.new wr _ _).cell 0
   have m1:W.cell? ⟨wr.heap.size,1,none⟩=some (.string (str y.m.target)):=by rw[←B.out];exact(ao.new wr _ _).cell 1
   have m2:W.cell? ⟨wr.heap.size,2,none⟩=some (.int .u8 (y.m.kind.toNat:Int)):=by rw[←B.out];exact(ao.new wr _ _).cell 2
   have m3:W.cell? ⟨wr.heap.size,3,none⟩=some (.int .i64 y.m.mode):=by rw[←B.out];exact(ao.new wr _ _).cell 3
   have m4:W.cell? ⟨wr.heap.size,4,none⟩=some (.int .i64 y.m.uid):=by rw[←B.out];exact(ao.new wr _ _).cell 4
   have m5:W.cell? ⟨wr.heap.size,5,none⟩=some (.int .i64 y.m.gid):=by rw[←B.out];exact(ao.new wr _ _).cell 5
   have m6:W.cell? ⟨wr.heap.size,6,none⟩=some (.int .i64 y.m.time):=by rw[←B.out];exact(ao.new wr _ _).cell 6
   have m7:W.cell? ⟨wr.heap.size,7,none⟩=some (.slice y.p y.m.body.length y.c):=by rw[←B.out];exact(ao.new wr _ _).cell 7
   go_wp2_with fail
   refine RN.out.mono ?_;rintro e w3 ⟨v3,rfl,uG,dw,Mx⟩
   have D5:Hid (uZ w g xs (j+1) w3):=Qh ⟨⟨v3,by
    have e:cw ((xs.take (j+1)).map MP.m)=cw ((xs.take j).map MP.m)++fU y.m:=by
     rw[HT.out,Al,fN];simp[cw]
    rw[e]
    exact uG⟩,YX.out.bel.trans (dw.below YX.out.bel.size (fun k hk=>by
     rcases hk with hk|hk
     ·rw[hk];exact l.out
     ·exact(N.out.own.lt _ hk).1))⟩
   clear uG dw Mx m0 m1 m2 m3 m4 m5 m6 m7 c0 c1 c2 c3 c4 c5 c6 c7;go_wp2;go_roundw
   case rel=>exact⟨j+1,by omega,by go_num,D5⟩
   case measure=>simp[RowKit.intOf];omega
  ·have ng:¬((j:Int)<(n:Int)):=by omega
   have e:xs.take j=xs:=List.take_of_length_le (by rw[u.out];omega);obtain⟨v,D⟩:=G.out.qQ;have hl:=lf.out j;rw[e]at D hl;have HE:=Qh (xu wr g w.heap.size v _ D G.out.bel.size (by omega));have N:=Qh D;have Jk:=Qh hl;clear D hl e;go_wp2_with fail;refine HE.out.mono ?_;rintro e w4 ⟨v4,rfl,O,kI,_⟩;rw[←lF]at O
   have r:Hid (Below w.heap.size w w4):=Qh (G.out.bel.trans (kI.below G.out.bel.size (fun k hk=>by
    rcases hk with hk|hk
    ·rw[hk];exact l.out
    ·exact(N.out.own.lt _ hk).1)))
   have HO:=Qh (N9 w4 g w.heap.size v4 _ O (by rw[lF,Qf,List.length_replicate];have:=Jk.out;omega));clear O kI;go_wp2_with fail;refine HO.out.mono ?_;rintro e w5 ⟨v5,rfl,J,ig⟩;have AW:Hid (eR w5 w.heap.size v5 (vm (xs.map MP.m)).length (vm (xs.map MP.m))∧Below w.heap.size w w5):=Qh ⟨J.mono r.out.size,r.out.trans (ig.below r.out.size (fun _ h=>h.elim))⟩;clear J ig;go_wp2;go_ret2;exact⟨v5,rfl,AW.out⟩
end Wr
namespace Attr
open Go.ChangeShapes Go.WideShapes Go.ChangeAt Go.RowKit Go.Shelf Base bJ cn Rec Bk Go.Lib
attribute [local go_sem] Oper.semAt_some
abbrev P1:=Nat × (List UInt8 × List UInt8)
def encI (x:P1):Array Value:=#[.int .i64 (x.1:Int),.agg #[.string (str x.2.1),.string (str x.2.2)]]
def cM (rs:ca) (m:Nat):List P1:=(List.range m).map fun t=>(rs.length - 1 - t,rs.getD (rs.length - 1 - t) ([],[]))
theorem yU (rs:ca) (m:Nat):cM rs (m+1)=cM rs m++[(rs.length - 1 - m,rs.getD (rs.length - 1 - m) ([],[]))]:=by simp[cM,List.range_succ]
theorem uy (rs:ca) (m:Nat):(cM rs m).length=m:=by simp[cM]
theorem sg (rs:ca):(cM rs rs.length).map (·.2)=rs.reverse:=by
 apply List.ext_getElem
 ·simp[cM]
 ·intro i h1 A
  have hi:i<rs.length:=by simpa using A
  simp[cM,List.getD,show rs.length - 1 - i<rs.length by omega]
theorem BO (rs:ca) (m:Nat) (hm:m≤rs.length):cM rs m<+:cM rs rs.length:=by
 refine⟨(cM rs rs.length).drop m,?_⟩
 have:cM rs m=(cM rs rs.length).take m:=by
  simp[cM,←List.map_take,List.take_range,Nat.min_eq_left hm]
 rw[this,List.take_append_drop]
theorem Na (F:Fence) (n:Nat) (hF:F=Fence.wide) (hn:1≤n) (l Bs n₀:Nat) (p:Option Addr) (c:Nat) (rs:ca) (CB:rs.length≤4611686018427387904) (J Jx:List P1→World→Prop)
 (hY:∀pre x W,J pre W→pre.length<rs.length→YieldAt F (n - 1) Tryz.prog l (encI x) W fun e W'=>
  (e=.returned (.bool true)∧J (pre++[x]) W'∧Below n₀ W W')∨(e=.returned (.bool false)∧Jx (pre++[x]) W'))
 (W:World) (Qw:Bs<n₀) (Vg:W.cell? ⟨Bs,0,none⟩=some (.slice p rs.length c))
 (hR:0<rs.length→∃b o,p=some ⟨b,o,none⟩∧b<n₀∧∀i,i<rs.length→W.cell? ⟨b,o+2*i,none⟩=some (.string (str (rs.getD i ([],[])).1))∧W.cell? ⟨b,o+2*i+1,none⟩=some (.string (str (rs.getD i ([],[])).2))) (h0:J [] W):
 CallsIn F n Tryz.prog 229 #[.func (.yield l) #[] #[],.pointer (some ⟨Bs,0,none⟩)] W fun e W'=>(∃v,e=.returned v)∧
  ((∃ys,ys=cM rs rs.length∧J ys W')∨(∃pre,pre<+:cM rs rs.length∧Jx pre W')):=by
 subst hF;obtain⟨N,H⟩:∃N,rs.length=N:=⟨_,rfl⟩
 rw[H]at Vg CB;refine callsIn_of_wp Tryz.func229 rfl trivial ?_ rfl;simp only[Tryz.ntmps229,List.size_toArray,List.length_cons,List.length_nil,Nat.reduceAdd,Nat.reduceSub,Array.replicate_succ,Array.replicate_zero,List.push_toArray,List.append_toArray,List.nil_append,List.cons_append]
 gi_wp2
 gi_loopw [3] (fun i wr=>∃k:Nat,k≤N∧i=.int .i64 ((k:Int) - 1)∧J (cM rs (N - k)) wr∧Below n₀ W wr)
  (fun i _=>(RowKit.intOf i+1).toNat)
 case atStart=>exact⟨N,Qk _,rfl,by rw[Nat.sub_self];exact h0,Below.refl _ _⟩
 case round=>
  obtain⟨k,hk,rfl,B,A⟩:=hrel
  cases k with
  |zero=>
   have D:J (cM rs rs.length) wr:=by rw[H];exact B
   clear B hY
   gi_wp2
   go_end0
   exact⟨⟨_,rfl⟩,.inl ⟨_,rfl,D⟩⟩
  |succ j=>
   rw[show(((j+1:Nat):Int) - 1)=(j:Int) by omega];obtain⟨b,o,rfl,I,hc⟩:=hR (by omega);obtain⟨c0,c1⟩:=hc j (by omega);have V:=(A.cell (p:=⟨Bs,0,none⟩) Qw).trans Vg;have d0:=(A.cell (p:=⟨b,o+2*j,none⟩) I).trans c0;have d1:=(A.cell (p:=⟨b,o+2*j+1,none⟩) I).trans c1;rw[Nat.mul_comm]at d0 d1;obtain⟨r,E⟩:∃r,rs.getD j ([],[])=r:=⟨_,rfl⟩
   rw[E]at d0 d1
   have hs:cM rs (N - j)=cM rs (N - (j+1))++[(j,r)]:=by
    have:N - j=N - (j+1)+1:=by omega
    rw[this,yU,show rs.length - 1 - (N - (j+1))=j by omega,E]
   obtain⟨fn,tmps,assign,body,hy,G⟩:=hY (cM rs (N - (j+1))) (j,r) wr B (by rw[uy];omega);simp only[encI]at hy;have U:=Qh hs;have L:=BO rs (N - j) (by omega);have M:=Qh L;rw[←hs]at G;clear hs hY hR B c0 c1 hc L Vg E
   gi_wp2
   refine G.mono ?_;rintro e X (⟨rfl,R,T⟩|⟨rfl,O⟩)
   ·gi_wp2
    go_roundw
    case rel=>exact⟨j,by omega,rfl,R,A.trans T⟩
    case measure=>simp[RowKit.intOf]
   ·gi_wp2
    refine bodyPost_ret (results_none rfl _ _ _) rfl ?_;exact⟨⟨_,rfl⟩,.inr ⟨_,M.out,O⟩⟩
theorem BP (n:Nat) (hn:1≤n) (Bs:Nat) (p:Option Addr) (c:Nat) (rs:ca) (CB:rs.length≤4611686018427387904) (w:World) (Qw:Bs<w.heap.size) (hc:w.cell? ⟨Bs,0,none⟩=some (.slice p rs.length c)) (hR:cd w p rs.length rs):
 SeqStopsK Fence.wide n Tryz.prog 229 #[.pointer (some ⟨Bs,0,none⟩)] encI (Below w.heap.size) (fun ys=>ys=cM rs rs.length) (fun pre=>pre<+:cM rs rs.length) rs.length w:=fun l J E W B _ _ G A=>
 Na Fence.wide n rfl hn l Bs w.heap.size p c rs CB J E G W Qw ((B.cell (p:=⟨Bs,0,none⟩) Qw).trans hc)
  (fun A=>by
   obtain⟨b,o,H,D,hc⟩:=hR.2 A
   exact⟨b,o,H,D,fun i hi=>⟨(B.cell (p:=⟨b,o+2*i,none⟩) D).trans (hc i hi).1,(B.cell (p:=⟨b,o+2*i+1,none⟩) D).trans (hc i hi).2⟩⟩) A
theorem xm (p:Option Addr) (n c:Nat) (w:World):
 Calls Tryz.prog 209 #[.slice p n c] w fun e w'=>e=.returned (.func (.func 229) #[] #[.pointer (some ⟨w.heap.size,0,none⟩)])∧w'=w.alloc (.cells #[.slice p n c] 64):=by
 go_enter Tryz.func209,Tryz.ntmps209
 go_wp2;go_ret;exact⟨rfl,rfl⟩
end Attr
namespace Attr
open Go.ChangeShapes Go.WideShapes Go.ChangeAt Go.RowKit Go.Shelf Base bJ cn Rec Bk Go.Lib
attribute [local go_sem] Oper.semAt_some
def recC (k v:List UInt8):Array Value:=#[.string (str k),.string (str v)]
def oK (rs:ca) (k:List UInt8):Value:=match aH rs k with
 |some v=>.tuple #[.agg (recC k v),.bool true]
 |none=>.tuple #[.agg (recC [] []),.bool false]
theorem G6 {rs pre:ca} {x:List UInt8 × List UInt8} {rest:ca} {k:List UInt8} (h:rs.reverse=pre++x::rest) (hp:∀r∈pre,r.1≠k) (hx:x.1=k):aH rs k=some x.2:=by
 have e:rs=rest.reverse++x::pre.reverse:=by
  have:=congrArg List.reverse h;rw[List.reverse_reverse,List.reverse_append,List.reverse_cons,List.append_assoc]at this;exact this
 rw[e,mO,aH,sZ (rs:=pre.reverse) fun r A=>hp r (List.mem_reverse.1 A)];simp[hx]
theorem Fj (tmps:Array Value) (w:World) (b0 b1:Nat) (a b:ByteArray) (o:Bool) (h0:tmps[4]? =some (.pointer (some ⟨b0,0,none⟩))) (h1:tmps[5]? =some (.pointer (some ⟨b1,0,none⟩)))
 (c0:ao w b0 121 #[.string a,.string b]) (c1:ao w b1 4 #[.bool o]):
 (results Tryz.f182 tmps).run Tryz.prog w=.ok (.tuple #[.agg #[.string a,.string b],.bool o]) w:=by
 have d0:=c0.cell 0;have d1:=c0.cell 1;have d2:=c1.cell 0;simp at d0 d1 d2;simp[results,Tryz.f182,go_sem,h0,h1,d0,d1,d2]
theorem KT (k:List UInt8) (p:Option Addr) (n c:Nat) (rs:ca) (w:World) (hn:n≤4611686018427387904) (h:cd w p n rs):
 Calls Tryz.prog 182 #[.string (str k),.slice p n c] w fun e w'=>e=.returned (oK rs k)∧Below w.heap.size w w':=by
 obtain rfl:rs.length=n:=h.1;have H:=Qh h;clear h;refine(callsIn_wide (n:=3)).1 ?_;refine callsIn_of_wp_marks Tryz.func182 rfl trivial ?_ rfl;simp only[Tryz.ntmps182,List.size_toArray,List.length_cons,List.length_nil,Nat.reduceAdd,Nat.reduceSub,Array.replicate_succ,Array.replicate_zero,List.push_toArray,List.append_toArray,List.nil_append,List.cons_append]
 gi_wp2_with fail
 refine⟨trivial,(callsIn_wide.2 (xm _ _ _ _)).mono ?_⟩;rintro e w' ⟨rfl,rfl⟩
 gi_wp2_with fail
 have g:ao _ w.heap.size 9 #[.string (str k)]:=(((ao.new w 9 #[.string (str k)]).alloc (.cells #[.string ⟨#[]⟩,.string ⟨#[]⟩] 121)).alloc (.cells #[.bool false] 4)).alloc (.cells #[.slice p rs.length c] 64);have Z:=((ao.new (w.alloc (.cells #[.string (str k)] 9)) 121 #[.string ⟨#[]⟩,.string ⟨#[]⟩]).alloc (.cells #[.bool false] 4)).alloc (.cells #[.slice p rs.length c] 64);have V:=(ao.new ((w.alloc (.cells #[.string (str k)] 9)).alloc (.cells #[.string ⟨#[]⟩,.string ⟨#[]⟩] 121)) 4 #[.bool false]).alloc (.cells #[.slice p rs.length c] 64);have b:=ao.new (((w.alloc (.cells #[.string (str k)] 9)).alloc (.cells #[.string ⟨#[]⟩,.string ⟨#[]⟩] 121)).alloc (.cells #[.bool false] 4)) 64 #[.slice p rs.length c]
 have o:Below w.heap.size w ((((w.alloc (.cells #[.string (str k)] 9)).alloc (.cells #[.string ⟨#[]⟩,.string ⟨#[]⟩] 121)).alloc (.cells #[.bool false] 4)).alloc (.cells #[.slice p rs.length c] 64)):=
  ((((Below.refl _ w).alloc (Qk _) _).alloc (by simp) _).alloc (by simp;omega) _).alloc (by simp;omega) _
 have m:((((w.alloc (.cells #[.string (str k)] 9)).alloc (.cells #[.string ⟨#[]⟩,.string ⟨#[]⟩] 121)).alloc (.cells #[.bool false] 4)).alloc (.cells #[.slice p rs.length c] 64)).heap.size=w.heap.size+4:=by simp
 simp only[World.size_alloc]at Z V b;obtain⟨W0,sI⟩:∃W0,(((w.alloc (.cells #[.string (str k)] 9)).alloc (.cells #[.string ⟨#[]⟩,.string ⟨#[]⟩] 121)).alloc (.cells #[.bool false] 4)).alloc (.cells #[.slice p rs.length c] 64)=W0:=⟨_,rfl⟩
 rw[sI]at g Z V b o m⊢;clear sI;have u:=Qh m;have im:=Qh o;have q:=H.out.below o
 refine wpIn_rangeFunc_ownH rfl (by omega) (gf:=229) (lb:=#[.pointer (some ⟨w.heap.size+1+1+1,0,none⟩)]) rfl trivial (enters_of Tryz.func229 (by kernel_rfl) rfl)
  (BP _ (by omega) (w.heap.size+1+1+1) p c rs hn W0 (by omega) (b.cell 0) q) belowK_t (belowK_b (Qk _)) (Below.refl _ _) (fun _=>rfl)
  (fun pre W=>(ao W w.heap.size 9 #[.string (str k)]∧ao W (w.heap.size+1) 121 #[.string ⟨#[]⟩,.string ⟨#[]⟩]∧ao W (w.heap.size+1+1) 4 #[.bool false]∧∀x∈pre,x.2.1≠k)∧Below W0.heap.size W0 W)
  (fun c pre W=>(c=.ret∧∃f x,pre=f++[x]∧(∀y∈f,y.2.1≠k)∧x.2.1=k∧ao W (w.heap.size+1) 121 #[.string (str x.2.1),.string (str x.2.2)]∧ao W (w.heap.size+1+1) 4 #[.bool true])∧Below w.heap.size w W)
  (OwnFrom.and (Own.from (fun s A B row hs R M=>⟨hs.1.kept R M,hs.2.1.kept R M,hs.2.2.1.kept R M,hs.2.2.2⟩) _) (ownFrom_below (Qk _) (Qk _)))
  (fun c=>OwnFrom.and (Own.from (fun s A B row hs R M=>by obtain⟨h0,f,x,h1,d,h3,h4,h5⟩:=hs;exact⟨h0,f,x,h1,d,h3,h4.kept R M,h5.kept R M⟩) _) (ownFrom_below (Qk _) (by omega)))
  ⟨⟨g,Z,V,by simp⟩,Below.refl _ _⟩
  (fun x a' W=>∃U,W0.heap.size≤U∧ao W U 121 #[.string (str x.2.1),.string (str x.2.2)]∧a'={tmps:=#[.string (str k),.slice p rs.length c,.pointer (some ⟨w.heap.size,0,none⟩),undef,.pointer (some ⟨w.heap.size+1,0,none⟩),.pointer (some ⟨w.heap.size+1+1,0,none⟩),undef,.pointer (some ⟨U,0,none⟩),.slice p rs.length c,.func (.func 229) #[] #[.pointer (some ⟨w.heap.size+1+1+1,0,none⟩)],.int .i64 (x.1:Int),.agg #[.string (str x.2.1),.string (str x.2.2)],undef,undef,undef,undef,undef,undef],defers:=[]})
  (fun x a' _ X Y row hs R M=>by obtain⟨U,h1,d,h3⟩:=hs;exact⟨U,h1,d.kept R (fun r e=>(M r e).2),h3⟩)
  ?assign ?body ?done ?stop
 case assign=>
  rintro l pre x W K ⟨⟨L,E,G,J⟩,I⟩ O;have hs:=I.size;have HKP:=Qh O;have N:=Qh (And.intro (And.intro L (And.intro E (And.intro G J))) I);clear O L E G J I;simp only[encI]
  gi_wp2
  obtain⟨⟨L,E,G,J⟩,I⟩:=N.out;exact HKP.out _ _ ((KeepsOthers.alloc _ _).from _) ((Below.refl _ W).alloc hs _) ⟨⟨L.alloc _,E.alloc _,G.alloc _,J⟩,I.alloc hs _⟩ ⟨W.heap.size,hs,ao.new _ _ _,rfl⟩
 case body=>
  rintro l pre x a' W hl M ⟨⟨L,E,G,J⟩,I⟩ ⟨U,hBx,t,rfl⟩ ax;have hs:=I.size;have c0:=L.cell 0;have d0:=t.cell 0;have d1:=t.cell 1;simp only[Qc,Qa,Qb]at c0 d0 d1
  by_cases hk:x.2.1=k
  ·have e1:((str x.2.1).toList==(str k).toList)=true:=by rw[ay,ay];simpa using hk
   have f0:=E.frozen 0;have f1:=E.frozen 1;have r0:=E.cell 0;have r1:=E.cell 1;have f2:=G.frozen 0;have r2:=G.cell 0;simp only[Qc,Qa,Qb]at r0 r1 r2;have N:=Qh (And.intro (And.intro L (And.intro E (And.intro G J))) I);have T:=Qh hk;clear hk L E G J I t q g Z V b o
   gi_wp2
   obtain⟨⟨L,E,G,J⟩,I⟩:=N.out;have Ka:Below w.heap.size w W:=im.out.trans (I.mono (by have:=u.out;omega))
   exact⟨(((KeepsOthers.setCell _ _ _).trans (KeepsOthers.setCell _ _ _)).trans (KeepsOthers.setCell _ _ _)).from _,
    ⟨rfl,pre,x,rfl,J,T.out,((E.set 0 _ (by decide)).set 1 _ (by simp)).other (by omega) _,((G.other (by omega) _).other (by omega) _).set 0 _ (by decide)⟩,
    ((Ka.setCell (p:=⟨w.heap.size+1,0,none⟩) (by simp) _).setCell (p:=⟨w.heap.size+1,1,none⟩) (by simp) _).setCell (p:=⟨w.heap.size+1+1,0,none⟩) (by simp;omega) _⟩
  ·have e1:((str x.2.1).toList==(str k).toList)=false:=by rw[ay,ay];simpa using hk
   have N:=Qh (And.intro (And.intro L (And.intro E (And.intro G J))) I);have T:=Qh hk;clear hk L E G J I t q g Z V b o
   gi_wp2
   obtain⟨⟨L,E,G,J⟩,I⟩:=N.out
   exact⟨KeepsFrom.refl _ _,Below.refl _ _,⟨L,E,G,fun y hy=>by
    rcases List.mem_append.1 hy with hy|hy
    ·exact J y hy
    ·rw[List.mem_singleton.1 hy];exact T.out⟩,I⟩
 case done=>
  rintro D ys W hD rfl ⟨⟨L,E,G,J⟩,I⟩ O;have f0:=E.frozen 0;have f1:=E.frozen 1;have r0:=E.cell 0;have r1:=E.cell 1;have f2:=G.frozen 0;have r2:=G.cell 0;simp only[Qc,Qa,Qb]at r0 r1 r2;have N:=Qh (And.intro (And.intro L (And.intro E (And.intro G J))) I);have T:=Qh O;clear O L E G J I q g Z V b
  gi_wp2
  obtain⟨⟨L,E,G,J⟩,I⟩:=N.out;have Ka:Below w.heap.size w W:=im.out.trans (I.mono (by have:=u.out;omega));have hK':=(((KeepsOthers.setCell W ⟨w.heap.size+1,0,none⟩ (.string ⟨#[]⟩)).trans (KeepsOthers.setCell _ ⟨w.heap.size+1,1,none⟩ (.string ⟨#[]⟩))).trans (KeepsOthers.setCell _ ⟨w.heap.size+1+1,0,none⟩ (.bool false))).same D _ T.out rfl;refine⟨by simp,.inl ⟨_,_,rfl,run_takeDeferred hK',?_⟩⟩;have k0:=(((E.set 0 (.string ⟨#[]⟩) (by decide)).set 1 (.string ⟨#[]⟩) (by decide)).other (b':=w.heap.size+1+1) (i:=0) (by omega) (.bool false)).kept (grownBy_putObj' _ D (.deferred none)) (fun r e=>by cases e;exact⟨_,hK',rfl⟩);have k1:=(((G.other (b':=w.heap.size+1) (i:=0) (by omega) (.string ⟨#[]⟩)).other (b':=w.heap.size+1) (i:=1) (by omega) (.string ⟨#[]⟩)).set 0 (.bool false) (by decide)).kept (grownBy_putObj' _ D (.deferred none)) (fun r e=>by cases e;exact⟨_,hK',rfl⟩)
  have hv:oK rs k=.tuple #[.agg #[.string ⟨#[]⟩,.string ⟨#[]⟩],.bool false]:=by
   unfold oK;rw[sZ fun r M=>?_]
   ·rfl
   ·have:r∈(cM rs rs.length).map (·.2):=by rw[sg];exact List.mem_reverse.2 M
    obtain⟨y,hy,rfl⟩:=List.mem_map.1 this;exact J y hy
  rw[hv]
  exact⟨_,Fj _ _ (w.heap.size+1) (w.heap.size+1+1) ⟨#[]⟩ ⟨#[]⟩ false rfl rfl k0 k1,rfl,
   (((Ka.setCell (p:=⟨w.heap.size+1,0,none⟩) (by simp) _).setCell (p:=⟨w.heap.size+1,1,none⟩) (by simp) _).setCell (p:=⟨w.heap.size+1+1,0,none⟩) (by simp;omega) _).trans (belowK_b (w:=w) (Qk _) _ D _ _ (by have:=u.out;omega) hK' rfl rfl)⟩
 case stop=>
  rintro D c pre W hD QY ⟨⟨rfl,f,x,rfl,h1,d,E,G⟩,z⟩ O;have N:=Qh (And.intro E (And.intro G z));have T:=Qh O;clear E G z O
  gi_wp2
  obtain⟨E,G,z⟩:=N.out;have hK':=T.out;refine⟨by simp,.inl ⟨_,_,rfl,run_takeDeferred hK',?_⟩⟩;have k0:=E.kept (grownBy_putObj' _ D (.deferred none)) (fun r e=>by cases e;exact⟨_,hK',rfl⟩);have k1:=G.kept (grownBy_putObj' _ D (.deferred none)) (fun r e=>by cases e;exact⟨_,hK',rfl⟩)
  have hv:oK rs k=.tuple #[.agg #[.string (str x.2.1),.string (str x.2.2)],.bool true]:=by
   obtain⟨rest,lP⟩:=QY;have e:=sg rs;rw[←lP,List.map_append,List.map_append,List.map_singleton,List.append_assoc,List.singleton_append]at e;unfold oK;rw[G6 e.symm (fun r M=>by obtain⟨y,hy,rfl⟩:=List.mem_map.1 M;exact h1 y hy) d,←d];rfl
  rw[hv];exact⟨_,Fj _ _ (w.heap.size+1) (w.heap.size+1+1) _ _ true rfl rfl k0 k1,rfl,z.trans (belowK_b (w:=w) (Qk _) _ D _ _ (by have:=u.out;omega) hK' rfl rfl)⟩
end Attr
namespace Attr
open Go.ChangeShapes Go.WideShapes Go.ChangeAt Go.RowKit Go.Shelf Base bJ cn Rec Bk Mk Go.Lib
variable {S:Nat→Prop} {rs:ca}
abbrev rV:=List UInt8→Option (List UInt8)
def Av (F:rV):List UInt8→Option Value:=fun k=>(F k).map fun v=>.agg (recC k v)
def St (w:World) (g:Nat) (mb:Option Nat) (F:rV):Prop:=
 ao w g 128 #[.map mb]∧(mb=none→F=oR)∧∀B,mb=some B→cF ik w B (Av F)
def OL (w:World) (p:Option Addr) (F:rV):Prop:=(p=none∧F=oR)∨∃g mb,p=some ⟨g,0,none⟩∧St w g mb F
def uT (g:Nat) (mb:Option Nat):Nat→Prop:=fun k=>k=g∨mb=some k
section
variable {w w':World} {g:Nat} {mb:Option Nat} {F:rV} {p:Option Addr}
theorem St.lt (h:St w g mb F):g<w.heap.size:=h.1.lt
theorem St.dI (h:St w g mb F) (hB:mb=some B):B<w.heap.size:=(h.2.2 B hB).lt
theorem St.kept (h:St w g mb F) (hk:Kept S w w') (hn:∀k,uT g mb k→¬S k):St w' g mb F:=
 ⟨h.1.bW hk (hn g (.inl rfl)),h.2.1,fun B A=>(h.2.2 B A).kept hk (hn B (.inr A))⟩
theorem St.below (h:St w g mb F) (hb:Below w.heap.size w w'):St w' g mb F:=h.kept (Kept.aS hb ag) (fun _ _=>id)
theorem OL.below (h:OL w p F) (hb:Below w.heap.size w w'):OL w' p F:=h.imp id fun⟨g,mb,hp,hs⟩=>⟨g,mb,hp,hs.below hb⟩
theorem St.new (w:World):St (w.alloc (.cells #[.map none] 128)) w.heap.size none oR:=⟨ao.new w _ _,fun _=>rfl,fun _ h=>by cases h⟩
theorem St.ptr (h:St w g mb F):OL w (some ⟨g,0,none⟩) F:=.inr ⟨g,mb,rfl,h⟩
theorem OL.nil (w:World):OL w none oR:=.inl ⟨rfl,rfl⟩
theorem o6 {p:Option Addr} (h:St w g mb F) (hr:cd w p n rs) (h0:0<n) {a:Addr} (ha:p=some a):¬uT g mb a.block:=by
 obtain⟨b,o,rfl,A,hc⟩:=hr.2 h0
 cases ha
 have c0:=(hc 0 h0).1;rintro(e|e)
 ·subst e
  rw[h.1.cell]at c0;rcases Nat.eq_zero_or_pos o with rfl|ho
  ·simp at c0
  ·rw[Array.getElem?_eq_none (by simp;omega)]at c0;cases c0
 ·obtain⟨es,clock,hm,_⟩:=h.2.2 _ e
  simp[World.cell?,hm]at c0
theorem dn {p:Option Addr} (hr:cd w p n rs) (hk:Kept S w w') (hn:0<n→∀a,p=some a→¬S a.block):cd w' p n rs:=by
 refine⟨hr.1,fun A=>?_⟩;obtain⟨b,o,rfl,B,hc⟩:=hr.2 A;have e:=hk.block b B (hn A _ rfl);exact⟨b,o,rfl,Nat.lt_of_lt_of_le B hk.size,fun i hi=>⟨by rw[World.cell?_of_block e];exact(hc i hi).1,by rw[World.cell?_of_block e];exact(hc i hi).2⟩⟩
theorem Fh (w:World):(zeroValue 121).run Tryz.prog w=.ok (.agg #[.string ⟨#[]⟩,.string ⟨#[]⟩]) w:=Tryz.zeroValue121 w
theorem Lz (w:World) (a b:ByteArray):(Instr.field 121 (.agg #[.string a,.string b]) 1).run Tryz.prog w=.ok (.string b) w:=by
 kernel_rfl
theorem On (h:St w g mb F) (k:List UInt8):
 ∃x:ByteArray,(Instr.lookup 126 (.map mb) (.string (str k)) false).run Tryz.prog w=.ok (.agg #[.string x,.string (str ((F k).getD []))]) w:=by
 cases mb with
 |none=>
  refine⟨⟨#[]⟩,?_⟩;rw[h.2.1 rfl];exact look_nil (K:=ik) Tryz.underlying126 Tryz.underlying9 Fh k w
 |some B=>
  have hl:=(h.2.2 B rfl).look Tryz.underlying126 Tryz.underlying9 Fh k
  cases hf:F k with
  |none=>
   refine⟨⟨#[]⟩,?_⟩;rw[show Av F k=none by unfold Av;rw[hf];rfl]at hl;exact hl
  |some v=>
   refine⟨str k,?_⟩;rw[show Av F k=some (.agg (recC k v)) by unfold Av;rw[hf];rfl]at hl;exact hl
end
theorem IQ (s:Option Addr) (F:rV) (k:List UInt8) (p:Option Addr) (n c:Nat) (rs:ca) (w:World) (hs:OL w s F) (hn:n≤4611686018427387904) (h:cd w p n rs):
 Calls Tryz.prog 144 #[.pointer s,.string (str k),.slice p n c] w fun e w'=>e=.returned (.string (str (eb F rs k)))∧Below w.heap.size w w':=by
 have hl:=KT k p n c rs w hn h;have H:=Qh hs;clear hs h hn;unfold eb
 cases D:aH rs k with
 |some v=>
  rw[show oK rs k=.tuple #[.agg #[.string (str k),.string (str v)],.bool true] by unfold oK;rw[D];rfl]at hl;clear D
  go_enter Tryz.func144,Tryz.ntmps144
  go_wp2_with fail
  refine hl.mono ?_;rintro e G ⟨rfl,A⟩;have B:=Qh A;clear A hl;go_wp2;go_ret;exact⟨rfl,B.out.alloc B.out.size _⟩
 |none=>
  rw[show oK rs k=.tuple #[.agg #[.string ⟨#[]⟩,.string ⟨#[]⟩],.bool false] by unfold oK;rw[D];rfl]at hl;clear D;rcases H.out with⟨rfl,rfl⟩|⟨g,mb,rfl,mN⟩
  ·go_enter Tryz.func144,Tryz.ntmps144
   go_wp2_with fail
   refine hl.mono ?_;rintro e G ⟨rfl,A⟩;have B:=Qh A;clear A hl;go_wp2;go_ret;exact⟨rfl,B.out.alloc B.out.size _⟩
  ·have J:=Qh mN
   clear mN
   go_enter Tryz.func144,Tryz.ntmps144
   go_wp2_with fail
   refine hl.mono ?_;rintro e G ⟨rfl,A⟩;have E:=J.out.below (A.alloc A.size (.cells #[.string ⟨#[]⟩,.string ⟨#[]⟩] 121));obtain⟨a,L⟩:=On E k;have c0:=E.1.cell 0;simp only[Qc,Qa]at c0;have B:=Qh A;have I:=fun w=>Lz w a (str ((F k).getD []))
   clear A hl E;go_wp2;go_ret;exact⟨rfl,B.out.alloc B.out.size _⟩
def nV (w:World) (g:Nat) (mb:Option Nat) (F:rV) (rs:ca) (e:Ending) (w':World):Prop:=
 e=.returned (.tuple #[])∧∃B,St w' g (some B) (fM F rs)∧Kept (uT g mb) w w'∧(mb=some B∨w.heap.size≤B)
theorem wF (F:rV) (rs:ca) (k v:List UInt8):(fun y=>if y=k then some (Value.agg (recC k v))else Av (fM F rs) y)=Av (fM F (rs++[(k,v)])):=by
 funext y
 rw[Da];unfold Av
 by_cases h:y=k
 ·subst h;simp
 ·simp[h]
theorem take_one (rs:ca) (j:Nat) (hj:j<rs.length):rs.take (j+1)=rs.take j++[rs.getD j ([],[])]:=by
 rw[List.take_add_one];simp[List.getD,hj]
theorem St.ne {w:World} {g:Nat} {F:rV} (h:St w g (some B) F):¬aA B g:=fun e=>by
 obtain⟨es,clock,hm,_⟩:=h.2.2 B rfl;have e:g=B:=e;have h1:=h.1;unfold ao at h1;rw[e,hm]at h1
 cases h1
theorem Ck (g B:Nat) (F:rV) (p:Option Addr) (n c:Nat) (rs:ca) (w:World) (hs:St w g (some B) F) (hn:n≤4611686018427387904) (h:cd w p n rs):
 Calls Tryz.prog 111 #[.pointer (some ⟨g,0,none⟩),.slice p n c] w (nV w g (some B) F rs):=by
 have l:=Qh hs;have f:=Qh h;have O:=Qh h.1;have c0:=hs.1.cell 0;simp only[Qc,Qa]at c0;have Z:Hid (∀wr,Kept (uT g (some B)) w wr→Kept (uT g (some B)) w wr):=Qh (fun _ h=>h);have q:Hid (some B=some B∨w.heap.size≤B):=Qh (.inl rfl);clear hs h;have T:=fun w=>run_eql_map_nil (P:=Tryz.prog) w 126 _ _ (some B) Tryz.underlying126
 simp only[Option.isNone_some]at T
 go_enter Tryz.func111,Tryz.ntmps111
 go_wp2_with fail
 clear c0 T
 go_loopw [19] (fun i wr=>∃(j:Nat),j≤n∧i=.int .i64 (j:Int)∧Hid (St wr g (some B) (fM F (rs.take j))∧cd wr p n rs∧Kept (uT g (some B)) w wr)) (fun i _=>n - (RowKit.intOf i).toNat)
 case atStart=>exact⟨0,Nat.zero_le _,rfl,Qh ⟨by rw[List.take_zero,vS];exact l.out,f.out,Kept.refl _ _⟩⟩
 case round=>
  obtain⟨j,hj,rfl,A⟩:=hrel
  by_cases U:j<n
  ·obtain⟨G,E,hk⟩:=A.out
   have z:(j:Int)<(n:Int):=by omega
   obtain⟨b,o,rfl,y,hc⟩:=E.2 (by omega);obtain⟨x0,N⟩:=hc j U;obtain⟨⟨D,H⟩,J⟩:∃u,rs.getD j ([],[])=u:=⟨_,rfl⟩
   rw[J,Nat.mul_comm]at x0 N;simp only at x0 N;have M:=G.below ((Below.refl _ wr).alloc (Qk _) (.cells #[.string (str D),.string (str H)] 121));have R:=E.below ((Below.refl _ wr).alloc (Qk _) (.cells #[.string (str D),.string (str H)] 121));have V:=hk.alloc (.cells #[.string (str D),.string (str H)] 121);have d0:=M.1.cell 0;simp only[Qc,Qa]at d0;obtain⟨r0,r1⟩:=su wr 121 (.string (str D)) (.string (str H));have I:=Qh (And.intro M (And.intro R V));have m:=Qh J;clear G E hk y hc J M R V A;go_wp2_with fail;obtain⟨w4,X⟩:∃w4,wr.alloc (.cells #[.string (str D),.string (str H)] 121)=w4:=⟨_,rfl⟩
   rw[X]at d0 I r0 r1⊢;clear X x0 N
   go_still_tail 7,(by kernel_rfl)
   refine cQ (K:=ik) rfl (.tmp 26) (.tmp 28) (.tmp 29) rfl Tryz.underlying126 Tryz.underlying9 B ((I.out.1.2.2 B rfl).kept (Kept.refl ag w4).drew id) rfl D rfl (.agg (recC D H)) rfl ?_;intro w5 Y W qy
   have d:Hid (St w5 g (some B) (fM F (rs.take (j+1)))∧cd w5 (some ⟨b,o,none⟩) n rs∧Kept (uT g (some B)) w w5):=by
    obtain⟨G,E,hk⟩:=I.out;have L:Kept (aA B) w4 w5:=((Kept.refl (aA B) w4).drew).trans W.out;refine Qh ⟨⟨G.1.bW L G.ne,(fun h=>by cases h),fun B' h=>?_⟩,dn E L (fun r a t e=>o6 G E r t (.inr (by rw[show a.block=B from e]))),hk.then L (fun i hi=>.inr (.inr (by rw[show i=B from hi])))⟩
    cases h
    rw[take_one rs j (by rw[O.out];exact U),m.out,←wF];exact Y.out
   clear Y W qy;go_wp2;go_roundw
   case rel=>exact⟨j+1,by omega,by go_num,d⟩
   case measure=>simp[RowKit.intOf];omega
  ·obtain rfl:j=n:=by omega
   have z:¬((j:Int)<(j:Int)):=by omega
   go_wp2
   go_end0
   have A:=A.out;rw[List.take_of_length_le (by rw[O.out];exact Qk _)]at A;exact⟨rfl,B,A.1,Z.out _ A.2.2,by first|exact q.out|exact .inl rfl⟩
theorem zn (g:Nat) (p:Option Addr) (n c:Nat) (rs:ca) (w:World) (hs:St w g none oR) (hn:n≤4611686018427387904) (h:cd w p n rs):
 Calls Tryz.prog 111 #[.pointer (some ⟨g,0,none⟩),.slice p n c] w (nV w g none oR rs):=by
 have c0:=hs.1.cell 0;simp only[Qc,Qa]at c0;have f0:=hs.1.frozen 0;have f1:=(hs.1.alloc (.map #[] 0)).frozen 0;have c1:=(hs.1.alloc (.map #[] 0)).cell 0;simp only[Qc,Qa]at c1;have Cx:=@run_makeMap Tryz.prog;have m:=fun w=>run_eql_map_nil (P:=Tryz.prog) w 126 _ _ none Tryz.underlying126
 simp only[Option.isNone_none]at m;have TQ:g<w.heap.size:=hs.lt;obtain⟨F,hF⟩:∃F,F=oR:=⟨_,rfl⟩
 have M:Kept (uT g none) w ((w.alloc (.map #[] 0)).setCell ⟨g,0,none⟩ (.map (some w.heap.size))):=((Kept.refl (uT g none) w).alloc _).setCell (a:=⟨g,0,none⟩) (.inr (.inl rfl)) _;have q:=dn h M (fun O a R=>o6 hs h O R)
 have J:St ((w.alloc (.map #[] 0)).setCell ⟨g,0,none⟩ (.map (some w.heap.size))) g (some w.heap.size) F:=by
  refine⟨(hs.1.alloc (.map #[] 0)).set 0 _ (by decide),(fun h=>by cases h),fun B' I=>?_⟩
  cases I
  have hm:=(iR ik w).kept (((Kept.refl (aA g) (w.alloc (.map #[] 0)))).setCell (a:=⟨g,0,none⟩) (.inr rfl) (.map (some w.heap.size))) (fun e=>by have:w.heap.size=g:=e;omega);rw[hF];exact hm
 have Y:Hid (∀wr,Kept (uT g (some w.heap.size)) ((w.alloc (.map #[] 0)).setCell ⟨g,0,none⟩ (.map (some w.heap.size))) wr→Kept (uT g none) w wr):=Qh (fun wr h=>M.then h (fun i hi=>by
  rcases hi with hi|hi
  ·exact .inr (.inl hi)
  ·cases hi;exact .inl (Qk _)))
 have N:Hid ((none:Option Nat)=some w.heap.size∨w.heap.size≤w.heap.size):=Qh (.inr (Qk _));have Z:=Qh h.1;have f:=Qh J;have d:=Qh q;rw[←hF];clear J q M h hs TQ hF
 go_enter Tryz.func111,Tryz.ntmps111
 go_wp2_with fail
 obtain⟨W0,V⟩:∃W0,(w.alloc (.map #[] 0)).setCell ⟨g,0,none⟩ (.map (some w.heap.size))=W0:=⟨_,rfl⟩
 obtain⟨B,I⟩:∃B,w.heap.size=B:=⟨_,rfl⟩
 rw[V,I]at f Y;rw[V]at d⊢;rw[I];clear N;have N:Hid ((none:Option Nat)=some B∨w.heap.size≤B):=Qh (.inr (by omega));clear c0 f0 c1 f1 m Cx V I
 go_loopw [19] (fun i wr=>∃(j:Nat),j≤n∧i=.int .i64 (j:Int)∧Hid (St wr g (some B) (fM F (rs.take j))∧cd wr p n rs∧Kept (uT g (some B)) W0 wr)) (fun i _=>n - (RowKit.intOf i).toNat)
 case atStart=>exact⟨0,Nat.zero_le _,rfl,Qh ⟨by rw[List.take_zero,vS];exact f.out,d.out,Kept.refl _ _⟩⟩
 case round=>
  obtain⟨j,hj,rfl,A⟩:=hrel
  by_cases r:j<n
  ·obtain⟨G,E,hk⟩:=A.out
   have kK:(j:Int)<(n:Int):=by omega
   obtain⟨b,o,rfl,hb,hc⟩:=E.2 (by omega);obtain⟨x0,X⟩:=hc j r;obtain⟨⟨D,H⟩,T⟩:∃u,rs.getD j ([],[])=u:=⟨_,rfl⟩
   rw[T,Nat.mul_comm]at x0 X;simp only at x0 X;have W:=G.below ((Below.refl _ wr).alloc (Qk _) (.cells #[.string (str D),.string (str H)] 121));have l:=E.below ((Below.refl _ wr).alloc (Qk _) (.cells #[.string (str D),.string (str H)] 121));have t:=hk.alloc (.cells #[.string (str D),.string (str H)] 121);have d0:=W.1.cell 0;simp only[Qc,Qa]at d0;obtain⟨r0,r1⟩:=su wr 121 (.string (str D)) (.string (str H));have L:=Qh (And.intro W (And.intro l t));have Wk:=Qh T;clear G E hk hb hc T W l t A;go_wp2_with fail;obtain⟨w4,z⟩:∃w4,wr.alloc (.cells #[.string (str D),.string (str H)] 121)=w4:=⟨_,rfl⟩
   rw[z]at d0 L r0 r1⊢;clear z x0 X
   go_still_tail 7,(by kernel_rfl)
   refine cQ (K:=ik) rfl (.tmp 26) (.tmp 28) (.tmp 29) rfl Tryz.underlying126 Tryz.underlying9 B ((L.out.1.2.2 B rfl).kept (Kept.refl ag w4).drew id) rfl D rfl (.agg (recC D H)) rfl ?_;intro w5 vK y qy
   have HN:Hid (St w5 g (some B) (fM F (rs.take (j+1)))∧cd w5 (some ⟨b,o,none⟩) n rs∧Kept (uT g (some B)) W0 w5):=by
    obtain⟨G,E,hk⟩:=L.out;have U:Kept (aA B) w4 w5:=((Kept.refl (aA B) w4).drew).trans y.out;refine Qh ⟨⟨G.1.bW U G.ne,(fun h=>by cases h),fun B' h=>?_⟩,dn E U (fun O a R e=>o6 G E O R (.inr (by rw[show a.block=B from e]))),hk.then U (fun i hi=>.inr (.inr (by rw[show i=B from hi])))⟩
    cases h
    rw[take_one rs j (by rw[Z.out];exact r),Wk.out,←wF];exact vK.out
   clear vK y qy;go_wp2;go_roundw
   case rel=>exact⟨j+1,by omega,by go_num,HN⟩
   case measure=>simp[RowKit.intOf];omega
  ·obtain rfl:j=n:=by omega
   have kK:¬((j:Int)<(j:Int)):=by omega
   go_wp2
   go_end0
   have A:=A.out;rw[List.take_of_length_le (by rw[Z.out];exact Qk _)]at A;exact⟨rfl,B,A.1,Y.out _ A.2.2,by first|exact N.out|exact .inl rfl⟩
theorem Cj (g:Nat) (mb:Option Nat) (F:rV) (p:Option Addr) (n c:Nat) (rs:ca) (w:World) (hs:St w g mb F) (hn:n≤4611686018427387904) (h:cd w p n rs):
 Calls Tryz.prog 111 #[.pointer (some ⟨g,0,none⟩),.slice p n c] w (nV w g mb F rs):=by
 cases mb with
 |some B=>exact Ck g B F p n c rs w hs hn h
 |none=>
  obtain rfl:=hs.2.1 rfl;exact zn g p n c rs w hs hn h
end Attr
namespace Mem
open Go.ChangeShapes Go.WideShapes Go.ChangeAt Go.RowKit Base bJ cn Bk Mk Block Attr Rec Go.Lib
variable {y:Addr} {m:Nat} {v':Value} {rs:ca}
structure RK where
 r:Nat
 g:Nat
 gs:Nat
 mw:Nat
 S:Sv
def bY (s:RS) (q:Option Addr) (n c:Nat):UInt8→Option Value:=fun k=>
 if k=120 then(if s.eC=true then some (.agg #[.string ⟨#[]⟩,.slice q n c])else none)
 else if k=76 then s.name.map (fun t=>.agg #[.string (str t),.slice none 0 0])
 else if k=75 then s.link.map (fun t=>.agg #[.string (str t),.slice none 0 0])
 else none
def Fg (K:RK) (v:Value):Array Value:=#[.pointer (some ⟨K.g,0,none⟩),.pointer (some ⟨K.gs,0,none⟩),.map (some K.mw),v]
def Ot (K:RK) (mb:Option Nat) (v:Value):Nat→Prop:=fun k=>k=K.r∨k=K.gs∨k=K.mw∨mb=some k∨v.ownBlock=some k
structure Rd (w0 w:World) (K:RK) (a:Nat) (s:RS) (mb:Option Nat) (v:Value) (xs:List MP) (q:Option Addr) (n c:Nat):Prop where
 bel:Below w0.heap.size w0 w
 ei:ao w K.r 91 (Fg K v)
 src:∃t,Block.Src w K.g K.S a t
 off:K.S.off K.g
 st:St w K.gs mb (aH s.cU)
 map:cF MD w K.mw (bY s q n c)
 own:cd w q n s.own
 oV:s.eC=false→s.own=[]
 row:w.ownsRow w0.heap.size 48 8 v xs.length (fH xs)
 out:xs.map MP.m=s.out
 bodies:∀x∈xs,dq w x
 apart:∀x∈xs,0<x.m.body.length→∀y,x.p=some y→¬Ot K mb v y.block∧y.block≠K.g
 sp:0<K.S.n→∀y,K.S.p=some y→¬Ot K mb v y.block
 sq:0<K.S.m→∀y,K.S.q=some y→¬Ot K mb v y.block
 ne:K.r≠K.g∧K.r≠K.gs∧K.r≠K.mw∧K.g≠K.gs∧K.g≠K.mw∧K.gs≠K.mw
 uN:∀b,mb=some b→b≠K.r∧b≠K.g∧b≠K.gs∧b≠K.mw∧w0.heap.size≤b
 rM:∀b,v.ownBlock=some b→b≠K.r∧b≠K.g∧b≠K.gs∧b≠K.mw∧mb≠some b
 base:w0.heap.size≤K.r∧w0.heap.size≤K.g∧w0.heap.size≤K.gs∧w0.heap.size≤K.mw
 many:s.out.length≤4096
 gl:∀r∈s.cU,r.2.length≤1048576
 ol:(∀r∈s.own,r.2.length≤1048576)∧s.own.length≤1048576
 nl:∀t,s.name=some t→t.length≤1048576
 ll:∀t,s.link=some t→t.length≤1048576
section
variable {w0 w w':World} {K:RK} {a:Nat} {s:RS} {mb:Option Nat} {v:Value} {xs:List MP} {q:Option Addr} {n c:Nat}
theorem xN {zs:List Int} (h:Fx w p m zs) (h0:0<m) (hy:p=some y):y.block<w.heap.size:=by
 obtain⟨b,o,he,A,hc⟩:=h h0;rw[hy]at he
 cases he
 exact A
theorem ym {t:TypeId} {cs:Array Value} (hb:ao w b t cs) (hs:∀(i:Nat) (x:ByteArray),cs[i]? ≠some (.string x)) (hr:cd w p m rs) (h0:0<m) (hy:p=some y):y.block≠b:=by
 obtain⟨B,o,rfl,A,hc⟩:=hr.2 h0
 cases hy
 rintro rfl;have c0:=(hc 0 h0).1;rw[hb.cell]at c0;exact hs _ _ c0
theorem yn {Ky:ie α} {f:α→Option Value} (hm:cF Ky w b f) (hr:cd w p m rs) (h0:0<m) (hy:p=some y):y.block≠b:=by
 obtain⟨B,o,rfl,A,hc⟩:=hr.2 h0
 cases hy
 rintro rfl;obtain⟨es,clock,hm,_⟩:=hm;have c0:=(hc 0 h0).1;simp[World.cell?,hm]at c0
theorem Rd.Ad (h:Rd w0 w K a s mb v xs q n c):0<n→∀y,q=some y→¬aA K.g y.block:=fun A y hy e=>by
 obtain⟨t,hs⟩:=h.src;refine ym (show ao w K.g 132 _ from hs.ei) ?_ h.own A hy e;intro i x B;rcases i with _|_|_|_|i<;>simp at B
theorem Rd.Dl (h:Rd w0 w K a s mb v xs q n c):0<n→∀y,q=some y→¬uT K.gs mb y.block:=fun A y hy e=>o6 h.st h.own A hy e
theorem Rd.Hr (h:Rd w0 w K a s mb v xs q n c) (hN:Need w0):Need w:=hN.below h.bel
theorem Rd.idle (h:Rd w0 w K a s mb v xs q n c) (hk:Kept ag w w'):Rd w0 w' K a s mb v xs q n c where
 bel:=h.bel.trans (hk.below h.bel.size (fun k hk=>hk.elim))
 ei:=h.ei.bW hk id
 src:=by obtain⟨t,hs⟩:=h.src;exact⟨t,hs.cJ hk⟩
 off:=h.off
 st:=h.st.kept hk (fun _ _=>id)
 map:=h.map.kept hk id
 own:=dn h.own hk (fun _ _ _=>id)
 oV:=h.oV
 row:=bN h.row hk (fun _ _=>id)
 out:=h.out
 bodies:=fun x A=>(h.bodies x A).kept hk (fun _ _ _=>id)
 apart:=h.apart
 sp:=h.sp
 sq:=h.sq
 ne:=h.ne
 uN:=h.uN
 rM:=h.rM
 base:=h.base
 many:=h.many
 gl:=h.gl
 ol:=h.ol
 nl:=h.nl
 ll:=h.ll
theorem Rd.below (h:Rd w0 w K a s mb v xs q n c) (hb:Below w.heap.size w w'):Rd w0 w' K a s mb v xs q n c:=h.idle (Kept.aS hb ag)
theorem Rd.fu (h:Rd w0 w K a s mb v xs q n c) {a':Nat} (hk:Kept (aA K.g) w w') (hs:∃t,Block.Src w' K.g K.S a' t):Rd w0 w' K a' s mb v xs q n c where
 bel:=h.bel.trans (hk.below h.bel.size (fun k hk=>by rw[show k=K.g from hk];exact h.base.2.1))
 ei:=h.ei.bW hk h.ne.1
 src:=hs
 off:=h.off
 st:=h.st.kept hk (fun k hk e=>by
  rcases hk with rfl|hk
  ·exact h.ne.2.2.2.1 (show K.gs=K.g from e).symm
  ·exact(h.uN k hk).2.1 e)
 map:=h.map.kept hk (fun e=>h.ne.2.2.2.2.1 (show K.mw=K.g from e).symm)
 own:=dn h.own hk h.Ad
 oV:=h.oV
 row:=bN h.row hk (fun k hk e=>(h.rM k hk).2.1 e)
 out:=h.out
 bodies:=fun x A=>(h.bodies x A).kept hk (fun B y hy e=>(h.apart x A B y hy).2 e)
 apart:=h.apart
 sp:=h.sp
 sq:=h.sq
 ne:=h.ne
 uN:=h.uN
 rM:=h.rM
 base:=h.base
 many:=h.many
 gl:=h.gl
 ol:=h.ol
 nl:=h.nl
 ll:=h.ll
theorem Rd.waits (h:Rd w0 w K a s mb v xs q n c) {s':RS} {q':Option Addr} {n' c':Nat} (hk:Kept (aA K.mw) w w') (hm:cF MD w' K.mw (bY s' q' n' c')) (ho:cd w q' n' s'.own)
 (h1:s'.out=s.out) (h2:s'.cU=s.cU) (h3:s'.eC=false→s'.own=[]) (h4:(∀r∈s'.own,r.2.length≤1048576)∧s'.own.length≤1048576)
 (h5:∀t,s'.name=some t→t.length≤1048576) (h6:∀t,s'.link=some t→t.length≤1048576):Rd w0 w' K a s' mb v xs q' n' c' where
 bel:=h.bel.trans (hk.below h.bel.size (fun k hk=>by rw[show k=K.mw from hk];exact h.base.2.2.2))
 ei:=h.ei.bW hk h.ne.2.2.1
 src:=by
  obtain⟨t,hs⟩:=h.src;exact⟨t,hs.kept hk h.ne.2.2.2.2.1 (fun A y hy e=>h.sp A y hy (.inr (.inr (.inl e)))) (fun A y hy e=>h.sq A y hy (.inr (.inr (.inl e))))⟩
 off:=h.off
 st:=by
  rw[h2];refine h.st.kept hk (fun k hk e=>?_);rcases hk with rfl|hk
  ·exact h.ne.2.2.2.2.2 e
  ·exact(h.uN k hk).2.2.2.1 e
 map:=hm
 own:=dn ho hk (fun A y hy e=>yn h.map ho A hy e)
 oV:=h3
 row:=bN h.row hk (fun k hk e=>(h.rM k hk).2.2.2.1 e)
 out:=by rw[h1];exact h.out
 bodies:=fun x B=>(h.bodies x B).kept hk (fun A y hy e=>(h.apart x B A y hy).1 (.inr (.inr (.inl e))))
 apart:=h.apart
 sp:=h.sp
 sq:=h.sq
 ne:=h.ne
 uN:=h.uN
 rM:=h.rM
 base:=h.base
 many:=by rw[h1];exact h.many
 gl:=by rw[h2];exact h.gl
 ol:=h4
 nl:=h5
 ll:=h6
theorem Rd.Td (h:Rd w0 w K a s mb v xs q n c) (mN:St w' K.gs (some B) (fM (aH s.cU) rs)) (hk:Kept (uT K.gs mb) w w') (hB:mb=some B∨w.heap.size≤B) (hl:∀r∈rs,r.2.length≤1048576):
 Rd w0 w' K a {s with cU:=s.cU++rs} (some B) v xs q n c:=by
 have U:=h.bel.size
 have I:∀k,k<w.heap.size→¬Ot K mb v k→¬Ot K (some B) v k:=fun k O E e=>by
  rcases e with e|e|e|e|e
  ·exact E (.inl e)
  ·exact E (.inr (.inl e))
  ·exact E (.inr (.inr (.inl e)))
  ·rcases hB with hB|hB
   ·exact E (.inr (.inr (.inr (.inl (hB.trans e)))))
   ·cases e;omega
  ·exact E (.inr (.inr (.inr (.inr e))))
 have H:∀k,uT K.gs mb k→Ot K mb v k:=fun k hk=>by
  rcases hk with rfl|hk
  ·exact .inr (.inl rfl)
  ·exact .inr (.inr (.inr (.inl hk)))
 obtain⟨t,hs⟩:=h.src
 have W:∀k,uT K.gs mb k→w0.heap.size≤k:=fun k hk=>by
  rcases hk with rfl|hk
  ·exact h.base.2.2.1
  ·exact(h.uN k hk).2.2.2.2
 have hr:¬uT K.gs mb K.r:=fun e=>by
  rcases e with e|e
  ·exact h.ne.2.1 e
  ·exact(h.uN _ e).1 rfl
 have T:¬uT K.gs mb K.g:=fun e=>by
  rcases e with e|e
  ·exact h.ne.2.2.2.1 e
  ·exact(h.uN _ e).2.1 rfl
 have J:¬uT K.gs mb K.mw:=fun e=>by
  rcases e with e|e
  ·exact h.ne.2.2.2.2.2 e.symm
  ·exact(h.uN _ e).2.2.2.1 rfl
 have V:∀k,v.ownBlock=some k→¬uT K.gs mb k:=fun k hk e=>by
  rcases e with e|e
  ·exact(h.rM k hk).2.2.1 e
  ·exact(h.rM k hk).2.2.2.2 e
 exact {
  bel:=h.bel.trans (hk.below h.bel.size W)
  ei:=h.ei.bW hk hr
  src:=⟨t,hs.kept hk T (fun A y hy e=>h.sp A y hy (H _ e)) (fun A y hy e=>h.sq A y hy (H _ e))⟩
  off:=h.off
  st:=by rw[←CL];exact mN
  map:=h.map.kept hk J
  own:=dn h.own hk h.Dl
  oV:=h.oV
  row:=bN h.row hk V
  out:=h.out
  bodies:=fun x D=>(h.bodies x D).kept hk (fun A y hy e=>(h.apart x D A y hy).1 (H _ e))
  apart:=fun x D A y hy=>⟨I _ (ku (h.bodies x D).gZ A hy) (h.apart x D A y hy).1,(h.apart x D A y hy).2⟩
  sp:=fun A y hy=>I _ (ku hs.gZ A hy) (h.sp A y hy)
  sq:=fun A y hy=>I _ (xN hs.NJ A hy) (h.sq A y hy)
  ne:=h.ne
  uN:=fun b G=>by
   cases G
   rcases hB with hB|hB
   ·exact h.uN B hB
   ·have h1:=h.ei.lt
    have L:=hs.lt;have M:=h.st.lt;have N:=h.map.lt;exact⟨by omega,by omega,by omega,by omega,by omega⟩
  rM:=fun b G=>by
   obtain⟨h1,L,M,N,R⟩:=h.rM b G;have O:=(h.row.lt b G).2;refine⟨h1,L,M,N,fun e=>?_⟩;rcases hB with hB|hB
   ·exact R (hB.trans e)
   ·cases e;omega
  base:=h.base
  many:=h.many
  gl:=fun r hr=>by
   rcases List.mem_append.1 hr with hr|hr
   ·exact h.gl r hr
   ·exact hl r hr
  ol:=h.ol
  nl:=h.nl
  ll:=h.ll}
theorem Rd.Hk (h:Rd w0 w K a s mb v xs q n c) (hg:w.grownBy w' v.ownBlock):cF MD (w'.setCell ⟨K.r,3,none⟩ v') K.mw (bY s q n c):=
 (h.map.kept ((Kept.refl _ w).grown hg (fun k hk=>.inr hk):Kept (fun k=>v.ownBlock=some k) w w') (fun e=>(h.rM _ e).2.2.2.1 rfl)).kept ((Kept.refl (aA K.r) w').setCell (a:=⟨K.r,3,none⟩) (.inr rfl) v') h.ne.2.2.1.symm
theorem Rd.added (h:Rd w0 w K a s mb v xs q n c) {y:MP} (cN:w'.ownsRow w0.heap.size 48 8 v' (xs++[y]).length (fH (xs++[y]))) (hg:w.grownBy w' v.ownBlock) (Cy:eW w v v')
 (hy:dq w y) (Q7:0<y.m.body.length→∀z,y.p=some z→¬Ot K mb v z.block∧z.block≠K.g) (hm:s.out.length<4096) {w2:World}
 (uE:cF MD w2 K.mw (fun _=>none)) (dw:Kept (aA K.mw) (w'.setCell ⟨K.r,3,none⟩ v') w2):
 Rd w0 w2 K a {s with out:=s.out++[y.m],own:=[],name:=none,link:=none,eC:=false} mb v' (xs++[y]) none 0 0:=by
 have R:Kept (fun k=>v.ownBlock=some k) w w':=(Kept.refl _ w).grown hg (fun k hk=>.inr hk);have T:Kept (aA K.r) w' (w'.setCell ⟨K.r,3,none⟩ v'):=(Kept.refl (aA K.r) w').setCell (a:=⟨K.r,3,none⟩) (.inr rfl) v';have N:Kept (fun k=>k=K.r∨k=K.mw) w' w2:=(T.mono (fun k hk=>.inl hk)).trans (dw.mono (fun k hk=>.inr hk));have hk:Kept (fun k=>v.ownBlock=some k∨k=K.r∨k=K.mw) w w2:=(R.mono (fun k hk=>.inl hk)).trans (N.mono (fun k hk=>.inr hk));have O:∀k,v'.ownBlock=some k→(v.ownBlock=some k∨w.heap.size≤k):=Cy
 have G:∀k,(v.ownBlock=some k∨k=K.r∨k=K.mw)→Ot K mb v k:=fun k hk=>by
  rcases hk with hk|rfl|rfl
  ·exact .inr (.inr (.inr (.inr hk)))
  ·exact .inl rfl
  ·exact .inr (.inr (.inl rfl))
 have H:∀k,k<w.heap.size→¬Ot K mb v k→¬Ot K mb v' k:=fun k U E e=>by
  rcases e with e|e|e|e|e
  ·exact E (.inl e)
  ·exact E (.inr (.inl e))
  ·exact E (.inr (.inr (.inl e)))
  ·exact E (.inr (.inr (.inr (.inl e))))
  ·rcases O k e with e'|e'
   ·exact E (.inr (.inr (.inr (.inr e'))))
   ·omega
 obtain⟨t,hs⟩:=h.src;have h1:=h.ei.lt;have V:=hs.lt;have W:=h.st.lt;have X:=h.map.lt
 have I:∀b,v'.ownBlock=some b→b≠K.r∧b≠K.g∧b≠K.gs∧b≠K.mw∧mb≠some b:=fun b D=>by
  rcases O b D with e|e
  ·exact h.rM b e
  ·exact⟨by omega,by omega,by omega,by omega,fun hm=>by have:=h.st.dI hm;omega⟩
 have M:∀k,k≠K.r→k≠K.mw→(∀b,v.ownBlock=some b→k≠b)→¬(v.ownBlock=some k∨k=K.r∨k=K.mw):=fun k J hw E e=>by
  rcases e with e|e|e
  ·exact E k e rfl
  ·exact J e
  ·exact hw e
 exact {
  bel:=h.bel.trans (hk.below h.bel.size (fun k hk=>by
   rcases hk with hk|rfl|rfl
   ·exact(h.row.lt k hk).1
   ·exact h.base.1
   ·exact h.base.2.2.2))
  ei:=((h.ei.bW R (fun e=>(h.rM _ e).1 rfl)).set 3 v' (by decide:3<4)).bW dw h.ne.2.2.1
  src:=⟨t,hs.kept hk (M _ h.ne.1.symm h.ne.2.2.2.2.1 (fun b D e=>(h.rM b D).2.1 e.symm)) (fun A y hy e=>h.sp A y hy (G _ e)) (fun A y hy e=>h.sq A y hy (G _ e))⟩
  off:=h.off
  st:=h.st.kept hk (fun k hk=>by
   rcases hk with rfl|hk
   ·exact M _ h.ne.2.1.symm h.ne.2.2.2.2.2 (fun b D e=>(h.rM b D).2.2.1 e.symm)
   ·exact M _ (h.uN k hk).1 (h.uN k hk).2.2.2.1 (fun b D e=>(h.rM b D).2.2.2.2 (by rw[←e];exact hk)))
  map:=by
   have:bY {s with out:=s.out++[y.m],own:=[],name:=none,link:=none,eC:=false} none 0 0=fun _=>none:=by
    funext k
    unfold bY;simp
   rw[this];exact uE
  own:=⟨rfl,fun h=>by omega⟩
  oV:=fun _=>rfl
  row:=bN cN N (fun k hk e=>by
   rcases e with e|e
   ·exact(I k hk).1 e
   ·exact(I k hk).2.2.2.1 e)
  out:=by rw[List.map_append,h.out];rfl
  bodies:=fun x hx=>by
   rcases List.mem_append.1 hx with hx|hx
   ·exact(h.bodies x hx).kept hk (fun A y hy e=>(h.apart x hx A y hy).1 (G _ e))
   ·rw[List.mem_singleton]at hx
    subst hx;exact hy.kept hk (fun A z B e=>(Q7 A z B).1 (G _ e))
  apart:=fun x hx A z B=>by
   rcases List.mem_append.1 hx with hx|hx
   ·exact⟨H _ (ku (h.bodies x hx).gZ A B) (h.apart x hx A z B).1,(h.apart x hx A z B).2⟩
   ·rw[List.mem_singleton]at hx
    subst hx;exact⟨H _ (ku hy.gZ A B) (Q7 A z B).1,(Q7 A z B).2⟩
  sp:=fun A y hy=>H _ (ku hs.gZ A hy) (h.sp A y hy)
  sq:=fun A y hy=>H _ (xN hs.NJ A hy) (h.sq A y hy)
  ne:=h.ne
  uN:=h.uN
  rM:=I
  base:=h.base
  many:=by show(s.out++[y.m]).length≤4096;rw[Qf,List.length_singleton];omega
  gl:=h.gl
  ol:=⟨fun r J=>by simp at J,by simp⟩
  nl:=fun t L=>by cases L
  ll:=fun t L=>by cases L}
end
end Mem
end Go.Proofs.YtdhibldkldlfpaaGreatDoor
