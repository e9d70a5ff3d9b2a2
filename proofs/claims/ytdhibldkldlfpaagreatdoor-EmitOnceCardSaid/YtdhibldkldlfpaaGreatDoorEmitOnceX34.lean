/- Merged. -/
import Derived.RangeFuncNested
import Derived.RangeFuncBound
import Derived.Shelf.Abstract
import Derived.Shelf.RegionOpen
import Derived.WalkKit
import Derived.OwnWalkIn
import Derived.LoopNIn
import Derived.LoopIn
import Derived.Test.YtdhibldkldlfpaaGreatDoorEmitOnceX33
import Derived.Test.YtdhibldkldlfpaaGreatDoorEmitOnceX23
import Derived.Test.YtdhibldkldlfpaaGreatDoorEmitOnceX29
namespace Go.Proofs.YtdhibldkldlfpaaGreatDoor
set_option linter.unusedVariables false
set_option maxHeartbeats 4000000
set_option maxRecDepth 100000
variable {M:Array Value} {B b g i k n:Nat} {p:Option Addr} {α:Type} {W w W' w':World}
namespace Path
open Go.ChangeShapes Go.WideShapes Go.ChangeAt Go.RowKit Go.Shelf Base bJ cr Go.Lib qR
attribute [local go_sem] Oper.semAt_some
theorem nF {β:Type} {B:Nat} {J:β→World→Prop} (h:AbidesFrom B J) {s:β} {w:World} (hs:J s w) (n:Nat):J s (w.drewN n):=
 match n with
 |0=>hs
 |n+1=>h s (w.drewN n) _ none (nF h hs n) ⟨rfl,rfl,rfl,Qk _,fun _ _ _=>rfl⟩ (fun r e=>by cases e)
def DL (m:Bool) (l:List UInt8):List (List UInt8):=if m then aE l else[]
theorem JJ (l:List UInt8):DL true l=(mC l).1::DL (mC l).2.2 (mC l).2.1:=by
 unfold DL mC;rw[if_pos rfl];obtain⟨h1,A⟩:=vr l
 by_cases h:0≤Lib.indexByte l 47
 ·rw[if_pos h,h1 h]
  simp
 ·rw[if_neg h,A h]
  simp
theorem IB (l:List UInt8):(mC l).2.1.length+(if(mC l).2.2 then 1 else 0)<l.length+1:=by
 unfold mC
 by_cases h:0≤Lib.indexByte l 47
 ·rw[if_pos h]
  obtain⟨k,hk⟩:∃k:Nat,Lib.indexByte l 47=k:=⟨(Lib.indexByte l 47).toNat,by omega⟩
  have A:=(List.getElem?_eq_some_iff.1 (Lib.indexByte_some hk).1).1;simp only[Qe,hk,Int.toNat_natCast,if_true];omega
 ·rw[if_neg h]
  simp
def Ny (r m:Value):Nat:=(match r with|.string s=>s.size|_=>0)+(match m with|.bool true=>1|_=>0)
abbrev Part:={x:List UInt8 // x.length≤140737488351232}
theorem Gn (l:List UInt8):∀p∈aE l,p.length≤l.length:=by
 induction l with
 |nil=>simp[aE]
 |cons b l ih=>
  unfold aE
  by_cases A:b=47
  ·rw[if_pos A]
   intro p hp;rcases List.mem_cons.1 hp with rfl|hp
   ·simp
   ·have:=ih p hp;rw[List.length_cons];omega
  ·rw[if_neg A]
   cases B:aE l with
   |nil=>exact absurd B (sR l)
   |cons q qs=>
    rw[B]at ih;intro p hp;rcases List.mem_cons.1 hp with rfl|hp
    ·have:=ih q (by simp)
     simp only[List.headD_cons,List.length_cons];omega
    ·have:=ih p (List.mem_cons_of_mem _ hp);rw[List.length_cons];omega
theorem CH (s:List UInt8) (hm:s.length≤140737488351232):∃ps:List Part,ps.map (·.1)=aE s:=by
 refine⟨(aE s).attachWith _ (fun p A=>Nat.le_trans (Gn s p A) hm),?_⟩;simp
theorem PO (F:Fence) (n:Nat) (hF:F=Fence.wide) (hn:1≤n) (l Bn:Nat) (s:List UInt8) (hm:s.length≤140737488351232) (ps:List Part) (wR:ps.map (·.1)=aE s) (J Jx:List Part→World→Prop) (B:Nat) (hJ:AbidesFrom B J)
 (hY:∀pre x W,J pre W→pre.length<ps.length→YieldAt F (n - 1) Tryz.prog l #[.string (str x.1)] W fun e W'=>
  (e=.returned (.bool true)∧J (pre++[x]) W'∧True)∨(e=.returned (.bool false)∧Jx (pre++[x]) W'))
 (W:World) (OB:W.cell? ⟨Bn,0,none⟩=some (.string (str s))) (h0:J [] W):
 CallsIn F n Tryz.prog 187 #[.func (.yield l) #[] #[],.pointer (some ⟨Bn,0,none⟩)] W fun e W'=>(∃v,e=.returned v)∧
  ((∃ys,ys=ps∧J ys W')∨(∃pre,pre<+:ps∧Jx pre W')):=by
 subst hF;refine callsIn_of_wp Tryz.func187 rfl trivial ?_ rfl;simp only[Tryz.ntmps187,List.size_toArray,List.length_cons,List.length_nil,Nat.reduceAdd,Nat.reduceSub,Array.replicate_succ,Array.replicate_zero,List.push_toArray,List.append_toArray,List.nil_append,List.cons_append]
 gi_wp2
 gi_loopw [3,4] (fun r m wr=>∃(pre D:List Part) (rest:List UInt8) (b:Bool),r=.string (str rest)∧m=.bool b∧Hid (ps=pre++D∧D.map (·.1)=DL b rest)∧rest.length≤140737488351232∧J pre wr)
  (fun r m wr=>Ny r m)
 case atStart=>exact⟨[],ps,s,true,rfl,rfl,⟨rfl,wR⟩,hm,h0⟩
 case round=>
  obtain⟨pre,D,rest,b,rfl,rfl,R,f,U⟩:=hrel
  cases b with
  |false=>
   gi_wp2
   go_end0
   exact⟨⟨_,rfl⟩,.inl ⟨pre,by obtain⟨h1,N⟩:=R.out;obtain rfl:D=[]:=List.map_eq_nil_iff.1 N;simp[h1],U⟩⟩
  |true=>
   obtain⟨I,A⟩:=R.out;rw[JJ]at A
   obtain⟨x,QK,L⟩:∃x QK,D=x::QK:=by
    cases D with
    |nil=>simp at A
    |cons x QK=>exact⟨x,QK,rfl⟩
   rw[L,List.map_cons,List.cons.injEq]at A;have hc:=wC rest wr f;have hl:=IB rest;have E:(str rest).size=rest.length:=aA rest;obtain⟨p,O⟩:∃p:List UInt8,p=x.1:=⟨_,rfl⟩
   obtain⟨q,H⟩:∃q,q=(mC rest).2.1:=⟨_,rfl⟩
   obtain⟨b,G⟩:∃b,b=(mC rest).2.2:=⟨_,rfl⟩
   rw[←A.1,←O,←H,←G]at hc;rw[←H,←G]at A;rw[L]at I;rw[←H,←G]at hl;have M:=Qh (And.intro I A.2);have T:=Qh hl;have X:=Qh E
   have V:∀k,YieldAt Fence.wide (n - 1) Tryz.prog l #[.string (str x.1)] (wr.drewN k) fun e W'=>
    (e=.returned (.bool true)∧J (pre++[x]) W'∧True)∨(e=.returned (.bool false)∧Jx (pre++[x]) W'):=
    fun k=>hY pre x _ (nF hJ U k) (by rw[I];simp)
   rw[←O]at V;clear O H G I A hl E R L hY
   gi_wp2_with (refine⟨trivial,?_⟩;gi_at_call 141;refine(callsIn_wide.2 hc).mono ?_;rintro e w' ⟨rfl,k,rfl⟩;obtain⟨fn,tmps,assign,body,hy,d⟩:=V k)
   refine d.mono ?_;rintro e g (⟨rfl,Z,-⟩|⟨rfl,Y⟩)
   ·gi_wp2
    go_roundw
    case rel=>exact⟨pre++[x],QK,q,b,rfl,rfl,⟨by rw[M.out.1];simp,M.out.2⟩,by have:=T.out;omega,Z⟩
    case measure=>
     have h1:=T.out;have N:=X.out;have c:(str q).size=q.length:=aA q
     cases b<;>simp[Ny,N,c]at h1⊢<;>omega
   ·gi_wp2
    refine bodyPost_ret (results_none rfl _ _ _) rfl ?_;exact⟨⟨_,rfl⟩,.inr ⟨pre++[x],by rw[M.out.1];exact⟨QK,by simp⟩,Y⟩⟩
theorem GJ (n:Nat) (hn:1≤n) (Bn:Nat) (s:List UInt8) (hm:s.length≤140737488351232) (ps:List Part) (wR:ps.map (·.1)=aE s) (w:World) (OB:Bn<w.heap.size) (hc:w.cell? ⟨Bn,0,none⟩=some (.string (str s))):
 SeqStopsK Fence.wide n Tryz.prog 187 #[.pointer (some ⟨Bn,0,none⟩)] (fun x:Part=>#[Value.string (str x.1)]) (fun _ _=>True) (fun ys=>ys=ps) (fun pre=>pre<+:ps) ps.length w:=fun l J A W E D _ G B=>
 PO Fence.wide n rfl hn l Bn s hm ps wR J A _ D G W ((E.cell (p:=⟨Bn,0,none⟩) OB).trans hc) B
theorem Gl (s:List UInt8) (w:World):
 Calls Tryz.prog 150 #[.string (str s)] w fun e w'=>e=.returned (.func (.func 187) #[] #[.pointer (some ⟨w.heap.size,0,none⟩)])∧w'=w.alloc (.cells #[.string (str s)] 9):=by
 go_enter Tryz.func150,Tryz.ntmps150
 go_wp2;go_ret;exact⟨rfl,rfl⟩
end Path
namespace Path
open Go.ChangeShapes Go.WideShapes Go.ChangeAt Go.RowKit Go.Shelf Base bJ cr Go.Lib qR
variable {v:Value}
attribute [local go_sem] Oper.semAt_some
theorem Ds (a b:List (List UInt8)):∀c,qZ c (a++b)=(qZ c a).bind fun d=>qZ d b:=by
 induction a with
 |nil=>intro c;rfl
 |cons p a ih=>
  intro c;rw[List.cons_append,qZ,qZ];split
  ·rfl
  ·exact ih _
theorem IQ (pre:List (List UInt8)) (p c d:List UInt8) (h:qZ c pre=some d):qZ c (pre++[p])=if p=[46,46]∨200<(dG d p).length then none else some (dG d p):=by
 rw[Ds,h,Option.bind_some];unfold qZ;split<;>rfl
theorem Ox (ps:List (List UInt8)):∀c d,c.length≤200→qZ c ps=some d→d.length≤200:=by
 induction ps with
 |nil=>intro c d hc h;cases h;exact hc
 |cons p ps ih=>
  intro c d hc h;unfold qZ at h;split at h
  ·cases h
  ·next A=>exact ih _ _ (by rcases Nat.lt_or_ge 200 (dG c p).length with h'|h';exact absurd (.inr h') A;exact h') h
theorem IP (a b:List (List UInt8)) (h:qZ [] a=none):qZ [] (a++b)=none:=by rw[Ds,h];rfl
theorem rZ (l:List UInt8):Lib.hasPrefix l [47]=decide (l.head? =some 47):=by
 cases l with
 |nil=>simp[Lib.hasPrefix]
 |cons b t=>
  by_cases h:b=47
  ·subst h;simp[Lib.hasPrefix]
  ·have A:¬(47:UInt8)=b:=fun e=>h e.symm
   simp[Lib.hasPrefix,List.isPrefixOf,h,A]
def Cell (W:World) (b:Nat) (v:Value):Prop:=W.cell? ⟨b,0,none⟩=some v∧W.frozen? ⟨b,0,none⟩=false
theorem Cell.kept (h:Cell W b v) {row:Option Nat} (hg:W.grownBy W' row) (hr:∀r,row=some r→∃o:Obj,W.heap[r]? =some o∧o.isCells=false):Cell W' b v:=
 ⟨cell_kept h.1 hg hr,(frozen_kept h.1 hg hr).trans h.2⟩
theorem Cell.below (h:Cell W b v) (hb:Below n W W') (hn:b<n):Cell W' b v:=
 ⟨(hb.cell (p:=⟨b,0,none⟩) hn).trans h.1,(hb.frozen (p:=⟨b,0,none⟩) hn).trans h.2⟩
theorem Cell.new (W:World) (v:Value) (t:TypeId):Cell (W.alloc (.cells #[v] t)) W.heap.size v:=by
 have h:=World.alloc_heap_new W (.cells #[v] t);unfold Cell World.cell? World.frozen?;rw[h];exact⟨rfl,rfl⟩
theorem Cell.alloc (h:Cell W b v) (o:Obj):Cell (W.alloc o) b v:=h.kept (World.grownBy_alloc W o none) (fun r e=>by cases e)
theorem Cell.set (h:Cell W b v) (u:Value):Cell (W.setCell ⟨b,0,none⟩ u) b u:=
 ⟨World.cell?_setCell_same' _ _ _ (by rw[h.1];rfl),by rw[World.frozen?_setCell];exact h.2⟩
theorem Cell.other {b':Nat} (h:Cell W b v) (u:Value) (cE:b'≠b):Cell (W.setCell ⟨b',0,none⟩ u) b v:=
 ⟨(World.cell?_setCell_other _ _ _ _ (fun e=>cE (congrArg Addr.block e))).trans h.1,by rw[World.frozen?_setCell];exact h.2⟩
def dv (P:Int) (l:List UInt8):List UInt8 × Int:=
 if l.head? =some 47 then([],P)else match qZ [] (aE l)with|none=>([],P)|some a=>if a=[]then([],P)else(a,0)
theorem AW (T P:Int) (l:List UInt8):bC T P l=if aS l=false then([],T)else dv P l:=E7 T P l
theorem j0 (W:World) (tm:Array Value) (b0 b1:Nat) (s:ByteArray) (e:Int) (h0:tm[2]? =some (.pointer (some ⟨b0,0,none⟩))) (h1:tm[3]? =some (.pointer (some ⟨b1,0,none⟩)))
 (c0:Cell W b0 (.string s)) (c1:Cell W b1 (.int .i64 e)):(results Tryz.f116 tm).run Tryz.prog W=.ok (.tuple #[.string s,.int .i64 e]) W:=by
 obtain⟨A,B⟩:=c0;obtain⟨Lx,D⟩:=c1;simp[results,Tryz.f116,go_sem,h0,h1,A,Lx]
theorem uE (l:List UInt8) (w:World) (hm:l.length≤140737488351232) (hT:Tabs w):
 Calls Tryz.prog 116 #[.string (str l)] w fun e w'=>e=.returned (.tuple #[.string (str (bC 9 6 l).1),.int .i64 (bC 9 6 l).2])∧Below w.heap.size w w':=by
 have hR:=fun w hT=>vA l w hm hT
 have hP:=fun w=>Any.strings_HasPrefix Tryz.BP (str l) ⟨#[47]⟩ w
 rw[AW];simp only[bg,rZ]at hP;refine(callsIn_wide (n:=3)).1 ?_;refine callsIn_of_wp_marks Tryz.func116 rfl trivial ?_ rfl;simp only[Tryz.ntmps116,List.size_toArray,List.length_cons,List.length_nil,Nat.reduceAdd,Nat.reduceSub,Array.replicate_succ,Array.replicate_zero,List.push_toArray,List.append_toArray,List.nil_append,List.cons_append];have oM:Below w.heap.size w ((w.alloc (.cells #[.string ⟨#[]⟩] 9)).alloc (.cells #[.int .i64 0] 27)):=((Below.refl _ _).alloc (Qk _) _).alloc (by simp) _;have z:=hT.below oM;have c0:Cell ((w.alloc (.cells #[.string ⟨#[]⟩] 9)).alloc (.cells #[.int .i64 0] 27)) w.heap.size (.string ⟨#[]⟩):=(Cell.new w _ _).alloc _
 have c1:Cell ((w.alloc (.cells #[.string ⟨#[]⟩] 9)).alloc (.cells #[.int .i64 0] 27)) (w.heap.size+1) (.int .i64 0):=by
  have:=Cell.new (w.alloc (.cells #[.string ⟨#[]⟩] 9)) (.int .i64 0) 27
  rwa [World.size_alloc]at this
 have HC:=Qh (And.intro c0 c1);have HB:=Qh oM;clear c0 c1 oM hT
 cases ht:aS l with
 |false=>
  rw[if_pos rfl];have R:=hR _ z;rw[ht]at R
  gi_wp2_with fail
  refine⟨trivial,(callsIn_wide.2 R).mono ?_⟩;rintro e o ⟨rfl,J⟩;simp only[World.size_alloc]at J;obtain⟨Vi,Vj⟩:=HC.out.1.below J (by omega);obtain⟨d10,d11⟩:=HC.out.2.below J (by omega);have b:=Qh (HB.out.trans (J.mono (by omega)));clear J R z hR hP
  gi_wp2_with fail
  refine⟨_,j0 _ _ w.heap.size (w.heap.size+1) ⟨#[]⟩ 9 rfl rfl (((show Cell o w.heap.size _ from⟨Vi,Vj⟩).set _).other _ (by omega)) (((show Cell o (w.heap.size+1) _ from⟨d10,d11⟩).other _ (by omega)).set _),rfl,?_⟩;exact(b.out.setCell (p:=⟨w.heap.size,0,none⟩) (Qk _) _).setCell (p:=⟨w.heap.size+1,0,none⟩) (by simp) _
 |true=>
  rw[if_neg (by simp)];have R:=hR _ z;rw[ht]at R;obtain⟨G,H⟩:∃G,dv 6 l=G:=⟨_,rfl⟩
  rw[H];unfold dv at H;have HG:=Qh H;clear H
  gi_wp2_with fail
  refine⟨trivial,(callsIn_wide.2 R).mono ?_⟩;rintro e o ⟨rfl,J⟩;simp only[World.size_alloc]at J;have d0:=HC.out.1.below J (by omega);have d1:=HC.out.2.below J (by omega);have my:Hid (w.heap.size+2≤o.heap.size):=Qh (by have:=J.size;rw[World.size_alloc,World.size_alloc]at this;omega);have b:=Qh (HB.out.trans (J.mono (by omega)));clear J R z hR;have y:=hP o;clear hP
  by_cases V:l.head? =some 47
  ·obtain rfl:([],6)=G:=by rw[←HG.out,if_pos V]
   rw[decide_eq_true V]at y;clear V;obtain⟨Vi,Vj⟩:=d0;obtain⟨d10,d11⟩:=d1
   gi_wp2_with fail
   refine⟨trivial,(callsIn_wide.2 y).mono ?_⟩;rintro e w' ⟨rfl,rfl⟩
   gi_wp2_with fail
   refine⟨_,j0 _ _ w.heap.size (w.heap.size+1) ⟨#[]⟩ 6 rfl rfl (((show Cell w' w.heap.size _ from⟨Vi,Vj⟩).set _).other _ (by omega)) (((show Cell w' (w.heap.size+1) _ from⟨d10,d11⟩).other _ (by omega)).set _),rfl,?_⟩;exact(b.out.setCell (p:=⟨w.heap.size,0,none⟩) (Qk _) _).setCell (p:=⟨w.heap.size+1,0,none⟩) (by simp) _
  ·have H:=HG.out
   rw[if_neg V]at H;rw[decide_eq_false V]at y;have m:=Qh H;clear V HG H;have HD:=Qh (And.intro d0 d1);clear d0 d1
   gi_wp2_with fail
   refine⟨trivial,(callsIn_wide.2 y).mono ?_⟩;rintro e w' ⟨rfl,rfl⟩
   gi_wp2_with fail
   have cf:Hid (Below w.heap.size w ((w'.alloc (.cells #[.string ⟨#[]⟩] 9)).alloc (.cells #[.string (str l)] 9))):=
    Qh ((b.out.alloc (by have:=my.out;omega) _).alloc (by have:=my.out;rw[World.size_alloc];omega) _)
   have HX:=Qh (((Cell.new w' (.string ⟨#[]⟩) 9)).alloc (.cells #[.string (str l)] 9));have HY:=Qh (And.intro ((HD.out.1.alloc (.cells #[.string ⟨#[]⟩] 9)).alloc (.cells #[.string (str l)] 9)) ((HD.out.2.alloc (.cells #[.string ⟨#[]⟩] 9)).alloc (.cells #[.string (str l)] 9)));have t:=Qh (Cell.new (w'.alloc (.cells #[.string ⟨#[]⟩] 9)) (.string (str l)) 9);clear b HD HC;obtain⟨ps,wR⟩:=CH l hm;refine⟨trivial,(callsIn_wide.2 (Gl l _)).mono ?_⟩;rintro e w2 ⟨rfl,rfl⟩
   gi_wp2_with fail
   obtain⟨n1,QE⟩:∃n1,w'.heap.size=n1:=⟨_,rfl⟩
   obtain⟨W0,rW⟩:∃W0,(w'.alloc (.cells #[.string ⟨#[]⟩] 9)).alloc (.cells #[.string (str l)] 9)=W0:=⟨_,rfl⟩
   have M:Hid (W0.heap.size=n1+2∧w.heap.size+2≤n1):=Qh (by rw[←rW,World.size_alloc,World.size_alloc];exact⟨by omega,by have:=my.out;omega⟩);rw[rW]at cf HX HY t⊢;rw[World.size_alloc]at t;rw[QE]at HX t⊢;clear rW my QE HB
   refine wpIn_rangeFunc_ownF rfl (by omega) (gf:=187) (lb:=#[.pointer (some ⟨n1+1,0,none⟩)]) rfl trivial (enters_of Tryz.func187 (by kernel_rfl) rfl)
    (GJ _ (by omega) (n1+1) l hm ps wR W0 (by rw[M.out.1];omega) t.out.1) (fun _ _=>trivial) (fun _ _ _ _ _ _ _ _=>trivial) (Below.refl _ _) (fun _=>rfl)
    (fun pre W=>(∃c,qZ [] (pre.map (·.1))=some c∧Cell W n1 (.string (str c))∧Cell W w.heap.size (.string ⟨#[]⟩)∧Cell W (w.heap.size+1) (.int .i64 0))∧Below w.heap.size w W)
    (fun c pre W=>(c=.ret∧qZ [] (pre.map (·.1))=none∧Cell W w.heap.size (.string ⟨#[]⟩)∧Cell W (w.heap.size+1) (.int .i64 6))∧Below w.heap.size w W)
    (OwnFrom.and (Own.from (fun s A B row hs I Y=>by obtain⟨c,h1,X,h3,h4⟩:=hs;exact⟨c,h1,X.kept I Y,h3.kept I Y,h4.kept I Y⟩) _) (ownFrom_below (Qk _) (by rw[M.out.1];have:=M.out.2;omega)))
    (fun c=>OwnFrom.and (Own.from (fun s A B row hs I Y=>⟨hs.1,hs.2.1,hs.2.2.1.kept I Y,hs.2.2.2.kept I Y⟩) _) (ownFrom_below (Qk _) (by rw[M.out.1];have:=M.out.2;omega)))
    ⟨⟨[],rfl,HX.out,HY.out.1,HY.out.2⟩,cf.out⟩
    (fun x=>{tmps:=#[.string (str l),undef,.pointer (some ⟨w.heap.size,0,none⟩),.pointer (some ⟨w.heap.size+1,0,none⟩),.pointer (some ⟨n1,0,none⟩),.string (str x.1),.string (str l),.bool true,.bool false,.string (str l),.bool false,.string (str l),.func (.func 187) #[] #[.pointer (some ⟨n1+1,0,none⟩)],.string (str x.1),undef,undef,undef,undef,undef,undef,undef,undef,undef,undef,undef,undef,undef],defers:=[]}) ?assign ?body ?done ?stop
   case assign=>
    intro l x W K N
    gi_wp2
    exact N
   case body=>
    rintro l' pre x W ⟨⟨c,I,c0,c1,c2⟩,L⟩ _;have hc:=Ox _ _ _ (by simp) I;have hj:=Ju c x.1 W (by have:=x.2;omega);have hs:=IQ _ x.1 _ _ I;obtain⟨d,hd⟩:∃d,dG c x.1=d:=⟨_,rfl⟩
    rw[hd]at hj hs;have e0:=(c0.set (.string (str d)))
    have e1:=(c1.other (.string (str d)) (show n1≠_ by have:=M.out.2;omega))
    have e2:=(c2.other (.string (str d)) (show n1≠_ by have:=M.out.2;omega))
    have bP:=L.setCell (p:=⟨n1,0,none⟩) (show w.heap.size≤n1 by have:=M.out.2;omega) (.string (str d));have E:=Qh (And.intro e1 (And.intro e2 bP));have T:((str d).size:Int)=d.length:=by rw[aA]
    obtain⟨f0,f1⟩:=c0;have HP:=Qh hd
    by_cases U:x.1=[46,46]
    ·have b1:((str x.1).toList==[46,46])=true:=by rw[xB];simpa using U
     rw[if_pos (.inl U)]at hs;have O:qZ [] ((pre++[x]).map (·.1))=none:=by rw[List.map_append];exact hs
     have Z:=Qh O;clear hs O U hd I hc e1 e2 c1 c2 L bP T
     gi_wp2_with fail
     refine⟨trivial,(CallsIn.inRound l' (callsIn_wide.2 hj)).mono ?_⟩;rintro e w3 ⟨rfl,rfl⟩;obtain⟨XQ,TH⟩:=e0;obtain⟨Vl,Vm⟩:=E.out.1;obtain⟨g10,g11⟩:=E.out.2.1
     gi_wp2
     exact⟨((KeepsOthers.setCell _ _ _).trans (KeepsOthers.setCell _ _ _)).trans (KeepsOthers.setCell _ _ _),⟨rfl,Z.out,(E.out.1.set _).other _ (by omega),(E.out.2.1.other _ (by omega)).set _⟩,(E.out.2.2.setCell (p:=⟨w.heap.size,0,none⟩) (Qk _) _).setCell (p:=⟨w.heap.size+1,0,none⟩) (by simp) _⟩
    ·have b1:((str x.1).toList==[46,46])=false:=by rw[xB];simpa using U
     obtain⟨n,hn⟩:∃n,(str d).size=n:=⟨_,rfl⟩
     by_cases X:200<d.length
     ·have b2:(200:Int)<(n:Int):=by omega
      rw[if_pos (.inr X)]at hs;have O:qZ [] ((pre++[x]).map (·.1))=none:=by rw[List.map_append];exact hs
      have Z:=Qh O;clear hs O U hd I hc e1 e2 c1 c2 L bP T X
      gi_wp2_with fail
      refine⟨trivial,(CallsIn.inRound l' (callsIn_wide.2 hj)).mono ?_⟩;rintro e w3 ⟨rfl,rfl⟩;obtain⟨XQ,TH⟩:=e0;obtain⟨Vl,Vm⟩:=E.out.1;obtain⟨g10,g11⟩:=E.out.2.1
      gi_wp2
      exact⟨((KeepsOthers.setCell _ _ _).trans (KeepsOthers.setCell _ _ _)).trans (KeepsOthers.setCell _ _ _),⟨rfl,Z.out,(E.out.1.set _).other _ (by omega),(E.out.2.1.other _ (by omega)).set _⟩,(E.out.2.2.setCell (p:=⟨w.heap.size,0,none⟩) (Qk _) _).setCell (p:=⟨w.heap.size+1,0,none⟩) (by simp) _⟩
     ·have b2:¬(200:Int)<(n:Int):=by omega
      rw[if_neg (fun h=>h.elim U X)]at hs;have O:qZ [] ((pre++[x]).map (·.1))=some d:=by rw[List.map_append];exact hs
      have Z:=Qh O;clear hs O U hd I hc e1 e2 c1 c2 L bP T X
      gi_wp2_with fail
      refine⟨trivial,(CallsIn.inRound l' (callsIn_wide.2 hj)).mono ?_⟩;rintro e w3 ⟨rfl,rfl⟩;obtain⟨XQ,TH⟩:=id e0;obtain⟨Vl,Vm⟩:=E.out.1;obtain⟨g10,g11⟩:=E.out.2.1
      gi_wp2
      exact⟨KeepsOthers.setCell _ _ _,trivial,⟨d,Z.out,e0,E.out.1,E.out.2.1⟩,E.out.2.2⟩
   case done=>
    rintro D ys W hD rfl ⟨⟨c,I,c0,c1,c2⟩,L⟩ N;rw[wR]at I;have H:=m.out;rw[I]at H;simp only at H;have u:w.heap.size≤D:=by have:=M.out;omega
    obtain⟨f0,f1⟩:=id c0;obtain⟨Vl,Vm⟩:=id c1;obtain⟨g10,g11⟩:=id c2;have E:=Qh (And.intro c1 (And.intro c2 L));have q:=Qh N
    by_cases hc:c=[]
    ·have b1:(str c).toList.isEmpty=true:=by rw[di];simpa using hc
     obtain rfl:([],6)=G:=by rw[←H,if_pos hc]
     clear H hc I m c0 c1 c2 L N
     gi_wp2
     have hK':=((KeepsOthers.setCell W ⟨w.heap.size,0,none⟩ (.string ⟨#[]⟩)).trans (KeepsOthers.setCell _ ⟨w.heap.size+1,0,none⟩ (.int .i64 6))).same D _ q.out rfl;refine⟨by simp,.inl ⟨_,_,rfl,run_takeDeferred hK',?_⟩⟩;have f:=((E.out.1.set (.string ⟨#[]⟩)).other (.int .i64 6) (show w.heap.size+1≠_ by omega)).kept (grownBy_putObj' _ D (.deferred none)) (fun r e=>by cases e;exact⟨_,hK',rfl⟩);have g:=((E.out.2.1.other (.string ⟨#[]⟩) (show w.heap.size≠_ by omega)).set (.int .i64 6)).kept (grownBy_putObj' _ D (.deferred none)) (fun r e=>by cases e;exact⟨_,hK',rfl⟩);exact⟨_,j0 _ _ w.heap.size (w.heap.size+1) ⟨#[]⟩ 6 rfl rfl f g,rfl,((E.out.2.2.setCell (p:=⟨w.heap.size,0,none⟩) (Qk _) _).setCell (p:=⟨w.heap.size+1,0,none⟩) (by simp) _).trans (belowK_b (w:=w) (Qk _) _ D _ _ u hK' rfl rfl)⟩
    ·have b1:(str c).toList.isEmpty=false:=by rw[di];simpa using hc
     obtain rfl:(c,0)=G:=by rw[←H,if_neg hc]
     clear H hc I m c0 c1 c2 L N
     gi_wp2
     have hK':=((KeepsOthers.setCell W ⟨w.heap.size,0,none⟩ (.string (str c))).trans (KeepsOthers.setCell _ ⟨w.heap.size+1,0,none⟩ (.int .i64 0))).same D _ q.out rfl;refine⟨by simp,.inl ⟨_,_,rfl,run_takeDeferred hK',?_⟩⟩;have f:=((E.out.1.set (.string (str c))).other (.int .i64 0) (show w.heap.size+1≠_ by omega)).kept (grownBy_putObj' _ D (.deferred none)) (fun r e=>by cases e;exact⟨_,hK',rfl⟩);have g:=((E.out.2.1.other (.string (str c)) (show w.heap.size≠_ by omega)).set (.int .i64 0)).kept (grownBy_putObj' _ D (.deferred none)) (fun r e=>by cases e;exact⟨_,hK',rfl⟩);exact⟨_,j0 _ _ w.heap.size (w.heap.size+1) (str c) 0 rfl rfl f g,rfl,((E.out.2.2.setCell (p:=⟨w.heap.size,0,none⟩) (Qk _) _).setCell (p:=⟨w.heap.size+1,0,none⟩) (by simp) _).trans (belowK_b (w:=w) (Qk _) _ D _ _ u hK' rfl rfl)⟩
   case stop=>
    rintro D c pre W hD Pf ⟨⟨rfl,hn,c1,c2⟩,L⟩ N;have H:=m.out;obtain⟨tl,DD⟩:=Pf;rw[←wR,←DD,List.map_append,IP _ _ hn]at H;obtain rfl:([],6)=G:=H;have u:w.heap.size≤D:=by have:=M.out;omega
    have E:=Qh (And.intro c1 (And.intro c2 L));have q:=Qh N;clear DD hn m c1 c2 L N
    gi_wp2
    have hK':=q.out;refine⟨by simp,.inl ⟨_,_,rfl,run_takeDeferred hK',?_⟩⟩;have f:=E.out.1.kept (grownBy_putObj' _ D (.deferred none)) (fun r e=>by cases e;exact⟨_,hK',rfl⟩);have g:=E.out.2.1.kept (grownBy_putObj' _ D (.deferred none)) (fun r e=>by cases e;exact⟨_,hK',rfl⟩);exact⟨_,j0 _ _ w.heap.size (w.heap.size+1) ⟨#[]⟩ 6 rfl rfl f g,rfl,E.out.2.2.trans (belowK_b (w:=w) (Qk _) _ D _ _ u hK' rfl rfl)⟩
end Path
namespace Mem
open Go.ChangeShapes Go.WideShapes Go.ChangeAt Go.RowKit Base bJ cr Bk Hp Head qR Path Go.Lib
theorem jF (k:UInt8) (n:Nat) (hn:n<256):((k.toNat:Int)=(n:Int))↔k=UInt8.ofNat n:=by
 constructor
 ·intro h
  apply UInt8.toNat.inj;rw[UInt8.toNat_ofNat'];omega
 ·rintro rfl
  rw[UInt8.toNat_ofNat'];omega
theorem iv (k:UInt8) (w:World):
 Calls Tryz.prog 79 #[.int .u8 (k.toNat:Int)] w fun e w'=>e=.returned (.bool (fp k))∧w=w':=by
 have I:=k.toNat_lt;have B:(k.toNat:Int)=48↔k=48:=jF k 48 (by decide);have D:(k.toNat:Int)=49↔k=49:=jF k 49 (by decide);have E:(k.toNat:Int)=50↔k=50:=jF k 50 (by decide);have G:(k.toNat:Int)=53↔k=53:=jF k 53 (by decide);obtain⟨r,A⟩:∃r,fp k=r:=⟨_,rfl⟩
 rw[A];unfold fp at A;obtain⟨x,H⟩:∃x:Int,x=(k.toNat:Int):=⟨_,rfl⟩
 rw[←H]at B D E G⊢
 by_cases J:x=48
 ·obtain rfl:r=true:=by rw[←A];simp[B.1 J]
  clear B D E G A H I;subst J
  go_enter Tryz.func79,Tryz.ntmps79
  go_wp2;go_ret;exact⟨rfl,rfl⟩
 ·by_cases h1:x=49
  ·obtain rfl:r=true:=by rw[←A];simp[D.1 h1]
   clear B D E G A H I;subst h1
   go_enter Tryz.func79,Tryz.ntmps79
   go_wp2;go_ret;exact⟨rfl,rfl⟩
  ·by_cases L:x=50
   ·obtain rfl:r=true:=by rw[←A];simp[E.1 L]
    clear B D E G A H I;subst L
    go_enter Tryz.func79,Tryz.ntmps79
    go_wp2;go_ret;exact⟨rfl,rfl⟩
   ·by_cases M:x=53
    ·obtain rfl:r=true:=by rw[←A];simp[G.1 M]
     clear B D E G A H I;subst M
     go_enter Tryz.func79,Tryz.ntmps79
     go_wp2;go_ret;exact⟨rfl,rfl⟩
    ·obtain rfl:r=false:=by
      rw[←A];have a0:¬k=48:=fun h=>J (B.2 h)
      have N:¬k=49:=fun h=>h1 (D.2 h)
      have a2:¬k=50:=fun h=>L (E.2 h)
      have a3:¬k=53:=fun h=>M (G.2 h)
      simp[a0,N,a2,a3]
     clear B D E G A H I
     go_enter Tryz.func79,Tryz.ntmps79
     go_wp2;go_ret;exact⟨rfl,rfl⟩
theorem Kp (k:UInt8) (n:Int) (w:World):
 Calls Tryz.prog 119 #[.int .u8 (k.toNat:Int),.int .i64 n] w fun e w'=>e=.returned (.int .i64 (oI k n))∧w=w':=by
 have G:=k.toNat_lt;have B:(k.toNat:Int)=48↔k=48:=jF k 48 (by decide);obtain⟨r,A⟩:∃r,oI k n=r:=⟨_,rfl⟩
 rw[A];unfold oI at A;obtain⟨x,E⟩:∃x:Int,x=(k.toNat:Int):=⟨_,rfl⟩
 rw[←E]at B⊢
 by_cases D:x=48
 ·have hk:k=48:=B.1 D
  rw[if_neg (by simp[hk])]at A
  by_cases h1:1048576<n
  ·rw[if_pos h1]at A
   subst A;clear B E G;subst D
   go_enter Tryz.func119,Tryz.ntmps119
   go_wp2;go_ret;exact⟨rfl,rfl⟩
  ·rw[if_neg h1]at A
   subst A;clear B E G;subst D
   go_enter Tryz.func119,Tryz.ntmps119
   go_wp2;go_ret;exact⟨rfl,rfl⟩
 ·have hk:¬k=48:=fun h=>D (B.2 h)
  by_cases H:n=0
  ·subst H
   rw[if_neg (by simp),if_neg (by omega)]at A;subst A;clear B E G
   go_enter Tryz.func119,Tryz.ntmps119
   go_wp2;go_ret;exact⟨rfl,rfl⟩
  ·rw[if_pos ⟨hk,H⟩]at A
   subst A;clear B E G;have I:(x != 48)=true:=by simpa using D
   have J:(n != 0)=true:=by simpa using H
   go_enter Tryz.func119,Tryz.ntmps119
   go_wp2;go_ret;exact⟨rfl,rfl⟩
theorem wX (a b c d:Int) (w:World):
 Calls Tryz.prog 117 #[.agg #[.int .i64 a,.int .i64 b,.int .i64 c,.int .i64 d]] w fun e w'=>e=.returned (.bool (fq a b c d))∧Below w.heap.size w w':=by
 obtain⟨r,A⟩:∃r,fq a b c d=r:=⟨_,rfl⟩
 rw[A];unfold fq at A;have D:=(Below.refl w.heap.size w).alloc (Qk _) (.cells #[.int .i64 a,.int .i64 b,.int .i64 c,.int .i64 d] 46);have B:=Qh D;clear D
 by_cases h1:0≤a∧a≤4095
 ·by_cases E:0≤b∧b≤2147483647
  ·by_cases G:0≤c∧c≤2147483647
   ·by_cases H:0≤d∧d≤1099511627776
    ·obtain rfl:r=true:=by rw[←A];simp only[decide_eq_true_eq];omega
     clear A
     go_enter Tryz.func117,Tryz.ntmps117
     go_wp2_with (go_at_call 152;refine(dB _ _ _ _ (by omega) (by omega)).mono ?_;rintro e w' ⟨rfl,rfl⟩)
     go_ret;exact⟨rfl,B.out⟩
    ·obtain rfl:r=false:=by rw[←A];simp only[decide_eq_false_iff_not];omega
     clear A
     go_enter Tryz.func117,Tryz.ntmps117
     go_wp2_with (go_at_call 152;first|(refine(dB _ _ _ _ (by omega) (by omega)).mono ?_;rintro e w' ⟨rfl,rfl⟩)|(refine(iJ _ _ _ _ (by omega)).mono ?_;rintro e w' ⟨rfl,rfl⟩))
     go_ret;exact⟨rfl,B.out⟩
   ·obtain rfl:r=false:=by rw[←A];simp only[decide_eq_false_iff_not];omega
    clear A
    go_enter Tryz.func117,Tryz.ntmps117
    go_wp2_with (go_at_call 152;first|(refine(dB _ _ _ _ (by omega) (by omega)).mono ?_;rintro e w' ⟨rfl,rfl⟩)|(refine(iJ _ _ _ _ (by omega)).mono ?_;rintro e w' ⟨rfl,rfl⟩))
    go_ret;exact⟨rfl,B.out⟩
  ·obtain rfl:r=false:=by rw[←A];simp only[decide_eq_false_iff_not];omega
   clear A
   go_enter Tryz.func117,Tryz.ntmps117
   go_wp2_with (go_at_call 152;first|(refine(dB _ _ _ _ (by omega) (by omega)).mono ?_;rintro e w' ⟨rfl,rfl⟩)|(refine(iJ _ _ _ _ (by omega)).mono ?_;rintro e w' ⟨rfl,rfl⟩))
   go_ret;exact⟨rfl,B.out⟩
 ·obtain rfl:r=false:=by rw[←A];simp only[decide_eq_false_iff_not];omega
  clear A
  go_enter Tryz.func117,Tryz.ntmps117
  go_wp2_with (go_at_call 152;first|(refine(dB _ _ _ _ (by omega) (by omega)).mono ?_;rintro e w' ⟨rfl,rfl⟩)|(refine(iJ _ _ _ _ (by omega)).mono ?_;rintro e w' ⟨rfl,rfl⟩))
  go_ret;exact⟨rfl,B.out⟩
theorem IU (k:UInt8) (l:List UInt8) (w:World) (hm:l.length≤140737488351232) (hT:Tabs w):
 Calls Tryz.prog 118 #[.int .u8 (k.toNat:Int),.string (str l)] w fun e w'=>e=.returned (.tuple #[.string (str (nS k l).1),.int .i64 (nS k l).2])∧Below w.heap.size w w':=by
 have H:=uE l w hm hT;have I:=tD l w hm hT;have A:(k.toNat:Int)=49↔k=49:=jF k 49 (by decide);have B:(k.toNat:Int)=50↔k=50:=jF k 50 (by decide);unfold nS;obtain⟨x,D⟩:∃x:Int,x=(k.toNat:Int):=⟨_,rfl⟩
 rw[←D]at A B⊢
 by_cases h1:x=49
 ·rw[if_pos (A.1 h1)]
  clear A B D;subst h1
  go_enter Tryz.func118,Tryz.ntmps118
  go_wp2_with (go_at_call 116;refine H.mono ?_;rintro e J ⟨rfl,G⟩)
  go_ret2;exact⟨rfl,G⟩
 ·rw[if_neg (fun h=>h1 (A.2 h))]
  by_cases E:x=50
  ·rw[if_pos (B.1 E)]
   clear A B D;subst E
   go_enter Tryz.func118,Tryz.ntmps118
   go_wp2_with (go_at_call 153;refine I.mono ?_;rintro e J ⟨rfl,G⟩)
   go_ret2;exact⟨rfl,G⟩
  ·rw[if_neg (fun h=>E (B.2 h))]
   clear A B D
   go_enter Tryz.func118,Tryz.ntmps118
   go_wp2;go_ret2;exact⟨rfl,Below.refl _ _⟩
theorem JM (w:World) (g:Nat) (a b:ByteArray) (k m u i t:Int) (p:Option Addr) (n c:Nat) (h:ao w g 48 #[.string a,.string b,.int .u8 k,.int .i64 m,.int .i64 u,.int .i64 i,.int .i64 t,.slice p n c]):
 (loadVar 48 ⟨g,0,none⟩).run Tryz.prog w=.ok (.agg #[.string a,.string b,.int .u8 k,.int .i64 m,.int .i64 u,.int .i64 i,.int .i64 t,.slice p n c]) w:=by
 have c0:=h.cell 0;have c1:=h.cell 1;have c2:=h.cell 2;have c3:=h.cell 3;have A:=h.cell 4;have c5:=h.cell 5;have c6:=h.cell 6;have c7:=h.cell 7;clear h
 go_simp
theorem lO {fn:Func} (hf:fn.results=#[.cell 2 48,.tmp 3]) (tmps:Array Value) (w:World) (g:Nat) (v:Value) (ht:tmps.getD 2 undef=.pointer (some ⟨g,0,none⟩)) (hv:tmps.getD 3 undef=v)
 (m:aq) (p:Option Addr) (c:Nat) (hb:ao w g 48 (cI m p c)):(results fn tmps).run Tryz.prog w=.ok (.tuple #[.agg (cI m p c),v]) w:=by
 rw[results_cell_tmp hf,ht,hv];have hl:=JM w g _ _ _ _ _ _ _ _ _ _ hb;simp only[asAddr,Sem.run_pure,hl,Result.andThen];rfl
theorem Iw {m:aq} {c:Nat} (hb:ao w g 48 (cI m p c)) (a0 a1 a2 a3 a4 a5 a6 a7:Value):
 ao ((((((((w.setCell ⟨g,0,none⟩ a0).setCell ⟨g,1,none⟩ a1).setCell ⟨g,2,none⟩ a2).setCell ⟨g,3,none⟩ a3).setCell ⟨g,4,none⟩ a4).setCell ⟨g,5,none⟩ a5).setCell ⟨g,6,none⟩ a6).setCell ⟨g,7,none⟩ a7) g 48 #[a0,a1,a2,a3,a4,a5,a6,a7]:=
 (((((((hb.set 0 a0 (by show 0<8;decide)).set 1 a1 (by show 1<8;decide)).set 2 a2 (by show 2<8;decide)).set 3 a3 (by show 3<8;decide)).set 4 a4 (by show 4<8;decide)).set 5 a5 (by show 5<8;decide)).set 6 a6 (by show 6<8;decide)).set 7 a7 (by show 7<8;decide)
theorem rG (hk:Below w.heap.size w w') (hg:w.heap.size≤g) (a0 a1 a2 a3 a4 a5 a6 a7:Value):
 Below w.heap.size w ((((((((w'.setCell ⟨g,0,none⟩ a0).setCell ⟨g,1,none⟩ a1).setCell ⟨g,2,none⟩ a2).setCell ⟨g,3,none⟩ a3).setCell ⟨g,4,none⟩ a4).setCell ⟨g,5,none⟩ a5).setCell ⟨g,6,none⟩ a6).setCell ⟨g,7,none⟩ a7):=
 ((((((((hk.setCell (p:=⟨g,0,none⟩) hg a0).setCell (p:=⟨g,1,none⟩) hg a1).setCell (p:=⟨g,2,none⟩) hg a2).setCell (p:=⟨g,3,none⟩) hg a3).setCell (p:=⟨g,4,none⟩) hg a4).setCell (p:=⟨g,5,none⟩) hg a5).setCell (p:=⟨g,6,none⟩) hg a6).setCell (p:=⟨g,7,none⟩) hg a7)
def K2 (w wi:World) (h:ak):Prop:=Below w.heap.size w wi∧ao wi w.heap.size 66 (aa h)∧ao wi (w.heap.size+1) 48 (cI qL none 0)
theorem K2.below {wi wj:World} {h:ak} (hm:K2 w wi h) (hb:Below wi.heap.size wi wj):K2 w wj h:=
 ⟨hm.1.trans (hb.mono hm.1.size),hm.2.1.below hb hm.2.1.lt,hm.2.2.below hb hm.2.2.lt⟩
theorem ib (h:ak) (w:World) (h1:h.name.length≤140737488351232) (h2:h.link.length≤140737488351232) (hT:Tabs w):
 Calls Tryz.prog 80 #[.agg (aa h)] w fun e w'=>e=.returned (.tuple #[.agg (cI (cZ h).1 none 0),.int .i64 (cZ h).2])∧Below w.heap.size w w':=by
 obtain⟨⟨u,ce⟩,hc⟩:∃x,bC 9 6 h.name=x:=⟨_,rfl⟩
 obtain⟨⟨y,ge⟩,hg⟩:∃x,nS h.kind h.link=x:=⟨_,rfl⟩
 obtain⟨mo,Ws⟩:∃x,fq h.mode h.uid h.gid h.time=x:=⟨_,rfl⟩
 obtain⟨o,g⟩:∃x,oI h.kind h.size=x:=⟨_,rfl⟩
 have l:Hid (∀wi,Below w.heap.size w wi→Calls Tryz.prog 116 #[.string (str h.name)] wi fun e w'=>e=.returned (.tuple #[.string (str u),.int .i64 ce])∧Below wi.heap.size wi w'):=
  Qh (fun wi D=>by have:=uE h.name wi h1 (hT.below D);rwa [hc]at this)
 have r:Hid (∀wi,Calls Tryz.prog 117 #[.agg #[.int .i64 h.mode,.int .i64 h.uid,.int .i64 h.gid,.int .i64 h.time]] wi fun e w'=>e=.returned (.bool mo)∧Below wi.heap.size wi w'):=
  Qh (fun wi=>by have:=wX h.mode h.uid h.gid h.time wi;rwa [Ws]at this)
 have q:Hid (∀wi,Below w.heap.size w wi→Calls Tryz.prog 118 #[.int .u8 (h.kind.toNat:Int),.string (str h.link)] wi fun e w'=>e=.returned (.tuple #[.string (str y),.int .i64 ge])∧Below wi.heap.size wi w'):=
  Qh (fun wi D=>by have:=IU h.kind h.link wi h2 (hT.below D);rwa [hg]at this)
 have CS:Hid (∀wi,Calls Tryz.prog 119 #[.int .u8 (h.kind.toNat:Int),.int .i64 h.size] wi fun e w'=>e=.returned (.int .i64 o)∧wi=w'):=
  Qh (fun wi=>by have:=Kp h.kind h.size wi;rwa [g]at this)
 obtain⟨U,hU⟩:∃U,cZ h=U:=⟨_,rfl⟩
 rw[hU]
 have m:Hid (U=if ce≠0 then(qL,ce)else if mo=false then(qL,4)else if ge≠0 then(qL,ge)else if o≠0 then(qL,o)else(⟨u,y,h.kind,h.mode,h.uid,h.gid,h.time,[]⟩,0)):=
  Qh (by rw[←hU];unfold cZ;rw[hc,hg,Ws,g])
 clear h1 h2 hT hU hc hg Ws g
 have I:Hid (K2 w ((w.alloc (.cells (aa h) 66)).alloc (.cells (cI qL none 0) 48)) h):=by
  have B:=ao.new (w.alloc (.cells (aa h) 66)) 48 (cI qL none 0);rw[World.size_alloc]at B;exact Qh ⟨((Below.refl _ w).alloc (Qk _) _).alloc (by simp) _,(ao.new w 66 (aa h)).alloc _,B⟩
 obtain⟨kn,t⟩:∃kn:Int,(h.kind.toNat:Int)=kn:=⟨_,rfl⟩
 have f:=Qh t;simp only[aa,t]at I⊢;rw[t]at q CS;clear t
 by_cases a1:ce=0
 ·subst a1
  cases mo with
  |false=>
   have E:Hid (U=(qL,4)):=Qh (by rw[m.out];simp)
   go_enter Tryz.func80,Tryz.ntmps80
   go_wp2_with fail
   refine(l.out _ I.out.1).mono ?_;rintro e z ⟨rfl,D⟩;have G:=Qh (I.out.below D);clear D I;have B:=G.out.2.1;have M:=B.cell 3;have N:=B.cell 4;have O:=B.cell 5;have R:=B.cell 6;simp only[aa,Qc,Qa,Qb]at M N O R;clear B;go_wp2_with fail;refine(r.out _).mono ?_;rintro e w2 ⟨rfl,D⟩;have H:=Qh (G.out.below D);clear D G M N O R;have A:=H.out.2.2;have T:=A.cell 0;have f0:=A.frozen 0;have V:=A.cell 1;have f1:=A.frozen 1;have W:=A.cell 2;have f2:=A.frozen 2;have X:=A.cell 3;have f3:=A.frozen 3;have Y:=A.cell 4;have f4:=A.frozen 4;have Z:=A.cell 5;have f5:=A.frozen 5;have b:=A.cell 6;have f6:=A.frozen 6;have c:=A.cell 7;have f7:=A.frozen 7;simp only[cI,qL,Qc,Qa,Qb]at T V W X Y Z b c;clear A;go_wp2;refine bodyPost_ret (lO rfl _ _ (w.heap.size+1) _ rfl rfl qL none 0 (Iw H.out.2.2 _ _ _ _ _ _ _ _)) rfl ?_;exact⟨by rw[E.out];rfl,rG H.out.1 (by omega) _ _ _ _ _ _ _ _⟩
  |true=>
   by_cases a2:ge=0
   ·subst a2
    by_cases a3:o=0
    ·subst a3
     have E:Hid (U=(⟨u,y,h.kind,h.mode,h.uid,h.gid,h.time,[]⟩,0)):=Qh (by rw[m.out];simp)
     go_enter Tryz.func80,Tryz.ntmps80
     go_wp2_with fail
     refine(l.out _ I.out.1).mono ?_;rintro e z ⟨rfl,D⟩;have G:=Qh (I.out.below D);clear D I;have B:=G.out.2.1;have M:=B.cell 3;have N:=B.cell 4;have O:=B.cell 5;have R:=B.cell 6;simp only[aa,Qc,Qa,Qb]at M N O R;clear B;go_wp2_with fail;refine(r.out _).mono ?_;rintro e w2 ⟨rfl,D⟩;have H:=Qh (G.out.below D);clear D G M N O R;have B:=H.out.2.1;have d:=B.cell 1;have J:=B.cell 2;simp only[aa,Qc,Qa,Qb,f.out]at d J;clear B;go_wp2_with fail;refine(q.out _ H.out.1).mono ?_;rintro e w3 ⟨rfl,D⟩;have L:=Qh (H.out.below D);clear D H d J;have B:=L.out.2.1;have J:=B.cell 2;have p:=B.cell 7;simp only[aa,Qc,Qa,Qb,f.out]at J p;clear B;go_wp2_with fail;refine(CS.out _).mono ?_;rintro e w4 ⟨rfl,rfl⟩;clear J p;have B:=L.out.2.1;have J:=B.cell 2;have M:=B.cell 3;have N:=B.cell 4;have O:=B.cell 5;have R:=B.cell 6;simp only[aa,Qc,Qa,Qb,f.out]at J M N O R;clear B;have Hl:=f.out;subst Hl;have A:=L.out.2.2;have T:=A.cell 0;have f0:=A.frozen 0;have V:=A.cell 1;have f1:=A.frozen 1;have W:=A.cell 2;have f2:=A.frozen 2;have X:=A.cell 3;have f3:=A.frozen 3;have Y:=A.cell 4;have f4:=A.frozen 4;have Z:=A.cell 5;have f5:=A.frozen 5;have b:=A.cell 6;have f6:=A.frozen 6;have c:=A.cell 7;have f7:=A.frozen 7;simp only[cI,qL,Qc,Qa,Qb]at T V W X Y Z b c;clear A;go_wp2;refine bodyPost_ret (lO rfl _ _ (w.heap.size+1) _ rfl rfl ⟨u,y,h.kind,h.mode,h.uid,h.gid,h.time,[]⟩ none 0 (Iw L.out.2.2 _ _ _ _ _ _ _ _)) rfl ?_;exact⟨by rw[E.out];rfl,rG L.out.1 (by omega) _ _ _ _ _ _ _ _⟩
    ·have E:Hid (U=(qL,o)):=Qh (by rw[m.out];simp[a3])
     go_enter Tryz.func80,Tryz.ntmps80
     go_wp2_with fail
     refine(l.out _ I.out.1).mono ?_;rintro e z ⟨rfl,D⟩;have G:=Qh (I.out.below D);clear D I;have B:=G.out.2.1;have M:=B.cell 3;have N:=B.cell 4;have O:=B.cell 5;have R:=B.cell 6;simp only[aa,Qc,Qa,Qb]at M N O R;clear B;go_wp2_with fail;refine(r.out _).mono ?_;rintro e w2 ⟨rfl,D⟩;have H:=Qh (G.out.below D);clear D G M N O R;have B:=H.out.2.1;have d:=B.cell 1;have J:=B.cell 2;simp only[aa,Qc,Qa,Qb,f.out]at d J;clear B;go_wp2_with fail;refine(q.out _ H.out.1).mono ?_;rintro e w3 ⟨rfl,D⟩;have L:=Qh (H.out.below D);clear D H d J;have B:=L.out.2.1;have J:=B.cell 2;have p:=B.cell 7;simp only[aa,Qc,Qa,Qb,f.out]at J p;clear B;go_wp2_with fail;refine(CS.out _).mono ?_;rintro e w4 ⟨rfl,rfl⟩;clear J p;have A:=L.out.2.2;have T:=A.cell 0;have f0:=A.frozen 0;have V:=A.cell 1;have f1:=A.frozen 1;have W:=A.cell 2;have f2:=A.frozen 2;have X:=A.cell 3;have f3:=A.frozen 3;have Y:=A.cell 4;have f4:=A.frozen 4;have Z:=A.cell 5;have f5:=A.frozen 5;have b:=A.cell 6;have f6:=A.frozen 6;have c:=A.cell 7;have f7:=A.frozen 7;simp only[cI,qL,Qc,Qa,Qb]at T V W X Y Z b c;clear A;go_wp2;refine bodyPost_ret (lO rfl _ _ (w.heap.size+1) _ rfl rfl qL none 0 (Iw L.out.2.2 _ _ _ _ _ _ _ _)) rfl ?_;exact⟨by rw[E.out];rfl,rG L.out.1 (by omega) _ _ _ _ _ _ _ _⟩
   ·have E:Hid (U=(qL,ge)):=Qh (by rw[m.out];simp[a2])
    go_enter Tryz.func80,Tryz.ntmps80
    go_wp2_with fail
    refine(l.out _ I.out.1).mono ?_;rintro e z ⟨rfl,D⟩;have G:=Qh (I.out.below D);clear D I;have B:=G.out.2.1;have M:=B.cell 3;have N:=B.cell 4;have O:=B.cell 5;have R:=B.cell 6;simp only[aa,Qc,Qa,Qb]at M N O R;clear B;go_wp2_with fail;refine(r.out _).mono ?_;rintro e w2 ⟨rfl,D⟩;have H:=Qh (G.out.below D);clear D G M N O R;have B:=H.out.2.1;have d:=B.cell 1;have J:=B.cell 2;simp only[aa,Qc,Qa,Qb,f.out]at d J;clear B;go_wp2_with fail;refine(q.out _ H.out.1).mono ?_;rintro e w3 ⟨rfl,D⟩;have L:=Qh (H.out.below D);clear D H d J;have A:=L.out.2.2;have T:=A.cell 0;have f0:=A.frozen 0;have V:=A.cell 1;have f1:=A.frozen 1;have W:=A.cell 2;have f2:=A.frozen 2;have X:=A.cell 3;have f3:=A.frozen 3;have Y:=A.cell 4;have f4:=A.frozen 4;have Z:=A.cell 5;have f5:=A.frozen 5;have b:=A.cell 6;have f6:=A.frozen 6;have c:=A.cell 7;have f7:=A.frozen 7;simp only[cI,qL,Qc,Qa,Qb]at T V W X Y Z b c;clear A;go_wp2;refine bodyPost_ret (lO rfl _ _ (w.heap.size+1) _ rfl rfl qL none 0 (Iw L.out.2.2 _ _ _ _ _ _ _ _)) rfl ?_;exact⟨by rw[E.out];rfl,rG L.out.1 (by omega) _ _ _ _ _ _ _ _⟩
 ·have E:Hid (U=(qL,ce)):=Qh (by rw[m.out];simp[a1])
  go_enter Tryz.func80,Tryz.ntmps80
  go_wp2_with fail
  refine(l.out _ I.out.1).mono ?_;rintro e z ⟨rfl,D⟩;have G:=Qh (I.out.below D);clear D I;have A:=G.out.2.2;have T:=A.cell 0;have f0:=A.frozen 0;have V:=A.cell 1;have f1:=A.frozen 1;have W:=A.cell 2;have f2:=A.frozen 2;have X:=A.cell 3;have f3:=A.frozen 3;have Y:=A.cell 4;have f4:=A.frozen 4;have Z:=A.cell 5;have f5:=A.frozen 5;have b:=A.cell 6;have f6:=A.frozen 6;have c:=A.cell 7;have f7:=A.frozen 7;simp only[cI,qL,Qc,Qa,Qb]at T V W X Y Z b c;clear A;go_wp2;refine bodyPost_ret (lO rfl _ _ (w.heap.size+1) _ rfl rfl qL none 0 (Iw G.out.2.2 _ _ _ _ _ _ _ _)) rfl ?_;exact⟨by rw[E.out];rfl,rG G.out.1 (by omega) _ _ _ _ _ _ _ _⟩
theorem kh (h:ak):(cZ h).1.body=[]:=by
 unfold cZ;split
 ·rfl
 ·split
  ·rfl
  ·split
   ·rfl
   ·split<;>rfl
theorem lB (m:aq) (p:Option Addr) (c:Nat) (w:World) (h1:m.path.length≤140737488351232) (h2:m.target.length≤140737488351232) (hT:Tabs w):
 Calls Tryz.prog 52 #[.agg (cI m p c)] w fun e w'=>e=.returned (.bool (bk m))∧Below w.heap.size w w':=by
 rw[IV];obtain⟨⟨A,H⟩,I⟩:∃x,cZ (kj m)=x:=⟨_,rfl⟩
 have V:A.body=[]:=by have:=kh (kj m);rw[I]at this;exact this
 have U:∀wi,Below w.heap.size w wi→Calls Tryz.prog 80 #[.agg #[.string (str m.path),.string (str m.target),.int .u8 (m.kind.toNat:Int),.int .i64 m.mode,.int .i64 m.uid,.int .i64 m.gid,.int .i64 m.time,.int .i64 (m.body.length:Int),.bool false]] wi fun e w'=>e=.returned (.tuple #[.agg #[.string (str A.path),.string (str A.target),.int .u8 (A.kind.toNat:Int),.int .i64 A.mode,.int .i64 A.uid,.int .i64 A.gid,.int .i64 A.time,.slice none 0 0],.int .i64 H])∧Below wi.heap.size wi w':=fun wi B=>by
  have:=ib (kj m) wi h1 h2 (hT.below B);rw[I]at this;unfold cI at this;simp only[V,List.length_nil]at this;exact this
 have M:=Qh U;have E:=iv m.kind;unfold cI;obtain⟨kn,G⟩:∃kn:Int,(m.kind.toNat:Int)=kn:=⟨_,rfl⟩
 obtain⟨bl,R⟩:∃bl,m.body.length=bl:=⟨_,rfl⟩
 rw[G,R]at M;rw[G]at E;rw[G,R]
 have b:((str A.path).toList==(str m.path).toList)=decide (A.path=m.path):=by
  rw[ax,ax]
  by_cases h:A.path=m.path<;>simp[h]
 have d:((str A.target).toList==(str m.target).toList)=decide (A.target=m.target):=by
  rw[ax,ax]
  by_cases h:A.target=m.target<;>simp[h]
 rw[I];simp only;obtain⟨x0,L⟩:∃x,fp m.kind=x:=⟨_,rfl⟩
 obtain⟨g,T⟩:∃x,decide (A.path=m.path)=x:=⟨_,rfl⟩
 obtain⟨r,J⟩:∃x,decide (A.target=m.target)=x:=⟨_,rfl⟩
 rw[L]at E;rw[L,T,J];rw[T]at b;rw[J]at d;have D:=Qh ((Below.refl w.heap.size w).alloc (Qk _) (.cells #[.string (str m.path),.string (str m.target),.int .u8 kn,.int .i64 m.mode,.int .i64 m.uid,.int .i64 m.gid,.int .i64 m.time,.slice p bl c] 48));have W:=Qh (ao.new w 48 #[.string (str m.path),.string (str m.target),.int .u8 kn,.int .i64 m.mode,.int .i64 m.uid,.int .i64 m.gid,.int .i64 m.time,.slice p bl c]);clear L T J G R I V U h1 h2 hT
 cases x0 with
 |false=>
  go_enter Tryz.func52,Tryz.ntmps52
  go_wp2_with fail
  refine(E _).mono ?_;rintro e Z ⟨rfl,rfl⟩;go_wp2;go_ret;exact⟨rfl,D.out⟩
 |true=>
  have Y:∀(wi:World),Below (w.alloc (.cells #[.string (str m.path),.string (str m.target),.int .u8 kn,.int .i64 m.mode,.int .i64 m.uid,.int .i64 m.gid,.int .i64 m.time,.slice p bl c] 48)).heap.size (w.alloc (.cells #[.string (str m.path),.string (str m.target),.int .u8 kn,.int .i64 m.mode,.int .i64 m.uid,.int .i64 m.gid,.int .i64 m.time,.slice p bl c] 48)) wi→Below w.heap.size w (wi.alloc (.cells #[.string (str A.path),.string (str A.target),.int .u8 (A.kind.toNat:Int),.int .i64 A.mode,.int .i64 A.uid,.int .i64 A.gid,.int .i64 A.time,.slice none 0 0] 48))   :=fun wi B=>
   (D.out.trans (B.mono D.out.size)).alloc (D.out.trans (B.mono D.out.size)).size _
  have X:=Qh Y;clear Y
  by_cases O:H=0
  ·subst O
   go_enter Tryz.func52,Tryz.ntmps52
   go_wp2_with fail
   refine(E _).mono ?_;rintro e Z ⟨rfl,rfl⟩;go_wp2_with fail;refine(M.out _ D.out).mono ?_;rintro e f ⟨rfl,B⟩;have F:=Qh (X.out _ B);have N:=W.out.below (B.alloc B.size (.cells #[.string (str A.path),.string (str A.target),.int .u8 (A.kind.toNat:Int),.int .i64 A.mode,.int .i64 A.uid,.int .i64 A.gid,.int .i64 A.time,.slice none 0 0] 48)) W.out.lt;have l:=N.cell 0;have o:=N.cell 1;simp only[Qc,Qa,Qb]at l o;clear B N
   cases g with
   |false=>
    go_wp2;go_ret;exact⟨rfl,F.out⟩
   |true=>
    go_wp2;go_ret;exact⟨rfl,F.out⟩
  ·have q:(H==0)=false:=by simpa using O
   have hd:decide (H=0)=false:=by simpa using O
   rw[hd]
   go_enter Tryz.func52,Tryz.ntmps52
   go_wp2_with fail
   refine(E _).mono ?_;rintro e Z ⟨rfl,rfl⟩;go_wp2_with fail;refine(M.out _ D.out).mono ?_;rintro e f ⟨rfl,B⟩;have F:=Qh (X.out _ B);clear B;go_wp2;go_ret;exact⟨rfl,F.out⟩
end Mem
namespace fb
open Go.ChangeShapes Go.WideShapes Go.ChangeAt Go.RowKit Base bJ cr Bk Mem Go.Lib
variable {ms:List aq}
def MQ (xs:List MP):Prop:=∀x∈xs,x.m.path.length≤140737488351232∧x.m.target.length≤140737488351232
def eM (ms:List aq):Option Nat:=ms.findIdx? fun m=>!bk m
def Pt (o:Option Nat):Int:=match o with|some i=>(i:Int)|none=>-1
theorem rE (h:∀m∈ms,bk m=true):eM ms=none:=by
 rw[eM,List.findIdx?_eq_none_iff];intro m hm;rw[h m hm];rfl
theorem EZ (h:eM ms=none):∀m∈ms,bk m=true:=by
 rw[eM,List.findIdx?_eq_none_iff]at h;intro m hm
 simpa using h m hm
theorem AH (hk:k<ms.length) (h0:∀m∈ms.take k,bk m=true) (h:bk (ms.getD k bQ)=false):eM ms=some k:=by
 rw[eM,List.findIdx?_eq_some_iff_getElem];refine⟨hk,?_,fun j A=>?_⟩
 ·rw[List.getD,Qd hk]at h
  simpa using h
 ·have:=h0 ms[j] (by
   rw[List.mem_take_iff_getElem]
   exact⟨j,by omega,rfl⟩)
  simpa using this
theorem lD (m:aq) (p:Option Addr) (c:Nat) (w:World) (h1:m.path.length≤140737488351232) (h2:m.target.length≤140737488351232) (hT:Path.Tabs w):
 Calls Tryz.prog 58 #[.agg (cI m p c)] w fun e w'=>e=.returned (.bool (!bk m))∧Below w.heap.size w w':=by
 obtain⟨W0,D⟩:∃W0,w.alloc (.cells (cI m p c) 48)=W0:=⟨_,rfl⟩
 have B:Below w.heap.size w W0:=by rw[←D];exact(Below.refl _ _).alloc (Qk _) _
 have A:=lB m p c W0 h1 h2 (hT.below B);obtain⟨r,I⟩:∃r,bk m=r:=⟨_,rfl⟩
 rw[I]at A⊢;have J:=Qh B;have G:=Qh D;have E:=Qh A;unfold cI at G E⊢;clear B D A I
 go_enter Tryz.func58,Tryz.ntmps58
 go_wp2_with fail
 rw[G.out];refine E.out.mono ?_;rintro e M ⟨rfl,H⟩;have L:=Qh (J.out.trans (H.mono J.out.size));clear H;go_wp2;go_ret;exact⟨rfl,L.out⟩
theorem iF (xs:List MP) (k:Nat):(xs.map MP.m).getD k bQ=(xs.getD k bB).m:=by
 rw[List.getD,List.getD,List.getElem?_map]
 cases xs[k]? <;>rfl
theorem pb (p:Option Addr) (n c:Nat) (xs:List MP) (w:World) (h:cN w p n xs) (hn:n≤1000000000) (hF:MQ xs) (hT:Path.Tabs w):
 Calls Tryz.prog 57 #[.slice p n c,.func (.func 58) #[] #[]] w fun e w'=>e=.returned (.int .i64 (Pt (eM (xs.map MP.m))))∧Below w.heap.size w w':=by
 have Z:=Qh h;have I:=Qh h.1;have Y:=Qh hF;have d:=Qh hT;clear h hF hT
 go_enter Tryz.func57,Tryz.ntmps57
 go_wp2_with fail
 go_loopw [5,8] (fun _ i wr=>∃(j:Nat),j≤n∧i=.int .i64 (j:Int)∧Hid (∀m∈(xs.map MP.m).take j,bk m=true)∧Hid (Below w.heap.size w wr)) (fun _ i _=>n - (RowKit.intOf i).toNat)
 case atStart=>exact⟨0,Nat.zero_le _,rfl,Qh (by simp),Qh (Below.refl _ _)⟩
 case round=>
  obtain⟨j,q,rfl,hA,A⟩:=hrel
  by_cases N:j<n
  ·have L:j<xs.length:=by rw[I.out];exact N
   have T:=k8 xs j L;have M:=tC xs j L;have H:=Y.out _ T;obtain⟨b,o,rfl,g,W,c0,c1,c2,c3,D,c5,c6,c7⟩:=(Z.out.below A.out).cells N;have J:=iF xs j;obtain⟨y,hy⟩:∃y,xs.getD j bB=y:=⟨_,rfl⟩
   rw[hy]at M T H W c0 c1 c2 c3 D c5 c6 c7 J;rw[Nat.mul_comm]at c0 c1 c2 c3 D c5 c6 c7;have G:=lD y.m y.p y.c wr H.1 H.2 (d.out.below A.out);unfold cI at G;obtain⟨r,R⟩:∃r,bk y.m=r:=⟨_,rfl⟩
   rw[R]at G;have f:=Qh M;have V:=Qh R;have X:=Qh J;have U:=Qh G;have t:(j:Int)<(n:Int):=by omega
   clear M g hy G R T L H W J
   cases r with
   |true=>
    go_wp2_with fail
    refine U.out.mono ?_;rintro e l ⟨rfl,B⟩;have O:=Qh (A.out.trans (B.mono A.out.size));clear B c0 c1 c2 c3 D c5 c6 c7;go_wp2;go_roundw
    case rel=>exact⟨j+1,by omega,by go_num,Qh (fun x hx=>by
     rw[←List.map_take,f.out,List.mem_append]at hx;rcases hx with hx|hx
     ·exact hA.out x (by rw[←List.map_take];exact hx)
     ·rw[List.mem_singleton.1 hx];exact V.out),O⟩
    case measure=>simp[RowKit.intOf];omega
   |false=>
    go_wp2_with fail
    refine U.out.mono ?_;rintro e l ⟨rfl,B⟩;have O:=Qh (A.out.trans (B.mono A.out.size));have E:Hid (eM (xs.map MP.m)=some j):=Qh (AH (by rw[Qi,I.out];exact N) hA.out (by rw[X.out];exact V.out));clear B c0 c1 c2 c3 D c5 c6 c7;go_wp2;go_ret;exact⟨by rw[E.out];rfl,O.out⟩
  ·have u:¬((j:Int)<(n:Int)):=by omega
   have E:Hid (eM (xs.map MP.m)=none):=Qh (rE (fun x hx=>hA.out x (by rw[List.take_of_length_le (by rw[Qi,I.out];omega)];exact hx)));go_wp2;go_ret;exact⟨by rw[E.out];rfl,A.out⟩
end fb
namespace fb
open Go.ChangeShapes Go.WideShapes Go.ChangeAt Go.RowKit Base bJ cr Bk Mk Mem Go.Lib
variable {N:Nat} {S:St}
theorem si (k:UInt8) (n:UInt8) (z:Int) (hz:(n.toNat:Int)=z):(((k.toNat:Int))==z)=decide (k=n):=by
 subst hz
 by_cases h:k=n
 ·simp[h]
 ·have:¬k.toNat=n.toNat:=fun A=>h (UInt8.toNat.inj A)
  simp only[h,decide_false,beq_eq_false_iff_ne,ne_eq];omega
theorem yP (k:UInt8) (n:UInt8) (z:Int) (hz:(n.toNat:Int)=z):(((k.toNat:Int)) != z)=!decide (k=n):=by
 rw[←si k n z hz];rfl
def eT (f:List UInt8→Option Nat):List UInt8→Option Value:=fun x=>(f x).map fun n=>.int .i64 (n:Int)
structure kP (W:World) (g B:Nat) (p:Option Addr) (n c:Nat) (f:List UInt8→Option Nat):Prop where
 obj:ao W g 150 #[.slice p n c,.map (some B)]
 map:ct gO W B (eT f)
theorem kW {t:TypeId} {cs:Array Value} {K:gL α} {f:α→Option Value} (h:ao W g t cs) (hm:ct K W B f):g≠B:=fun e=>by
 obtain⟨es,clock,A,_⟩:=hm;subst e;have D:W.heap[g]? =some (.cells cs t (0,0)):=h;rw[D]at A
 cases A
theorem kP.below {c:Nat} {f:List UInt8→Option Nat} (h:kP W g B p n c f) (hb:Below W.heap.size W W'):kP W' g B p n c f:=
 ⟨h.obj.below hb h.obj.lt,h.map.kept (Kept.aM hb af) (fun h=>h.elim)⟩
def Ah (w:World) (p:Option Addr) (n c:Nat) (e:Ending) (w':World):Prop:=
 ∃g B,e=.returned (.pointer (some ⟨g,0,none⟩))∧kP w' g B p n c (fun _=>none)∧w.heap.size≤g∧w.heap.size≤B∧Below w.heap.size w w'
theorem B6 (p:Option Addr) (n c:Nat) (w:World):
 Calls Tryz.prog 59 #[.slice p n c] w (Ah w p n c):=by
 have D:=@run_makeMap Tryz.prog
 go_enter Tryz.func59,Tryz.ntmps59
 go_wp2;go_ret;have A:=(iw gO w)
 have B:ao ((w.alloc (.map #[] 0)).alloc (.cells #[.slice p n c,.map (some w.heap.size)] 150)) (w.heap.size+1) 150 #[.slice p n c,.map (some w.heap.size)]:=by
  have:=ao.new (w.alloc (.map #[] 0)) 150 #[.slice p n c,.map (some w.heap.size)]
  rwa [World.size_alloc]at this
 refine⟨w.heap.size+1,w.heap.size,rfl,⟨B,?_⟩,by omega,Qk _,((Below.refl _ _).alloc (Qk _) _).alloc (by simp) _⟩;exact A.kept ((Kept.refl af _).alloc _) (fun h=>h.elim)
theorem yt (q r:α→Bool) (h:∀x,r x=true→q x=true) (l:List α):(l.filter q).find? r=l.find? r:=by
 induction l with
 |nil=>rfl
 |cons a l ih=>
  rw[List.filter_cons]
  by_cases A:q a=true
  ·rw[if_pos A,List.find?_cons,List.find?_cons,ih]
  ·rw[if_neg A,List.find?_cons,ih]
   have:r a=false:=by
    cases B:r a with
    |false=>rfl
    |true=>exact absurd (h a B) A
   rw[this]
theorem JN (S:St) (p x:List UInt8) (n:Nat):look (iW S p n) x=if x=p then some n else look S x:=by
 unfold look iW;rw[List.find?_append]
 by_cases h:x=p
 ·subst h
  rw[if_pos rfl]
  have:(S.filter fun e=>!(e.1==x)).find? (fun e=>e.1==x)=none:=by
   rw[List.find?_eq_none];intro e he;rw[List.mem_filter]at he
   simpa using he.2
  rw[this];simp
 ·rw[if_neg h,yt _ _ (fun e he=>by
   have:e.1=x:=by simpa using he
   simpa [this]using h)]
  have A:([(p,n)]:St).find? (fun e=>e.1==x)=none:=by
   have:(p==x)=false:=by simpa using fun e:p=x=>h e.symm
   simp[this]
  rw[A,Option.or_none]
def H6 (S:St) (N:Nat):Prop:=∀e∈S,e.2<N
theorem H6.look (h:H6 S N) {x:List UInt8} (hl:look S x=some n):n<N:=by
 unfold fb.look at hl;rw[Option.map_eq_some_iff]at hl;obtain⟨e,he,rfl⟩:=hl;exact h e (List.mem_of_find?_eq_some he)
theorem H6.put (h:H6 S N) {p:List UInt8} (hn:n<N):H6 (iW S p n) N:=fun e he=>by
 unfold iW at he;rw[List.mem_append,List.mem_filter]at he;rcases he with he|he
 ·exact h e he.1
 ·rw[List.mem_singleton.1 he];exact hn
theorem Mc {ms:List aq} {S':St} (h:iM ms S i=some S') (hS:H6 S ms.length) (hi:i<ms.length):H6 S' ms.length:=by
 unfold iM at h
 dsimp only at h
 split at h
 ·split at h
  ·cases h
  ·next n A=>
   split at h
   ·cases h;exact hS.put (hS.look A)
   ·cases h
 ·cases h;exact hS.put hi
def Db (W:World) (ms:List aq) (S:St) (i g B:Nat) (p:Option Addr) (n c:Nat) (e:Ending) (w':World):Prop:=
 e=.returned (.bool (iM ms S i).isSome)∧kP w' g B p n c (look ((iM ms S i).getD S))∧Kept (aw B) W w'
theorem vg (S:St) (x:List UInt8) (n:Nat):eT (look (iW S x n))=fun y=>if y=x then some (.int .i64 (n:Int))else eT (look S) y:=by
 funext y
 unfold eT;rw[JN]
 by_cases h:y=x<;>simp[h]
theorem wY (w:World) (g B:Nat) (p:Option Addr) (n c:Nat) (xs:List MP) (S:St) (i:Nat) (W:World) (hM:cN w p n xs) (hb:Below w.heap.size w W) (hB:w.heap.size≤B) (hn:n≤1000000000) (hi:i<n) (hS:H6 S n) (hL:kP W g B p n c (look S)):
 Calls Tryz.prog 60 #[.pointer (some ⟨g,0,none⟩),.int .i64 (i:Int)] W (Db W (xs.map MP.m) S i g B p n c):=by
 have HL:=Qh hM.1;have I7:=kW hL.obj hL.map;have t:=hM.below hb;obtain⟨u,o1,rfl,b7,bP,ir⟩:=t.jx hi;have d:=iF xs i;obtain⟨y,hy⟩:∃y,xs.getD i bB=y:=⟨_,rfl⟩
 rw[hy]at bP ir d;obtain⟨W1,I⟩:∃W1,W.alloc (.cells y.cs 48)=W1:=⟨_,rfl⟩
 have V:Below W.heap.size W W1:=by rw[←I];exact(Below.refl _ _).alloc (Qk _) _
 have M:ao W1 W.heap.size 48 y.cs:=by rw[←I];exact ao.new W _ _
 have X:=hL.below V;have HLA:=Qh hL;have A:=Qh X;have PZ:=Qh I7;have O:=Qh V;have jt:=Qh (t.below V);have HS:=Qh hS;have HY:=Qh M;have Ha:=Qh (And.intro hL.obj.lt hL.map.lt);have k0:=hL.obj.cell 0;have g0:=X.obj.cell 0;have g1:=X.obj.cell 1;have Z:=M.cell 0;have y1:=M.cell 1;have y2:=M.cell 2;simp only[MP.cs,cI,Qc,Qa,Qb]at k0 g0 g1 Z y1 y2;have ek:=si y.m.kind 49 49 rfl;obtain⟨kn,bV⟩:∃k:Int,(y.m.kind.toNat:Int)=k:=⟨_,rfl⟩
 obtain⟨c0,c1,c2,c3,c4,c5,c6,c7⟩:=ir;unfold MP.cs cI at I;rw[bV]at I y2 c2 ek;have T:=Qh d;have hiz:(i:Int)<(n:Int):=by omega
 have O3:(0:Int)≤(i:Int):=by omega
 clear hM hb t b7 bP hy V M hL X I7 hS bV d
 go_enter Tryz.func60,Tryz.ntmps60
 go_upto_region 2 with fail
 clear c0 c1 c2 c3 c4 c5 c6 c7 I
 by_cases D:y.m.kind=49
 ·rw[decide_eq_true D]at ek
  have LY:=A.out.map.look_ok (P:=Tryz.prog) Tryz.underlying99 Tryz.underlying9 (z:=.int .i64 0) (fun w=>Tryz.zeroValue3 w) y.m.target
  have U:Hid (∀q:gw W1,(Instr.lookup 99 (.map (some B)) (.string (str y.m.target)) true).run Tryz.prog q.w'=.ok (.tuple #[(eT (look S) y.m.target).getD (.int .i64 0),.bool (eT (look S) y.m.target).isSome]) q.w'):=Qh (fun q=>
   (A.out.map.kept (Kept.aM q.bel af) (fun h=>h.elim)).look_ok (P:=Tryz.prog) Tryz.underlying99 Tryz.underlying9 (z:=.int .i64 0) (fun w=>Tryz.zeroValue3 w) y.m.target)
  clear LY;obtain⟨fo,b⟩:∃fo,look S y.m.target=fo:=⟨_,rfl⟩
  have Y:=Qh b;unfold eT at U;rw[b]at U;have f:=Qh D;clear b D
  cases fo with
  |none=>
   have E:Hid (iM (xs.map MP.m) S i=none):=Qh (by
    unfold iM;rw[T.out]
    dsimp only
    rw[if_pos f.out,Y.out])
   have lk:∀m,(Instr.lookup 99 (.map (some B)) (.string (str y.m.target)) true).run Tryz.prog (W1.drewN m)=.ok (.tuple #[.int .i64 0,.bool false]) (W1.drewN m):=fun m=>U.out ⟨W1.drewN m,below_drewN (Below.refl _ _) m⟩
   go_wp2_with fail
   go_quiet (fail)
   go_wp2;go_ret;exact⟨by rw[E.out];rfl,by rw[E.out];exact A.out.below (below_drewN (Below.refl _ _) _),(Kept.aM O.out (aw B)).drewN _⟩
  |some n0=>
   have Sz:n0<n:=HS.out.look Y.out;obtain⟨b2,o2,DB,bI,J,la⟩:=jt.out.jx Sz;simp only[Option.some.injEq,Addr.mk.injEq,and_true]at DB;obtain⟨rfl,rfl⟩:=DB;have r:=iF xs n0;obtain⟨v,hv⟩:∃v,xs.getD n0 bB=v:=⟨_,rfl⟩
   rw[hv]at la r;have z2:=la.2.2.1;have o:∀m,(W1.drewN m).cell? ⟨u,o1+n0*8+2,none⟩=some (.int .u8 (v.m.kind.toNat:Int)):=fun m=>z2
   have ev:=yP v.m.kind 48 48 rfl;obtain⟨kv,Jc⟩:∃k:Int,(v.m.kind.toNat:Int)=k:=⟨_,rfl⟩
   rw[Jc]at ev z2 o;have mF:=Qh r;have lk:∀m,(Instr.lookup 99 (.map (some B)) (.string (str y.m.target)) true).run Tryz.prog (W1.drewN m)=.ok (.tuple #[.int .i64 (n0:Int),.bool true]) (W1.drewN m):=fun m=>U.out ⟨W1.drewN m,below_drewN (Below.refl _ _) m⟩
   have ab2:(n0:Int)<(n:Int):=by omega
   have ab1:(0:Int)≤(n0:Int):=by omega
   clear bI J la hv Jc r
   by_cases G:v.m.kind=48
   ·rw[decide_eq_true G,Bool.not_true]at ev
    have E:Hid (iM (xs.map MP.m) S i=some (iW S y.m.path n0)):=Qh (by
     unfold iM;rw[T.out]
     dsimp only
     rw[if_pos f.out,Y.out]
     dsimp only
     rw[mF.out,if_pos G])
    clear G;go_wp2_with fail
    go_quiet (fail)
    obtain⟨W2,fM⟩:∃W2,W1.drewN nq=W2:=⟨_,rfl⟩
    have H:=A.out.below (below_drewN (Below.refl W1.heap.size W1) nq);have J:=O.out.trans ((below_drewN (Below.refl W1.heap.size W1) nq).mono O.out.size);have l:=HY.out.drewN nq;have z2':=o nq;rw[fM]at H J l z2'⊢;clear fM lk o z2 g0 g1 Z y1 y2;have g0:=H.obj.cell 0;have g1:=H.obj.cell 1;have Z:=l.cell 0;simp only[MP.cs,cI,Qc,Qa,Qb]at g0 g1 Z;have vT:=Qh H;have NM:=Qh J;clear H J l;go_wp2_with fail
    go_still_tail 7,(by kernel_rfl)
    refine cD (K:=gO) rfl (.tmp 45) (.tmp 47) (.tmp 48) rfl Tryz.underlying99 Tryz.underlying9 B (vT.out.map.kept (Kept.refl af W2).drew id) rfl y.m.path rfl (.int .i64 (n0:Int)) rfl ?_;intro w5 R L p8
    have F:Hid (kP w5 g B (some ⟨u,o1,none⟩) n c (look (iW S y.m.path n0))∧Kept (aw B) W w5):=by
     have N:Kept (aw B) W2 w5:=((Kept.refl (aw B) W2).drew).trans L.out;refine Qh ⟨⟨vT.out.obj.bG N PZ.out,?_⟩,(Kept.aM NM.out (aw B)).trans N⟩;rw[vg];exact R.out
    clear R L p8;go_wp2;go_ret;exact⟨by rw[E.out];rfl,by rw[E.out];exact F.out.1,F.out.2⟩
   ·rw[decide_eq_false G,Bool.not_false]at ev
    have E:Hid (iM (xs.map MP.m) S i=none):=Qh (by
     unfold iM;rw[T.out]
     dsimp only
     rw[if_pos f.out,Y.out]
     dsimp only
     rw[mF.out,if_neg G])
    clear G;go_wp2_with fail
    go_quiet (fail)
    go_wp2;go_ret;exact⟨by rw[E.out];rfl,by rw[E.out];exact A.out.below (below_drewN (Below.refl _ _) _),(Kept.aM O.out (aw B)).drewN _⟩
 ·rw[decide_eq_false D]at ek
  have E:Hid (iM (xs.map MP.m) S i=some (iW S y.m.path i)):=Qh (by
   unfold iM;rw[T.out]
   dsimp only
   rw[if_neg D])
  clear D;go_wp2_with fail
  go_still_tail 7,(by kernel_rfl)
  refine cD (K:=gO) rfl (.tmp 45) (.tmp 47) (.tmp 48) rfl Tryz.underlying99 Tryz.underlying9 B (A.out.map.kept (Kept.refl af W1).drew id) rfl y.m.path rfl (.int .i64 (i:Int)) rfl ?_;intro w5 R L p8
  have F:Hid (kP w5 g B (some ⟨u,o1,none⟩) n c (look (iW S y.m.path i))∧Kept (aw B) W w5):=by
   have N:Kept (aw B) W1 w5:=((Kept.refl (aw B) W1).drew).trans L.out;refine Qh ⟨⟨A.out.obj.bG N PZ.out,?_⟩,(Kept.aM O.out (aw B)).trans N⟩;rw[vg];exact R.out
  clear R L p8;go_wp2;go_ret;exact⟨by rw[E.out];rfl,by rw[E.out];exact F.out.1,F.out.2⟩
end fb
namespace fb
open Mem
variable {ms:List aq} {f:Nat} {S T:St}
def gv (S:St):Prop:=(S.map (·.1)).Nodup
theorem gv.put (h:gv S) (p:List UInt8) (n:Nat):gv (iW S p n):=by
 unfold gv iW at*;rw[List.map_append,List.nodup_append];refine⟨(List.Sublist.nodup (List.Sublist.map _ (List.filter_sublist)) h),by simp,?_⟩;intro a A b B;simp only[List.map_cons,List.map_nil,List.mem_singleton]at B;subst B;rw[List.mem_map]at A;obtain⟨e,he,rfl⟩:=A;rw[List.mem_filter]at he
 simpa using he.2
theorem yW (h:gv S) {e:List UInt8 × Nat} (he:e∈S):look S e.1=some e.2:=by
 unfold look gv at*
 induction S with
 |nil=>cases he
 |cons a S ih=>
  rw[List.map_cons,List.nodup_cons]at h;rw[List.find?_cons]
  by_cases A:a.1=e.1
  ·have:(a.1==e.1)=true:=by simpa using A
   rw[this];rcases List.mem_cons.1 he with rfl|V6
   ·rfl
   ·exact absurd (List.mem_map.2 ⟨e,V6,A.symm⟩) h.1
  ·have:(a.1==e.1)=false:=by simpa using A
   rw[this];rcases List.mem_cons.1 he with rfl|V6
   ·exact absurd rfl A
   ·exact ih h.2 V6
theorem lA (x:List UInt8):(look S x).isSome=true↔x∈S.map (·.1):=by
 unfold look;rw[Option.isSome_map,List.find?_isSome,List.mem_map];constructor
 ·rintro⟨e,he,h⟩;exact⟨e,he,by simpa using h⟩
 ·rintro⟨e,he,h⟩;exact⟨e,he,by simpa using h⟩
theorem BN {S':St} (h:iM ms S i=some S') (hS:gv S):gv S':=by
 unfold iM at h
 dsimp only at h
 split at h
 ·split at h
  ·cases h
  ·split at h
   ·cases h;exact hS.put _ _
   ·cases h
 ·cases h;exact hS.put _ _
theorem ly (ms:List aq):∀k S,cR ms k=.ok S→gv S
 |0,S,h=>by cases h;exact List.nodup_nil
 |k+1,S,h=>by
  unfold cR at h;split at h
  ·cases h
  ·next A B=>
   split at h
   ·cases h
   ·next D h1=>cases h;exact BN h1 (ly ms k A B)
theorem sk (ms:List aq):∀k S,k≤ms.length→cR ms k=.ok S→H6 S ms.length
 |0,S,_,h=>by cases h;intro e he;cases he
 |k+1,S,hk,h=>by
  unfold cR at h;split at h
  ·cases h
  ·next A B=>
   split at h
   ·cases h
   ·next D h1=>cases h;exact Mc h1 (sk ms k A (by omega) B) (by omega)
def De (T:St):Prop:=T.Pairwise fun a b=>dF a.1 b.1=true
theorem FY (a b c:List UInt8 × Nat) (h1:JH a b=true) (h2:JH b c=true):JH a c=true:=by
 unfold JH at*;simp only[Bool.not_eq_true']at*
 cases h:dF c.1 a.1 with
 |false=>rfl
 |true=>rw[xi (a:=b.1) (b:=c.1) (c:=a.1) h2 h]at h1;cases h1
theorem FX (a b:List UInt8 × Nat):(JH a b||JH b a)=true:=by
 unfold JH
 cases h:dF b.1 a.1 with
 |false=>simp
 |true=>rw[oe h];simp
theorem ga (S:St):(ef S).Perm S:=List.mergeSort_perm S JH
theorem kD (h:gv S):De (ef S):=by
 have h1:=List.pairwise_mergeSort FY FX S;have A:((ef S).map (·.1)).Nodup:=((ga S).map _).nodup_iff.2 h;have B:(ef S).Pairwise fun a b=>a.1≠b.1:=(List.pairwise_map (f:=fun e:List UInt8 × Nat=>e.1)).1 A
 refine((show(ef S).Pairwise (fun a b=>JH a b=true)from h1).and B).imp fun⟨h4,h5⟩=>?_
 unfold JH at h4;exact ko (by simpa using h4) (fun e=>h5 e.symm)
theorem CI (h:gv S) (hp:T.Perm S) (hr:De T):T=ef S:=by
 have A:T.Pairwise fun(a b:List UInt8 × Nat)=>dF a.1 b.1=true:=hr
 have B:(ef S).Pairwise fun(a b:List UInt8 × Nat)=>dF a.1 b.1=true:=kD h
 refine List.Perm.eq_of_pairwise (fun a b _ _ (h1:dF a.1 b.1=true) (h2:dF b.1 a.1=true)=>?_) A B (hp.trans (ga S).symm);rw[oe h1]at h2;cases h2
theorem FR (h:gv S) {ts:List (List UInt8)} (hp:ts.Perm (S.map (·.1))) (hr:ts.Pairwise fun a b=>dF a b=true):ef S=ts.map fun x=>(x,(look S x).getD 0):=by
 symm
 refine CI h ?_ ?_
 ·have:=hp.map fun x=>(x,(look S x).getD 0)
  refine this.trans (List.Perm.of_eq ?_);rw[List.map_map]
  conv=>rhs;rw[←List.map_id S]
  refine List.map_congr_left fun e he=>?_
  simp only[Function.comp,yW h he,Option.getD_some,id]
 ·unfold De
  rw[List.pairwise_map];exact hr
theorem BR (hk:k<T.length) (h:∀j,j<k→(T.getD j ([],0)).2≠(T.getD k ([],0)).2):iN T (T.getD k ([],0)).2=(T.getD k ([],0)).1:=by
 unfold iN;have A:T.getD k ([],0)=T[k]:=by rw[List.getD,Qd hk];rfl
 rw[A]at h⊢
 have:T.find? (fun e=>e.2==T[k].2)=some T[k]:=by
  rw[List.find?_eq_some_iff_getElem];refine⟨by simp,k,hk,rfl,fun j B=>?_⟩;have:=h j B;rw[List.getD,Qd (show j<T.length by omega)]at this
  simpa using this
 rw[this];rfl
def dy (T:St) (n:Nat):Option Nat:=T.findIdx? fun e=>e.2==n
theorem qc (h:dy T n=some f):iN T n=(T.getD f ([],0)).1:=by
 unfold dy at h;rw[List.findIdx?_eq_some_iff_getElem]at h;obtain⟨hf,h1,A⟩:=h;unfold iN
 have:T.find? (fun e=>e.2==n)=some T[f]:=by
  rw[List.find?_eq_some_iff_getElem];exact⟨h1,f,hf,rfl,fun j B=>by simpa using A j B⟩
 rw[this,List.getD,Qd hf];rfl
theorem fh (T:St) (k n:Nat) (hk:k<T.length):dy (T.take (k+1)) n=(dy (T.take k) n).or (if(T.getD k ([],0)).2=n then some k else none):=by
 unfold dy;rw[List.take_succ_eq_append_getElem hk,List.findIdx?_append]
 congr 1
 have A:T.getD k ([],0)=T[k]:=by rw[List.getD,Qd hk];rfl
 rw[A]
 by_cases h:T[k].2=n
 ·simp[h,List.findIdx?_cons]
  omega
 ·have:(T[k].2==n)=false:=by simpa using h
  simp[h,List.findIdx?_cons,this]
theorem wG (h:dy (T.take k) n=some f):dy T n=some f:=by
 unfold dy at*
 conv=>lhs;rw[←List.take_append_drop k T,List.findIdx?_append,h]
 rfl
def leads (ms:List aq) (T:St) (k n:Nat):Option Nat:=if(ms.getD n bQ).kind=48 then dy (T.take k) n else none
theorem BS (ms:List aq) (T:St) (n:Nat):leads ms T 0 n=none:=by
 unfold leads;split<;>rfl
theorem yT (hk:k<T.length) (h:(ms.getD (T.getD k ([],0)).2 bQ).kind≠48):leads ms T (k+1)=leads ms T k:=by
 funext n
 unfold leads;split
 ·next A=>
  rw[fh T k n hk,if_neg (fun e=>h (by rw[e];exact A)),Option.or_none]
 ·rfl
theorem F0 (hk:k<T.length) (h:leads ms T k (T.getD k ([],0)).2=some f):leads ms T (k+1)=leads ms T k:=by
 funext n
 unfold leads at*;split
 ·next A=>
  rw[fh T k n hk]
  by_cases e:(T.getD k ([],0)).2=n
  ·rw[e,if_pos A]at h
   rw[h];rfl
  ·rw[if_neg e,Option.or_none]
 ·rfl
theorem FZ (hk:k<T.length) (hf:(ms.getD (T.getD k ([],0)).2 bQ).kind=48) (h:leads ms T k (T.getD k ([],0)).2=none):leads ms T (k+1)=fun n=>if n=(T.getD k ([],0)).2 then some k else leads ms T k n:=by
 funext n
 unfold leads at*;rw[if_pos hf]at h
 by_cases e:n=(T.getD k ([],0)).2
 ·rw[if_pos e,e,if_pos hf,fh T k _ hk,h,if_pos rfl];rfl
 ·rw[if_neg e]
  split
  ·rw[fh T k n hk,if_neg (fun h=>e h.symm),Option.or_none]
  ·rfl
theorem sx (hk:k<T.length) (hf:(ms.getD (T.getD k ([],0)).2 bQ).kind=48):iN T (T.getD k ([],0)).2=(T.getD ((leads ms T k (T.getD k ([],0)).2).getD k) ([],0)).1:=by
 have h1:dy (T.take (k+1)) (T.getD k ([],0)).2=some ((leads ms T k (T.getD k ([],0)).2).getD k):=by
  rw[fh T k _ hk,if_pos rfl];unfold leads;rw[if_pos hf]
  cases dy (T.take k) (T.getD k ([],0)).2<;>rfl
 exact qc (wG h1)
theorem JI (h:leads ms T k n=some f):f<k∧f<T.length:=by
 unfold leads at h;split at h
 ·unfold dy at h
  rw[List.findIdx?_eq_some_iff_getElem]at h;obtain⟨h1,_⟩:=h;rw[Qg]at h1;omega
 ·cases h
end fb
namespace fb
open Go.ChangeShapes Go.WideShapes Go.ChangeAt Go.RowKit Base bJ cr Bk Mk Mem Go.Lib
variable {ms:List aq} {S S':St}
theorem th {fn:Func} (hf:fn.results=#[.tmp 2,.cell 3 32]) (tmps:Array Value) (w:World) (g:Nat) (v:Value) (ht:tmps.getD 3 undef=.pointer (some ⟨g,0,none⟩)) (hv:tmps.getD 2 undef=v)
 (a b:Int) (hb:ao w g 32 #[.int .i64 a,.int .i64 b]):(results fn tmps).run Tryz.prog w=.ok (.tuple #[v,.agg #[.int .i64 a,.int .i64 b]]) w:=by
 have c0:=hb.cell 0;have c1:=hb.cell 1;simp only[Qc,Qa,Qb]at c0 c1;clear hb;have hl:(loadVar 32 ⟨g,0,none⟩).run Tryz.prog w=.ok (.agg #[.int .i64 a,.int .i64 b]) w:=by go_simp
 have B:tmps[3]?.getD undef=.pointer (some ⟨g,0,none⟩):=by simpa using ht
 have A:tmps[2]?.getD undef=v:=by simpa using hv
 simp only[results,hf];simp[Result.andThen,B,A,asAddr,hl]
theorem nJ {x y:Value} (h:ao w g 32 #[x,y]) (a b:Value):ao ((w.setCell ⟨g,0,none⟩ a).setCell ⟨g,1,none⟩ b) g 32 #[a,b]:=
 (h.set 0 a (by show 0<2;decide)).set 1 b (by show 1<2;decide)
theorem J9 (S:St) (p:List UInt8) (n:Nat):(iW S p n).length≤S.length+1:=by
 unfold iW;rw[Qf];have:=List.length_filter_le (fun e:List UInt8 × Nat=>!(e.1==p)) S
 simpa using this
structure Oc (ms:List aq) (S:St) (k:Nat):Prop where
 len:S.length≤k
 from_:∀e∈S,∃j,j<k∧e.1=(ms.getD j bQ).path
theorem Oc.put (h:Oc ms S k) (n:Nat):Oc ms (iW S (ms.getD k bQ).path n) (k+1):=by
 refine⟨Nat.le_trans (J9 _ _ _) (Nat.succ_le_succ h.len),fun e he=>?_⟩;unfold iW at he;rw[List.mem_append,List.mem_filter]at he;rcases he with he|he
 ·obtain⟨j,B,A⟩:=h.from_ e he.1
  exact⟨j,by omega,A⟩
 ·rw[List.mem_singleton.1 he]
  exact⟨k,by omega,rfl⟩
theorem Oc.lay (h:Oc ms S k) (hl:iM ms S k=some S'):Oc ms S' (k+1):=by
 unfold iM at hl
 dsimp only at hl
 split at hl
 ·split at hl
  ·cases hl
  ·split at hl
   ·cases hl;exact h.put _
   ·cases hl
 ·cases hl;exact h.put _
theorem sr (ms:List aq):∀k S,cR ms k=.ok S→Oc ms S k
 |0,S,h=>by cases h;exact⟨Qk _,fun e he=>by cases he⟩
 |k+1,S,h=>by
  unfold cR at h;split at h
  ·cases h
  ·next A B=>
   split at h
   ·cases h
   ·next D h1=>cases h;exact(sr ms k A B).lay h1
theorem sv (h:cR ms k=.ok S) (hl:iM ms S k=some S'):cR ms (k+1)=.ok S':=by
 unfold cR;rw[h]
 dsimp only
 rw[hl]
theorem BO (h:cR ms k=.ok S) (hl:iM ms S k=none):cR ms (k+1)=.error k:=by
 unfold cR;rw[h]
 dsimp only
 rw[hl]
theorem su {ms:List aq} {k:Nat} {i:Nat} (h:cR ms k=.error i):∀d,cR ms (k+d)=.error i
 |0=>h
 |d+1=>by
  show cR ms ((k+d)+1)=_;unfold cR;rw[su h d]
theorem uJ (h:eM ms=some i):ej ms=([],1,i):=by
 unfold eM at h;unfold ej;rw[h]
theorem rO (h:eM ms=none) (h2:cR ms ms.length=.error i):ej ms=([],7,i):=by
 unfold eM at h;unfold ej;rw[h]
 dsimp only
 rw[h2]
theorem rP (h:eM ms=none) (h2:cR ms ms.length=.ok S):ej ms=(dQ ms S,0,0):=by
 unfold eM at h;unfold ej;rw[h]
 dsimp only
 rw[h2]
end fb
namespace Mem
open Go.ChangeShapes Go.WideShapes Go.ChangeAt Go.RowKit Base bJ cr Bk Hp Head qR Path Go.Lib
theorem Fj (p q:Option Addr) (n c m d:Nat) (a b:List UInt8) (w:World) (ha:a.length=n) (hb:b.length=m) (h1:cj w p n a) (h2:cj w q m b):
 Calls Tryz.prog 78 #[.slice p n c,.slice q m d] w fun e w'=>e=.returned (.bool (decide (a=b)))∧w=w':=by
 have c1:(convert 26 9 (.slice p n c)).run Tryz.prog w=.ok (.string (str a)) w:=cK h1 ha _ _ _ Tryz.underlying26 Tryz.underlying5 Tryz.underlying9 _;have c2:(convert 26 9 (.slice q m d)).run Tryz.prog w=.ok (.string (str b)) w:=cK h2 hb _ _ _ Tryz.underlying26 Tryz.underlying5 Tryz.underlying9 _
 have A:((str a).toList==(str b).toList)=decide (a=b):=by
  rw[ax,ax]
  by_cases h:a=b<;>simp[h]
 clear h1 h2
 go_enter Tryz.func78,Tryz.ntmps78
 go_wp2;go_ret;exact⟨rfl,rfl⟩
theorem yp (a b c d a' b' c' d':Int) (n:Nat) (w:World):(Op.equalIn (n+1+1) 46 (.agg #[.int .i64 a,.int .i64 b,.int .i64 c,.int .i64 d]) (.agg #[.int .i64 a',.int .i64 b',.int .i64 c',.int .i64 d'])).run Tryz.prog w=.ok (decide (a=a'∧b=b'∧c=c'∧d=d')) w:=by
 have A:Tryz.prog.underlying 46=some (.struct (Tryz.prog.fieldsOf 46)):=by kernel_rfl
 have B:Tryz.prog.stoodInHeld 46=false:=by kernel_rfl
 rw[run_equalIn_agg (P:=Tryz.prog) w (n+1) 46 _ _ A B];clear A B;simp only[Program.fieldsOf,Tryz.underlying46]
 go_simp
 by_cases D:a=a'<;>by_cases E:b=b'<;>by_cases G:c=c'<;>by_cases H:d=d'<;>simp[D,E,G,H]
theorem IE (a b c d a' b' c' d':Int) (w:World):(binOp .eql 46 (.agg #[.int .i64 a,.int .i64 b,.int .i64 c,.int .i64 d]) (.agg #[.int .i64 a',.int .i64 b',.int .i64 c',.int .i64 d'])).run Tryz.prog w=.ok (.bool (decide (a=a'∧b=b'∧c=c'∧d=d'))) w:=by
 rw[run_eql_struct,show(10000:Nat)=9998+1+1 from rfl,yp];rfl
theorem MF (a b:aq):decide (a=b)=(decide (a.path=b.path)&&(decide (a.target=b.target)&&((((a.kind.toNat:Int))==(b.kind.toNat:Int))&&(decide (a.mode=b.mode∧a.uid=b.uid∧a.gid=b.gid∧a.time=b.time)&&decide (a.body=b.body))))):=by
 have s2:(((a.kind.toNat:Int))==(b.kind.toNat:Int))=decide (a.kind=b.kind):=by
  by_cases h:a.kind=b.kind
  ·simp[h]
  ·have:¬a.kind.toNat=b.kind.toNat:=fun A=>h (UInt8.toNat.inj A)
   simp only[h,decide_false,beq_eq_false_iff_ne,ne_eq];omega
 rw[s2,Bool.eq_iff_iff];simp only[decide_eq_true_eq,Bool.and_eq_true];constructor
 ·rintro rfl;simp
 ·rintro⟨h1,h2,h3,⟨h4,h5,h6,h7⟩,h8⟩
  cases a;cases b;simp_all
end Mem
namespace fb
open Go.ChangeShapes Go.WideShapes Go.ChangeAt Go.RowKit Base bJ cr Bk Mem Go.Lib
theorem On (a b:av):Qn a b=(decide (a.path=b.path)&&(decide (a.target=b.target)&&((((a.kind.toNat:Int))==(b.kind.toNat:Int))&&(decide (a.mode=b.mode∧a.uid=b.uid∧a.gid=b.gid∧a.time=b.time)&&decide (a.body=b.body))))):=MF a.mem b.mem
theorem Oo (a b:av):Qn a b=(decide (a.path=b.path)&&((((a.kind.toNat:Int))==(b.kind.toNat:Int))&&(decide (a.mode=b.mode∧a.uid=b.uid∧a.gid=b.gid∧a.time=b.time)&&(decide (a.target=b.target)&&decide (a.body=b.body))))):=by
 rw[On]
 cases decide (a.path=b.path)<;>cases decide (a.target=b.target)<;>cases (((a.kind.toNat:Int))==(b.kind.toNat:Int))<;>cases decide (a.mode=b.mode∧a.uid=b.uid∧a.gid=b.gid∧a.time=b.time)<;>cases decide (a.body=b.body)<;>rfl
theorem zD (a b:NP) (w:World) (h1:fa w a) (h2:fa w b):
 Calls Tryz.prog 30 #[.agg a.cs,.agg b.cs] w fun e w'=>e=.returned (.bool (Qn a.m b.m))∧Below w.heap.size w w':=by
 rw[Oo];have h1:=h1.iZ;have h2:=h2.iZ;unfold NP.cs kq;obtain⟨n,H⟩:∃n,a.m.body.length=n:=⟨_,rfl⟩
 obtain⟨m,hm⟩:∃m,b.m.body.length=m:=⟨_,rfl⟩
 obtain⟨I,T⟩:∃k:Int,(a.m.kind.toNat:Int)=k:=⟨_,rfl⟩
 obtain⟨J,U⟩:∃k:Int,(b.m.kind.toNat:Int)=k:=⟨_,rfl⟩
 rw[H]at h1;rw[hm]at h2;rw[H,hm,T,U]
 have Y:((str a.m.path).toList==(str b.m.path).toList)=decide (a.m.path=b.m.path):=by
  rw[ax,ax]
  by_cases h:a.m.path=b.m.path<;>simp[h]
 have Z:((str a.m.target).toList==(str b.m.target).toList)=decide (a.m.target=b.m.target):=by
  rw[ax,ax]
  by_cases h:a.m.target=b.m.target<;>simp[h]
 have f:=fun w=>IE a.m.mode a.m.uid a.m.gid a.m.time b.m.mode b.m.uid b.m.gid b.m.time w
 have g:((str a.m.body).toList==(str b.m.body).toList)=decide (a.m.body=b.m.body):=by
  rw[ax,ax]
  by_cases h:a.m.body=b.m.body<;>simp[h]
 obtain⟨o,O⟩:∃x,decide (a.m.path=b.m.path)=x:=⟨_,rfl⟩
 obtain⟨q,M⟩:∃x,decide (a.m.target=b.m.target)=x:=⟨_,rfl⟩
 obtain⟨r,d⟩:∃x,(I==J)=x:=⟨_,rfl⟩
 obtain⟨t,N⟩:∃x,decide (a.m.mode=b.m.mode∧a.m.uid=b.m.uid∧a.m.gid=b.m.gid∧a.m.time=b.m.time)=x:=⟨_,rfl⟩
 obtain⟨u,L⟩:∃x,decide (a.m.body=b.m.body)=x:=⟨_,rfl⟩
 rw[O]at Y;rw[M]at Z;simp only[N]at f;rw[L]at g;rw[O,M,d,N,L];have y:=Qh L;have R:=Qh (And.intro H hm);clear O M N L H hm T U;obtain⟨W2,D⟩:∃W2,(w.alloc (.cells #[.string (str a.m.path),.string (str a.m.target),.string (str a.m.ai),.int .u8 I,.int .i64 a.m.mode,.int .i64 a.m.uid,.int .i64 a.m.gid,.int .i64 a.m.time,.slice a.p n a.c] 52)).alloc (.cells #[.string (str b.m.path),.string (str b.m.target),.string (str b.m.ai),.int .u8 J,.int .i64 b.m.mode,.int .i64 b.m.uid,.int .i64 b.m.gid,.int .i64 b.m.time,.slice b.p m b.c] 52)=W2:=⟨_,rfl⟩
 have G:Below w.heap.size w W2:=by rw[←D];exact((Below.refl w.heap.size w).alloc (Qk _) _).alloc (by simp) _
 have E:=Qh G;have V:=Qh (h1.below G);have l:=Qh (h2.below G);have A:ao W2 w.heap.size 52 #[.string (str a.m.path),.string (str a.m.target),.string (str a.m.ai),.int .u8 I,.int .i64 a.m.mode,.int .i64 a.m.uid,.int .i64 a.m.gid,.int .i64 a.m.time,.slice a.p n a.c]:=by rw[←D];exact(ao.new w _ _).alloc _
 have B:ao W2 (w.heap.size+1) 52 #[.string (str b.m.path),.string (str b.m.target),.string (str b.m.ai),.int .u8 J,.int .i64 b.m.mode,.int .i64 b.m.uid,.int .i64 b.m.gid,.int .i64 b.m.time,.slice b.p m b.c]:=by
  have:=ao.new (w.alloc (.cells #[.string (str a.m.path),.string (str a.m.target),.string (str a.m.ai),.int .u8 I,.int .i64 a.m.mode,.int .i64 a.m.uid,.int .i64 a.m.gid,.int .i64 a.m.time,.slice a.p n a.c] 52)) 52 #[.string (str b.m.path),.string (str b.m.target),.string (str b.m.ai),.int .u8 J,.int .i64 b.m.mode,.int .i64 b.m.uid,.int .i64 b.m.gid,.int .i64 b.m.time,.slice b.p m b.c];rw[World.size_alloc]at this;rw[←D];exact this
 have c0:=A.cell 0;have d0:=B.cell 0;have c1:=A.cell 1;have d1:=B.cell 1;have c3:=A.cell 3;have d3:=B.cell 3;have W:=A.cell 4;have d4:=B.cell 4;have c5:=A.cell 5;have d5:=B.cell 5;have c6:=A.cell 6;have d6:=B.cell 6;have c7:=A.cell 7;have d7:=B.cell 7;have X:=A.cell 8;have d8:=B.cell 8;simp only[Qc,Qa,Qb]at c0 d0 c1 d1 c3 d3 W d4 c5 d5 c6 d6 c7 d7 X d8;have v1:(convert 26 9 (.slice a.p n a.c)).run Tryz.prog W2=.ok (.string (str a.m.body)) W2:=cK V.out R.out.1 _ _ _ Tryz.underlying26 Tryz.underlying5 Tryz.underlying9 _;have v2:(convert 26 9 (.slice b.p m b.c)).run Tryz.prog W2=.ok (.string (str b.m.body)) W2:=cK l.out R.out.2 _ _ _ Tryz.underlying26 Tryz.underlying5 Tryz.underlying9 _;clear A B G h1 h2
 cases o with
 |false=>
  go_enter Tryz.func30,Tryz.ntmps30
  go_upto_region 1 with fail
  clear D;go_wp2;go_ret;exact⟨rfl,E.out⟩
 |true=>
  cases r with
  |false=>
   go_enter Tryz.func30,Tryz.ntmps30
   go_upto_region 1 with fail
   clear D;go_wp2;go_ret;exact⟨rfl,E.out⟩
  |true=>
   cases t with
   |false=>
    go_enter Tryz.func30,Tryz.ntmps30
    go_upto_region 1 with fail
    clear D;go_wp2;go_ret;exact⟨rfl,E.out⟩
   |true=>
    cases q with
    |false=>
     go_enter Tryz.func30,Tryz.ntmps30
     go_upto_region 1 with fail
     clear D;go_wp2;go_ret;exact⟨rfl,E.out⟩
    |true=>
     go_enter Tryz.func30,Tryz.ntmps30
     go_upto_region 1 with fail
     clear D;go_wp2;go_ret;exact⟨rfl,E.out⟩
theorem Ge {t:TypeId} {a b:Int} {q:Option Addr} {zs:List NP} (hb:ao w g t #[.int .i64 a,.int .i64 b]) (h:bt w q n zs) (hk:Kept (aw g) w w'):bt w' q n zs:=by
 have E:∀{i:Nat} {v:Value},w.cell? ⟨g,i,none⟩=some v→v=.int .i64 a∨v=.int .i64 b:=fun {i v} hv=>by
  rw[hb.cell]at hv
  match i,hv with
  |0,hv=>cases hv;exact .inl rfl
  |1,hv=>cases hv;exact .inr rfl
 refine⟨h.1,fun y hy=>(h.2.1 y hy).kept hk (fun B z J H=>?_),fun B=>?_⟩
 ·obtain⟨A,o,he,_,hc⟩:=(h.2.1 y hy).iZ.cell B
  rw[J]at he
  cases he
  have e:A=g:=H;have c0:=hc 0 B;rw[e]at c0;rcases E c0 with h|h<;>cases h
 ·obtain⟨A,o,he,G,hc⟩:=h.2.2 B
  refine⟨A,o,he,Nat.lt_of_lt_of_le G hk.size,fun i hi j I=>?_⟩
  have D:A≠g:=fun e=>by
   have c0:=hc 0 B 0 (by omega);rw[e]at c0;rcases E c0 with h|h<;>cases h
  rw[World.cell?_of_block (hk.block A G (fun h=>D h))];exact hc i hi j I
end fb
namespace Wr
open Go.ChangeShapes Go.WideShapes Go.ChangeAt Go.RowKit Base bJ cr Bk Hp Head Rec Attr Mem Block Go.Lib
theorem Kq (w:World) (B:Nat):qS (w.alloc (.cells #[.slice none 0 0] 105)) w.heap.size B (.slice none 0 0) []:=
 ⟨ao.new w _ _,World.ownsRow_nil _ _ _ _⟩
def uv (w:World) (bs:List UInt8) (e:Ending) (w':World):Prop:=∃v,e=.returned (.tuple #[v,.int .i64 0])∧eu w' w.heap.size v bs.length bs∧Below w.heap.size w w'
end Wr
namespace Mem
open Go.ChangeShapes Go.WideShapes Go.ChangeAt Go.RowKit Go.Shelf Base bJ cr Bk Hp Head Go.Proofs.YtdhibldkldlfpaaGreatDoor.Mp Block Go.Lib
structure J3 where
 v1:Value
 vp:Value
 v2:Value
structure Vg (w:World) (B bm:Nat) (M:Array Value) (v0:Value) (X Y P:List UInt8) (w1:World) (γ:J3) (listed:Array Bool) (w':World):Prop where
 bel:Below w.heap.size w w'
 le:w1.heap.size≤w'.heap.size
 mem:ao w' bm 48 M
 Xk:listed.getD 2 false=false→∀b o,cj w1 (some ⟨b,o,none⟩) 512 Y→(∀k,v0.ownBlock=some k→k≠b)→cj w' (some ⟨b,o,none⟩) 512 Y
 o0:listed.getD 2 false=false→eu w' B v0 X.length X
 o1:listed.getD 2 false=true→listed.getD 6 false=false→eu w' B γ.v1 (X++Y).length (X++Y)
 pd:listed.getD 5 false=true→listed.getD 6 false=false→eu w' w1.heap.size γ.vp P.length P
 fin:listed.getD 6 false=true→eu w' B γ.v2 ((X++Y)++P).length ((X++Y)++P)
 c6:listed.getD 6 false=true→listed.getD 2 false=true∧listed.getD 5 false=true
theorem Vg.cw {w1:World} {bm:Nat} {v0:Value} {X Y P:List UInt8} {γ:J3} {listed:Array Bool} (hW:Vg w B bm M v0 X Y P w1 γ listed w') {j:Nat} (ay:j<listed.size) (hj:j≠2∧j≠5∧j≠6):Vg w B bm M v0 X Y P w1 γ (listed.setIfInBounds j true) w':=by
 have A:(listed.setIfInBounds j true).getD 2 false=listed.getD 2 false:=by rw[ag ay,if_neg (by omega)]
 have E:(listed.setIfInBounds j true).getD 5 false=listed.getD 5 false:=by rw[ag ay,if_neg (by omega)]
 have D:(listed.setIfInBounds j true).getD 6 false=listed.getD 6 false:=by rw[ag ay,if_neg (by omega)]
 exact⟨hW.bel,hW.le,hW.mem,by rw[A];exact hW.Xk,by rw[A];exact hW.o0,by rw[A,D];exact hW.o1,by rw[E,D];exact hW.pd,by rw[D];exact hW.fin,by rw[A,E,D];exact hW.c6⟩
end Mem
namespace Mem
open Go.ChangeShapes Go.WideShapes Go.ChangeAt Go.RowKit Base bJ cr Bk Hp Head qR Path Block Rec Attr Go.Proofs.YtdhibldkldlfpaaGreatDoor.Mp Go.Lib
variable {wx wy:World} {h:ak}
structure PM (w:World) (M:Array Value) (wx:World) (h:ak):Prop where
 bel:Below w.heap.size w wx
 mem:ao wx w.heap.size 48 M
 hd:ao wx (w.heap.size+1) 66 (aa h)
theorem PM.below (hm:PM w M wx h) (hb:Below wx.heap.size wx wy):PM w M wy h:=
 ⟨hm.bel.trans (hb.mono hm.bel.size),hm.mem.below hb hm.mem.lt,hm.hd.below hb hm.hd.lt⟩
theorem PM.kept (hm:PM w M wx h) (hk:Kept af wx wy):PM w M wy h:=hm.below (hk.below (Qk _) (fun _ h=>h.elim))
end Mem
namespace Mem
open Go.ChangeShapes Go.WideShapes Go.ChangeAt Go.RowKit Base bJ cr Bk Hp Head qR Path Block Rec Go.Lib
theorem J5 {m:aq} (h:cG m):(fB m).length≤3000000:=by
 have E:=(jL m.body.length).2;have hl:=(jL (aI (aJ m)).length).2;have G:=jV h;have D:=h.body;obtain⟨H,_,A,_,(⟨_,e⟩|⟨X,_,B,_,e⟩)⟩:=jZ h
 ·rw[e,Qf,bp,A];omega
 ·rw[e,Qf,Qf,Qf,bp,bp,A,B];omega
theorem qh:∀(ms:List aq),(∀m∈ms,cG m)→(cd ms).length≤ms.length*3000000
 |[],_=>Nat.zero_le _
 |m::ms,h=>by
  rw[fu,Qf,List.length_cons];have h1:=J5 (h m (List.mem_cons_self ..));have B:=qh ms (fun x A=>h x (List.mem_cons_of_mem _ A));omega
end Mem
namespace Wr
open Go.ChangeShapes Go.WideShapes Go.ChangeAt Go.RowKit Base bJ cr Bk Hp Head Rec Attr Mem Block Go.Lib
variable {xs:List MP}
def Fit (xs:List MP):Prop:=∀x∈xs,x.m.path.length≤1000000000000∧x.m.target.length≤1000000000000
def EV (xs:List MP):Bool:=xs.all fun x=>bk x.m
theorem rB:EV xs=true↔∀x∈xs,bk x.m=true:=by simp[EV]
theorem zJ (xs:List MP) (k:Nat) (h:k<xs.length):xs.take (k+1)=xs.take k++[xs.getD k bB]:=by
 rw[List.take_succ_eq_append_getElem h,List.getD,Qd h];rfl
theorem lD (m:aq) (p:Option Addr) (c:Nat) (w:World) (h1:m.path.length≤1000000000000) (h2:m.target.length≤1000000000000) (hN:Need w):
 Calls Tryz.prog 51 #[.agg (cI m p c)] w fun e w'=>e=.returned (.bool (!bk m))∧Below w.heap.size w w':=by
 obtain⟨W0,D⟩:∃W0,w.alloc (.cells (cI m p c) 48)=W0:=⟨_,rfl⟩
 have B:Below w.heap.size w W0:=by rw[←D];exact(Below.refl _ _).alloc (Qk _) _
 have A:=lB m p c W0 (by omega) (by omega) (hN.below B).xD;obtain⟨r,I⟩:∃r,bk m=r:=⟨_,rfl⟩
 rw[I]at A⊢;have J:=Qh B;have G:=Qh D;have E:=Qh A;unfold cI at G E⊢;clear B D A I
 go_enter Tryz.func51,Tryz.ntmps51
 go_wp2_with fail
 rw[G.out];refine E.out.mono ?_;rintro e M ⟨rfl,H⟩;have L:=Qh (J.out.trans (H.mono J.out.size));clear H;go_wp2;go_ret;exact⟨rfl,L.out⟩
def Ln (xs:List MP) (w:World) (e:Ending) (w':World):Prop:=∃k:Int,e=.returned (.int .i64 k)∧decide (0≤k)=!EV xs∧Below w.heap.size w w'
theorem pb (p:Option Addr) (n c:Nat) (xs:List MP) (w:World) (h:cN w p n xs) (hn:n≤100000) (hF:Fit xs) (hN:Need w):
 Calls Tryz.prog 57 #[.slice p n c,.func (.func 51) #[] #[]] w (Ln xs w):=by
 have X:=Qh h;have R:=Qh h.1;have W:=Qh hF;have Y:=Qh hN;clear h hF hN
 go_enter Tryz.func57,Tryz.ntmps57
 go_wp2_with fail
 go_loopw [5,8] (fun _ i wr=>∃(j:Nat),j≤n∧i=.int .i64 (j:Int)∧Hid (∀x∈xs.take j,bk x.m=true)∧Hid (Below w.heap.size w wr)) (fun _ i _=>n - (RowKit.intOf i).toNat)
 case atStart=>exact⟨0,Nat.zero_le _,rfl,Qh (by simp),Qh (Below.refl _ _)⟩
 case round=>
  obtain⟨j,l,rfl,hA,A⟩:=hrel
  by_cases U:j<n
  ·have J:j<xs.length:=by rw[R.out];exact U
   have I:=k8 xs j J;have M:=zJ xs j J;have H:=W.out _ I;obtain⟨b,o,rfl,f,V,c0,c1,c2,c3,D,c5,c6,c7⟩:=(X.out.below A.out).cells U;obtain⟨y,hy⟩:∃y,xs.getD j bB=y:=⟨_,rfl⟩
   rw[hy]at M I H V c0 c1 c2 c3 D c5 c6 c7;rw[Nat.mul_comm]at c0 c1 c2 c3 D c5 c6 c7;have G:=lD y.m y.p y.c wr H.1 H.2 (Y.out.below A.out);unfold cI at G;obtain⟨r,N⟩:∃r,bk y.m=r:=⟨_,rfl⟩
   rw[N]at G;have Z:=Qh M;have T:=Qh N;have d:=Qh I;have O:=Qh G;have q:(j:Int)<(n:Int):=by omega
   clear M f hy G N I J H V
   cases r with
   |true=>
    go_wp2_with fail
    refine O.out.mono ?_;rintro e g ⟨rfl,B⟩;have L:=Qh (A.out.trans (B.mono A.out.size));clear B c0 c1 c2 c3 D c5 c6 c7;go_wp2;go_roundw
    case rel=>exact⟨j+1,by omega,by go_num,Qh (fun x hx=>by
     rw[Z.out,List.mem_append]at hx;rcases hx with hx|hx
     ·exact hA.out x hx
     ·rw[List.mem_singleton.1 hx];exact T.out),L⟩
    case measure=>simp[RowKit.intOf];omega
   |false=>
    go_wp2_with fail
    refine O.out.mono ?_;rintro e g ⟨rfl,B⟩;have L:=Qh (A.out.trans (B.mono A.out.size))
    have E:Hid (EV xs=false):=Qh (by
     rw[Bool.eq_false_iff];intro h;have:=rB.1 h _ d.out;rw[T.out]at this
     cases this)
    clear B c0 c1 c2 c3 D c5 c6 c7;go_wp2;go_ret;exact⟨(j:Int),rfl,by rw[E.out];simp,L.out⟩
  ·have t:¬((j:Int)<(n:Int)):=by omega
   have E:Hid (EV xs=true):=Qh (rB.2 (fun x hx=>hA.out x (by rw[List.take_of_length_le (by rw[R.out];omega)];exact hx)));go_wp2;go_ret;exact⟨-1,rfl,by rw[E.out];decide,A.out⟩
theorem ia (p:Option Addr) (n c:Nat) (xs:List MP) (w:World) (h:cN w p n xs) (hn:n≤100000) (hF:Fit xs) (hN:Need w):
 Calls Tryz.prog 50 #[.slice p n c,.func (.func 51) #[] #[]] w fun e w'=>e=.returned (.bool (!EV xs))∧Below w.heap.size w w':=by
 have D:=Qh (pb p n c xs w h hn hF hN);clear h hF hN
 go_enter Tryz.func50,Tryz.ntmps50
 go_wp2_with fail
 refine D.out.mono ?_;rintro e E ⟨k,rfl,hk,A⟩;have B:=Qh A;clear A;go_wp2;go_ret;exact⟨by first|rw[hk]|rfl,B.out⟩
structure uu (w:World) (g:Nat) (xs:List MP) (j:Nat) (wr:World):Prop where
 qp:∃v,qS wr g w.heap.size v (cd ((xs.take j).map MP.m))
 bel:Below w.heap.size w wr
theorem uu.below {wr:World} {j:Nat} (h:uu w g xs j wr) (hb:Below wr.heap.size wr w'):uu w g xs j w':=by
 obtain⟨v,A⟩:=h.qp;exact⟨⟨v,A.kept (Kept.aM hb af) id (fun _ _=>id)⟩,h.bel.trans (hb.mono h.bel.size)⟩
theorem G5 (p:Option Addr) (n c:Nat) (xs:List MP) (w:World) (h:cN w p n xs) (hn:n≤4096) (hA:∀x∈xs,bk x.m=true) (hN:Need w):
 Calls Tryz.prog 23 #[.slice p n c] w (uv w (uy (xs.map MP.m))):=by
 have H:∀x∈xs,cG x.m:=fun x A=>dZ (hA x A)
 have Z:=ia p n c xs w h (by omega) (fun x A=>⟨by have:=(H x A).qg;omega,by have:=(H x A).vJ;omega⟩) hN;rw[rB.2 hA]at Z
 have hlen:∀j,(cd ((xs.take j).map MP.m)).length≤12288000000:=fun j=>by
  have:=qh ((xs.take j).map MP.m) (fun m hm=>by
   obtain⟨x,A,rfl⟩:=List.mem_map.1 hm
   exact H x (List.mem_of_mem_take A))
  rw[Qi,Qg]at this;have h1:=h.1;omega
 have hm:¬(4096:Int)<(n:Int):=by omega
 have HC:=Qh Z;have z:=Qh h;have u:=Qh h.1;have NQ:=Qh H;have kJ:=Qh hlen;have HN:=Qh hN;clear h hA hN Z H hlen
 go_enter Tryz.func23,Tryz.ntmps23
 go_wp2_with fail
 refine HC.out.mono ?_;rintro e E ⟨rfl,b7⟩;have V:=Qh b7;clear b7;go_wp2_with fail;obtain⟨w2,J⟩:∃w2,E.alloc (.cells #[.slice none 0 0] 105)=w2:=⟨_,rfl⟩
 have uS:qS w2 E.heap.size w.heap.size (.slice none 0 0) []:=by rw[←J];exact Kq E _
 have RP:Below E.heap.size E w2:=by rw[←J];exact(Below.refl _ _).alloc (Qk _) _
 have QS:Hid (uu w E.heap.size xs 0 w2):=Qh ⟨⟨_,by simpa [cd]using uS⟩,V.out.trans (RP.mono V.out.size)⟩;have l:Hid (w.heap.size≤E.heap.size):=Qh V.out.size;obtain⟨g,hg⟩:∃g,E.heap.size=g:=⟨_,rfl⟩
 rw[hg]at QS l⊢;rw[J];clear uS RP J hg
 go_loopw [6,15] (fun _ i wr=>∃(j:Nat),j≤n∧i=.int .i64 (j:Int)∧Hid (uu w g xs j wr)) (fun _ i _=>n - (RowKit.intOf i).toNat)
 case atStart=>exact⟨0,Nat.zero_le _,rfl,QS⟩
 case round=>
  obtain⟨j,hj,rfl,G⟩:=hrel
  by_cases U:j<n
  ·have M:j<xs.length:=by rw[u.out];exact U
   have R:=NQ.out _ (k8 xs j M);have d:=tC xs j M;obtain⟨b,o,rfl,hb,r,c0,c1,c2,c3,X,c5,c6,c7⟩:=(z.out.below G.out.bel).cells U
   have t:∀x,0<(xs.getD j bB).m.body.length→(xs.getD j bB).p=some x→x.block<w.heap.size:=fun x Y A=>by
    obtain⟨b',o',he,jH,_⟩:=(z.out.cells U).choose_spec.choose_spec.2.2.1.iZ.cell Y;rw[A]at he
    cases he
    exact jH
   obtain⟨y,hy⟩:∃y,xs.getD j bB=y:=⟨_,rfl⟩
   rw[hy]at d R r c0 c1 c2 c3 X c5 c6 c7 t;rw[Nat.mul_comm]at c0 c1 c2 c3 X c5 c6 c7;obtain⟨W,f⟩:∃W,wr.alloc (.cells #[.string (str y.m.path),.string (str y.m.target),.int .u8 (y.m.kind.toNat:Int),.int .i64 y.m.mode,.int .i64 y.m.uid,.int .i64 y.m.gid,.int .i64 y.m.time,.slice y.p y.m.body.length y.c] 48)=W:=⟨_,rfl⟩
   have O:Below wr.heap.size wr W:=by rw[←f];exact(Below.refl _ _).alloc (Qk _) _
   have I:=G.out.below O;obtain⟨v,D⟩:=I.qp
   have T:=wY W g w.heap.size v _ D I.bel.size y.m y.p y.c R (r.iZ.below O) (fun Y x A e=>by
    have h1:=t x Y A;have h2:=(D.own.lt _ e).1
    omega) (by have:=kJ.out j;omega) (HN.out.below I.bel)
   unfold cI at T;have P3:=Qh T;have HT:=Qh d;have B:=Qh f;have Xs:=Qh I;have L:=Qh D;have mD:(j:Int)<(n:Int):=by omega
   clear d hb hy T M f O I D t r R;go_upto_region 9 with fail;rw[B.out];have m0:W.cell? ⟨wr.heap.size,0,none⟩=some (.string (str y.m.path)):=by rw[←B.out];exact(ao.new wr _ _).cell 0
   have m1:W.cell? ⟨wr.heap.size,1,none⟩=some (.string (str y.m.target)):=by rw[←B.out];exact(ao.new wr _ _).cell 1
   have m2:W.cell? ⟨wr.heap.size,2,none⟩=some (.int .u8 (y.m.kind.toNat:Int)):=by rw[←B.out];exact(ao.new wr _ _).cell 2
   have m3:W.cell? ⟨wr.heap.size,3,none⟩=some (.int .i64 y.m.mode):=by rw[←B.out];exact(ao.new wr _ _).cell 3
   have m4:W.cell? ⟨wr.heap.size,4,none⟩=some (.int .i64 y.m.uid):=by rw[←B.out];exact(ao.new wr _ _).cell 4
   have m5:W.cell? ⟨wr.heap.size,5,none⟩=some (.int .i64 y.m.gid):=by rw[←B.out];exact(ao.new wr _ _).cell 5
   have m6:W.cell? ⟨wr.heap.size,6,none⟩=some (.int .i64 y.m.time):=by rw[←B.out];exact(ao.new wr _ _).cell 6
   have m7:W.cell? ⟨wr.heap.size,7,none⟩=some (.slice y.p y.m.body.length y.c):=by rw[←B.out];exact(ao.new wr _ _).cell 7
   go_wp2_with fail
   refine P3.out.mono ?_;rintro e w3 ⟨v3,rfl,tW,dc,KT⟩
   have C2:Hid (uu w g xs (j+1) w3):=Qh ⟨⟨v3,by
    have e:cd ((xs.take (j+1)).map MP.m)=cd ((xs.take j).map MP.m)++fB y.m:=by
     rw[HT.out,zo,fu];simp[cd]
    rw[e]
    exact tW⟩,Xs.out.bel.trans (dc.below Xs.out.bel.size (fun k hk=>by
     rcases hk with hk|hk
     ·rw[hk];exact l.out
     ·exact(L.out.own.lt _ hk).1))⟩
   clear tW dc KT m0 m1 m2 m3 m4 m5 m6 m7 c0 c1 c2 c3 X c5 c6 c7;go_wp2;go_roundw
   case rel=>exact⟨j+1,by omega,by go_num,C2⟩
   case measure=>simp[RowKit.intOf];omega
  ·have pY:¬((j:Int)<(n:Int)):=by omega
   have e:xs.take j=xs:=List.take_of_length_le (by rw[u.out];omega);obtain⟨v,D⟩:=G.out.qp;have hl:=kJ.out j;rw[e]at D hl;have HE:=Qh (wF wr g w.heap.size v _ D G.out.bel.size (by omega));have L:=Qh D;have Hx:=Qh hl;clear D hl e;go_wp2_with fail;refine HE.out.mono ?_;rintro e w4 ⟨v4,rfl,N,lg,_⟩;rw[←kU]at N
   have q:Hid (Below w.heap.size w w4):=Qh (G.out.bel.trans (lg.below G.out.bel.size (fun k hk=>by
    rcases hk with hk|hk
    ·rw[hk];exact l.out
    ·exact(L.out.own.lt _ hk).1)))
   have HO:=Qh (Mt w4 g w.heap.size v4 _ N (by rw[kU,Qf,List.length_replicate];have:=Hx.out;omega));clear N lg;go_wp2_with fail;refine HO.out.mono ?_;rintro e w5 ⟨v5,rfl,YL,gM⟩;have zR:Hid (eu w5 w.heap.size v5 (uy (xs.map MP.m)).length (uy (xs.map MP.m))∧Below w.heap.size w w5):=Qh ⟨YL.mono q.out.size,q.out.trans (gM.below q.out.size (fun _ h=>h.elim))⟩;clear YL gM;go_wp2;go_ret2;exact⟨v5,rfl,zR.out⟩
end Wr
namespace Attr
open Go.ChangeShapes Go.WideShapes Go.ChangeAt Go.RowKit Go.Shelf Base bJ cr Rec Bk Go.Lib
attribute [local go_sem] Oper.semAt_some
abbrev Oe:=Nat × (List UInt8 × List UInt8)
def encI (x:Oe):Array Value:=#[.int .i64 (x.1:Int),.agg #[.string (str x.2.1),.string (str x.2.2)]]
def cB (rs:bM) (m:Nat):List Oe:=(List.range m).map fun t=>(rs.length - 1 - t,rs.getD (rs.length - 1 - t) ([],[]))
theorem yd (rs:bM) (m:Nat):cB rs (m+1)=cB rs m++[(rs.length - 1 - m,rs.getD (rs.length - 1 - m) ([],[]))]:=by simp[cB,List.range_succ]
theorem tO (rs:bM) (m:Nat):(cB rs m).length=m:=by simp[cB]
theorem rD (rs:bM):(cB rs rs.length).map (·.2)=rs.reverse:=by
 apply List.ext_getElem
 ·simp[cB]
 ·intro i h1 A
  have hi:i<rs.length:=by simpa using A
  simp[cB,List.getD,show rs.length - 1 - i<rs.length by omega]
theorem AF (rs:bM) (m:Nat) (hm:m≤rs.length):cB rs m<+:cB rs rs.length:=by
 refine⟨(cB rs rs.length).drop m,?_⟩
 have:cB rs m=(cB rs rs.length).take m:=by
  simp[cB,←List.map_take,List.take_range,Nat.min_eq_left hm]
 rw[this,List.take_append_drop]
theorem Lu (F:Fence) (n:Nat) (hF:F=Fence.wide) (hn:1≤n) (l Bs n₀:Nat) (p:Option Addr) (c:Nat) (rs:bM) (BC:rs.length≤4611686018427387904) (J Jx:List Oe→World→Prop)
 (hY:∀pre x W,J pre W→pre.length<rs.length→YieldAt F (n - 1) Tryz.prog l (encI x) W fun e W'=>
  (e=.returned (.bool true)∧J (pre++[x]) W'∧Below n₀ W W')∨(e=.returned (.bool false)∧Jx (pre++[x]) W'))
 (W:World) (OB:Bs<n₀) (TL:W.cell? ⟨Bs,0,none⟩=some (.slice p rs.length c))
 (hR:0<rs.length→∃b o,p=some ⟨b,o,none⟩∧b<n₀∧∀i,i<rs.length→W.cell? ⟨b,o+2*i,none⟩=some (.string (str (rs.getD i ([],[])).1))∧W.cell? ⟨b,o+2*i+1,none⟩=some (.string (str (rs.getD i ([],[])).2))) (h0:J [] W):
 CallsIn F n Tryz.prog 229 #[.func (.yield l) #[] #[],.pointer (some ⟨Bs,0,none⟩)] W fun e W'=>(∃v,e=.returned v)∧
  ((∃ys,ys=cB rs rs.length∧J ys W')∨(∃pre,pre<+:cB rs rs.length∧Jx pre W')):=by
 subst hF;obtain⟨N,I⟩:∃N,rs.length=N:=⟨_,rfl⟩
 rw[I]at TL BC;refine callsIn_of_wp Tryz.func229 rfl trivial ?_ rfl;simp only[Tryz.ntmps229,List.size_toArray,List.length_cons,List.length_nil,Nat.reduceAdd,Nat.reduceSub,Array.replicate_succ,Array.replicate_zero,List.push_toArray,List.append_toArray,List.nil_append,List.cons_append]
 gi_wp2
 gi_loopw [3] (fun i wr=>∃k:Nat,k≤N∧i=.int .i64 ((k:Int) - 1)∧J (cB rs (N - k)) wr∧Below n₀ W wr)
  (fun i _=>(RowKit.intOf i+1).toNat)
 case atStart=>exact⟨N,Qk _,rfl,by rw[Nat.sub_self];exact h0,Below.refl _ _⟩
 case round=>
  obtain⟨k,hk,rfl,B,A⟩:=hrel
  cases k with
  |zero=>
   have D:J (cB rs rs.length) wr:=by rw[I];exact B
   clear B hY
   gi_wp2
   go_end0
   exact⟨⟨_,rfl⟩,.inl ⟨_,rfl,D⟩⟩
  |succ j=>
   rw[show(((j+1:Nat):Int) - 1)=(j:Int) by omega];obtain⟨b,o,rfl,L,hc⟩:=hR (by omega);obtain⟨c0,c1⟩:=hc j (by omega);have X:=(A.cell (p:=⟨Bs,0,none⟩) OB).trans TL;have d0:=(A.cell (p:=⟨b,o+2*j,none⟩) L).trans c0;have d1:=(A.cell (p:=⟨b,o+2*j+1,none⟩) L).trans c1;rw[Nat.mul_comm]at d0 d1;obtain⟨r,E⟩:∃r,rs.getD j ([],[])=r:=⟨_,rfl⟩
   rw[E]at d0 d1
   have hs:cB rs (N - j)=cB rs (N - (j+1))++[(j,r)]:=by
    have:N - j=N - (j+1)+1:=by omega
    rw[this,yd,show rs.length - 1 - (N - (j+1))=j by omega,E]
   obtain⟨fn,tmps,assign,body,hy,H⟩:=hY (cB rs (N - (j+1))) (j,r) wr B (by rw[tO];omega);simp only[encI]at hy;have U:=Qh hs;have G:=AF rs (N - j) (by omega);have M:=Qh G;rw[←hs]at H;clear hs hY hR B c0 c1 hc G TL E
   gi_wp2
   refine H.mono ?_;rintro e V (⟨rfl,R,T⟩|⟨rfl,O⟩)
   ·gi_wp2
    go_roundw
    case rel=>exact⟨j,by omega,rfl,R,A.trans T⟩
    case measure=>simp[RowKit.intOf]
   ·gi_wp2
    refine bodyPost_ret (results_none rfl _ _ _) rfl ?_;exact⟨⟨_,rfl⟩,.inr ⟨_,M.out,O⟩⟩
theorem AG (n:Nat) (hn:1≤n) (Bs:Nat) (p:Option Addr) (c:Nat) (rs:bM) (BC:rs.length≤4611686018427387904) (w:World) (OB:Bs<w.heap.size) (hc:w.cell? ⟨Bs,0,none⟩=some (.slice p rs.length c)) (hR:bN w p rs.length rs):
 SeqStopsK Fence.wide n Tryz.prog 229 #[.pointer (some ⟨Bs,0,none⟩)] encI (Below w.heap.size) (fun ys=>ys=cB rs rs.length) (fun pre=>pre<+:cB rs rs.length) rs.length w:=fun l J E W B _ _ G A=>
 Lu Fence.wide n rfl hn l Bs w.heap.size p c rs BC J E G W OB ((B.cell (p:=⟨Bs,0,none⟩) OB).trans hc)
  (fun A=>by
   obtain⟨b,o,H,D,hc⟩:=hR.2 A
   exact⟨b,o,H,D,fun i hi=>⟨(B.cell (p:=⟨b,o+2*i,none⟩) D).trans (hc i hi).1,(B.cell (p:=⟨b,o+2*i+1,none⟩) D).trans (hc i hi).2⟩⟩) A
theorem we (p:Option Addr) (n c:Nat) (w:World):
 Calls Tryz.prog 209 #[.slice p n c] w fun e w'=>e=.returned (.func (.func 229) #[] #[.pointer (some ⟨w.heap.size,0,none⟩)])∧w'=w.alloc (.cells #[.slice p n c] 64):=by
 go_enter Tryz.func209,Tryz.ntmps209
 go_wp2;go_ret;exact⟨rfl,rfl⟩
end Attr
namespace Attr
open Go.ChangeShapes Go.WideShapes Go.ChangeAt Go.RowKit Go.Shelf Base bJ cr Rec Bk Go.Lib
attribute [local go_sem] Oper.semAt_some
def recC (k v:List UInt8):Array Value:=#[.string (str k),.string (str v)]
def nZ (rs:bM) (k:List UInt8):Value:=match aD rs k with
 |some v=>.tuple #[.agg (recC k v),.bool true]
 |none=>.tuple #[.agg (recC [] []),.bool false]
theorem FT {rs pre:bM} {x:List UInt8 × List UInt8} {rest:bM} {k:List UInt8} (h:rs.reverse=pre++x::rest) (hp:∀r∈pre,r.1≠k) (hx:x.1=k):aD rs k=some x.2:=by
 have e:rs=rest.reverse++x::pre.reverse:=by
  have:=congrArg List.reverse h;rw[List.reverse_reverse,List.reverse_append,List.reverse_cons,List.append_assoc]at this;exact this
 rw[e,mc,aD,sj (rs:=pre.reverse) fun r A=>hp r (List.mem_reverse.1 A)];simp[hx]
theorem D4 (tmps:Array Value) (w:World) (b0 b1:Nat) (a b:ByteArray) (o:Bool) (h0:tmps[4]? =some (.pointer (some ⟨b0,0,none⟩))) (h1:tmps[5]? =some (.pointer (some ⟨b1,0,none⟩)))
 (c0:ao w b0 121 #[.string a,.string b]) (c1:ao w b1 4 #[.bool o]):
 (results Tryz.f182 tmps).run Tryz.prog w=.ok (.tuple #[.agg #[.string a,.string b],.bool o]) w:=by
 have d0:=c0.cell 0;have d1:=c0.cell 1;have d2:=c1.cell 0;simp at d0 d1 d2;simp[results,Tryz.f182,go_sem,h0,h1,d0,d1,d2]
theorem JA (k:List UInt8) (p:Option Addr) (n c:Nat) (rs:bM) (w:World) (hn:n≤4611686018427387904) (h:bN w p n rs):
 Calls Tryz.prog 182 #[.string (str k),.slice p n c] w fun e w'=>e=.returned (nZ rs k)∧Below w.heap.size w w':=by
 obtain rfl:rs.length=n:=h.1;have H:=Qh h;clear h;refine(callsIn_wide (n:=3)).1 ?_;refine callsIn_of_wp_marks Tryz.func182 rfl trivial ?_ rfl;simp only[Tryz.ntmps182,List.size_toArray,List.length_cons,List.length_nil,Nat.reduceAdd,Nat.reduceSub,Array.replicate_succ,Array.replicate_zero,List.push_toArray,List.append_toArray,List.nil_append,List.cons_append]
 gi_wp2_with fail
 refine⟨trivial,(callsIn_wide.2 (we _ _ _ _)).mono ?_⟩;rintro e w' ⟨rfl,rfl⟩
 gi_wp2_with fail
 have g:ao _ w.heap.size 9 #[.string (str k)]:=(((ao.new w 9 #[.string (str k)]).alloc (.cells #[.string ⟨#[]⟩,.string ⟨#[]⟩] 121)).alloc (.cells #[.bool false] 4)).alloc (.cells #[.slice p rs.length c] 64);have Z:=((ao.new (w.alloc (.cells #[.string (str k)] 9)) 121 #[.string ⟨#[]⟩,.string ⟨#[]⟩]).alloc (.cells #[.bool false] 4)).alloc (.cells #[.slice p rs.length c] 64);have V:=(ao.new ((w.alloc (.cells #[.string (str k)] 9)).alloc (.cells #[.string ⟨#[]⟩,.string ⟨#[]⟩] 121)) 4 #[.bool false]).alloc (.cells #[.slice p rs.length c] 64);have b:=ao.new (((w.alloc (.cells #[.string (str k)] 9)).alloc (.cells #[.string ⟨#[]⟩,.string ⟨#[]⟩] 121)).alloc (.cells #[.bool false] 4)) 64 #[.slice p rs.length c]
 have o:Below w.heap.size w ((((w.alloc (.cells #[.string (str k)] 9)).alloc (.cells #[.string ⟨#[]⟩,.string ⟨#[]⟩] 121)).alloc (.cells #[.bool false] 4)).alloc (.cells #[.slice p rs.length c] 64)):=
  ((((Below.refl _ w).alloc (Qk _) _).alloc (by simp) _).alloc (by simp;omega) _).alloc (by simp;omega) _
 have m:((((w.alloc (.cells #[.string (str k)] 9)).alloc (.cells #[.string ⟨#[]⟩,.string ⟨#[]⟩] 121)).alloc (.cells #[.bool false] 4)).alloc (.cells #[.slice p rs.length c] 64)).heap.size=w.heap.size+4:=by simp
 simp only[World.size_alloc]at Z V b;obtain⟨W0,rW⟩:∃W0,(((w.alloc (.cells #[.string (str k)] 9)).alloc (.cells #[.string ⟨#[]⟩,.string ⟨#[]⟩] 121)).alloc (.cells #[.bool false] 4)).alloc (.cells #[.slice p rs.length c] 64)=W0:=⟨_,rfl⟩
 rw[rW]at g Z V b o m⊢;clear rW;have u:=Qh m;have oP:=Qh o;have q:=H.out.below o
 refine wpIn_rangeFunc_ownH rfl (by omega) (gf:=229) (lb:=#[.pointer (some ⟨w.heap.size+1+1+1,0,none⟩)]) rfl trivial (enters_of Tryz.func229 (by kernel_rfl) rfl)
  (AG _ (by omega) (w.heap.size+1+1+1) p c rs hn W0 (by omega) (b.cell 0) q) belowK_t (belowK_b (Qk _)) (Below.refl _ _) (fun _=>rfl)
  (fun pre W=>(ao W w.heap.size 9 #[.string (str k)]∧ao W (w.heap.size+1) 121 #[.string ⟨#[]⟩,.string ⟨#[]⟩]∧ao W (w.heap.size+1+1) 4 #[.bool false]∧∀x∈pre,x.2.1≠k)∧Below W0.heap.size W0 W)
  (fun c pre W=>(c=.ret∧∃f x,pre=f++[x]∧(∀y∈f,y.2.1≠k)∧x.2.1=k∧ao W (w.heap.size+1) 121 #[.string (str x.2.1),.string (str x.2.2)]∧ao W (w.heap.size+1+1) 4 #[.bool true])∧Below w.heap.size w W)
  (OwnFrom.and (Own.from (fun s A B row hs R M=>⟨hs.1.kept R M,hs.2.1.kept R M,hs.2.2.1.kept R M,hs.2.2.2⟩) _) (ownFrom_below (Qk _) (Qk _)))
  (fun c=>OwnFrom.and (Own.from (fun s A B row hs R M=>by obtain⟨h0,f,x,h1,d,h3,h4,h5⟩:=hs;exact⟨h0,f,x,h1,d,h3,h4.kept R M,h5.kept R M⟩) _) (ownFrom_below (Qk _) (by omega)))
  ⟨⟨g,Z,V,by simp⟩,Below.refl _ _⟩
  (fun x a' W=>∃U,W0.heap.size≤U∧ao W U 121 #[.string (str x.2.1),.string (str x.2.2)]∧a'={tmps:=#[.string (str k),.slice p rs.length c,.pointer (some ⟨w.heap.size,0,none⟩),undef,.pointer (some ⟨w.heap.size+1,0,none⟩),.pointer (some ⟨w.heap.size+1+1,0,none⟩),undef,.pointer (some ⟨U,0,none⟩),.slice p rs.length c,.func (.func 229) #[] #[.pointer (some ⟨w.heap.size+1+1+1,0,none⟩)],.int .i64 (x.1:Int),.agg #[.string (str x.2.1),.string (str x.2.2)],undef,undef,undef,undef,undef,undef],defers:=[]})
  (fun x a' _ X Y row hs R M=>by obtain⟨U,h1,d,h3⟩:=hs;exact⟨U,h1,d.kept R (fun r e=>(M r e).2),h3⟩)
  ?assign ?body ?done ?stop
 case assign=>
  rintro l pre x W K ⟨⟨L,E,G,J⟩,I⟩ O;have hs:=I.size;have Zx:=Qh O;have N:=Qh (And.intro (And.intro L (And.intro E (And.intro G J))) I);clear O L E G J I;simp only[encI]
  gi_wp2
  obtain⟨⟨L,E,G,J⟩,I⟩:=N.out;exact Zx.out _ _ ((KeepsOthers.alloc _ _).from _) ((Below.refl _ W).alloc hs _) ⟨⟨L.alloc _,E.alloc _,G.alloc _,J⟩,I.alloc hs _⟩ ⟨W.heap.size,hs,ao.new _ _ _,rfl⟩
 case body=>
  rintro l pre x a' W hl M ⟨⟨L,E,G,J⟩,I⟩ ⟨U,hBx,t,rfl⟩ ay;have hs:=I.size;have c0:=L.cell 0;have d0:=t.cell 0;have d1:=t.cell 1;simp only[Qc,Qa,Qb]at c0 d0 d1
  by_cases hk:x.2.1=k
  ·have e1:((str x.2.1).toList==(str k).toList)=true:=by rw[ax,ax];simpa using hk
   have f0:=E.frozen 0;have f1:=E.frozen 1;have r0:=E.cell 0;have r1:=E.cell 1;have f2:=G.frozen 0;have r2:=G.cell 0;simp only[Qc,Qa,Qb]at r0 r1 r2;have N:=Qh (And.intro (And.intro L (And.intro E (And.intro G J))) I);have T:=Qh hk;clear hk L E G J I t q g Z V b o
   gi_wp2
   obtain⟨⟨L,E,G,J⟩,I⟩:=N.out;have IY:Below w.heap.size w W:=oP.out.trans (I.mono (by have:=u.out;omega))
   exact⟨(((KeepsOthers.setCell _ _ _).trans (KeepsOthers.setCell _ _ _)).trans (KeepsOthers.setCell _ _ _)).from _,
    ⟨rfl,pre,x,rfl,J,T.out,((E.set 0 _ (by decide)).set 1 _ (by simp)).other (by omega) _,((G.other (by omega) _).other (by omega) _).set 0 _ (by decide)⟩,
    ((IY.setCell (p:=⟨w.heap.size+1,0,none⟩) (by simp) _).setCell (p:=⟨w.heap.size+1,1,none⟩) (by simp) _).setCell (p:=⟨w.heap.size+1+1,0,none⟩) (by simp;omega) _⟩
  ·have e1:((str x.2.1).toList==(str k).toList)=false:=by rw[ax,ax];simpa using hk
   have N:=Qh (And.intro (And.intro L (And.intro E (And.intro G J))) I);have T:=Qh hk;clear hk L E G J I t q g Z V b o
   gi_wp2
   obtain⟨⟨L,E,G,J⟩,I⟩:=N.out
   exact⟨KeepsFrom.refl _ _,Below.refl _ _,⟨L,E,G,fun y hy=>by
    rcases List.mem_append.1 hy with hy|hy
    ·exact J y hy
    ·rw[List.mem_singleton.1 hy];exact T.out⟩,I⟩
 case done=>
  rintro D ys W hD rfl ⟨⟨L,E,G,J⟩,I⟩ O;have f0:=E.frozen 0;have f1:=E.frozen 1;have r0:=E.cell 0;have r1:=E.cell 1;have f2:=G.frozen 0;have r2:=G.cell 0;simp only[Qc,Qa,Qb]at r0 r1 r2;have N:=Qh (And.intro (And.intro L (And.intro E (And.intro G J))) I);have T:=Qh O;clear O L E G J I q g Z V b
  gi_wp2
  obtain⟨⟨L,E,G,J⟩,I⟩:=N.out;have IY:Below w.heap.size w W:=oP.out.trans (I.mono (by have:=u.out;omega));have hK':=(((KeepsOthers.setCell W ⟨w.heap.size+1,0,none⟩ (.string ⟨#[]⟩)).trans (KeepsOthers.setCell _ ⟨w.heap.size+1,1,none⟩ (.string ⟨#[]⟩))).trans (KeepsOthers.setCell _ ⟨w.heap.size+1+1,0,none⟩ (.bool false))).same D _ T.out rfl;refine⟨by simp,.inl ⟨_,_,rfl,run_takeDeferred hK',?_⟩⟩;have k0:=(((E.set 0 (.string ⟨#[]⟩) (by decide)).set 1 (.string ⟨#[]⟩) (by decide)).other (b':=w.heap.size+1+1) (i:=0) (by omega) (.bool false)).kept (grownBy_putObj' _ D (.deferred none)) (fun r e=>by cases e;exact⟨_,hK',rfl⟩);have k1:=(((G.other (b':=w.heap.size+1) (i:=0) (by omega) (.string ⟨#[]⟩)).other (b':=w.heap.size+1) (i:=1) (by omega) (.string ⟨#[]⟩)).set 0 (.bool false) (by decide)).kept (grownBy_putObj' _ D (.deferred none)) (fun r e=>by cases e;exact⟨_,hK',rfl⟩)
  have hv:nZ rs k=.tuple #[.agg #[.string ⟨#[]⟩,.string ⟨#[]⟩],.bool false]:=by
   unfold nZ;rw[sj fun r M=>?_]
   ·rfl
   ·have:r∈(cB rs rs.length).map (·.2):=by rw[rD];exact List.mem_reverse.2 M
    obtain⟨y,hy,rfl⟩:=List.mem_map.1 this;exact J y hy
  rw[hv]
  exact⟨_,D4 _ _ (w.heap.size+1) (w.heap.size+1+1) ⟨#[]⟩ ⟨#[]⟩ false rfl rfl k0 k1,rfl,
   (((IY.setCell (p:=⟨w.heap.size+1,0,none⟩) (by simp) _).setCell (p:=⟨w.heap.size+1,1,none⟩) (by simp) _).setCell (p:=⟨w.heap.size+1+1,0,none⟩) (by simp;omega) _).trans (belowK_b (w:=w) (Qk _) _ D _ _ (by have:=u.out;omega) hK' rfl rfl)⟩
 case stop=>
  rintro D c pre W hD Pf ⟨⟨rfl,f,x,rfl,h1,d,E,G⟩,z⟩ O;have N:=Qh (And.intro E (And.intro G z));have T:=Qh O;clear E G z O
  gi_wp2
  obtain⟨E,G,z⟩:=N.out;have hK':=T.out;refine⟨by simp,.inl ⟨_,_,rfl,run_takeDeferred hK',?_⟩⟩;have k0:=E.kept (grownBy_putObj' _ D (.deferred none)) (fun r e=>by cases e;exact⟨_,hK',rfl⟩);have k1:=G.kept (grownBy_putObj' _ D (.deferred none)) (fun r e=>by cases e;exact⟨_,hK',rfl⟩)
  have hv:nZ rs k=.tuple #[.agg #[.string (str x.2.1),.string (str x.2.2)],.bool true]:=by
   obtain⟨rest,lq⟩:=Pf;have e:=rD rs;rw[←lq,List.map_append,List.map_append,List.map_singleton,List.append_assoc,List.singleton_append]at e;unfold nZ;rw[FT e.symm (fun r M=>by obtain⟨y,hy,rfl⟩:=List.mem_map.1 M;exact h1 y hy) d,←d];rfl
  rw[hv];exact⟨_,D4 _ _ (w.heap.size+1) (w.heap.size+1+1) _ _ true rfl rfl k0 k1,rfl,z.trans (belowK_b (w:=w) (Qk _) _ D _ _ (by have:=u.out;omega) hK' rfl rfl)⟩
end Attr
namespace Attr
open Go.ChangeShapes Go.WideShapes Go.ChangeAt Go.RowKit Go.Shelf Base bJ cr Rec Bk Mk Go.Lib
variable {S:Nat→Prop} {rs:bM}
abbrev rq:=List UInt8→Option (List UInt8)
def zy (F:rq):List UInt8→Option Value:=fun k=>(F k).map fun v=>.agg (recC k v)
def St (w:World) (g:Nat) (mb:Option Nat) (F:rq):Prop:=
 ao w g 128 #[.map mb]∧(mb=none→F=ov)∧∀B,mb=some B→ct gO w B (zy F)
def MY (w:World) (p:Option Addr) (F:rq):Prop:=(p=none∧F=ov)∨∃g mb,p=some ⟨g,0,none⟩∧St w g mb F
def uj (g:Nat) (mb:Option Nat):Nat→Prop:=fun k=>k=g∨mb=some k
section
variable {w w':World} {g:Nat} {mb:Option Nat} {F:rq} {p:Option Addr}
theorem St.lt (h:St w g mb F):g<w.heap.size:=h.1.lt
theorem St.dF (h:St w g mb F) (hB:mb=some B):B<w.heap.size:=(h.2.2 B hB).lt
theorem St.kept (h:St w g mb F) (hk:Kept S w w') (hn:∀k,uj g mb k→¬S k):St w' g mb F:=
 ⟨h.1.bG hk (hn g (.inl rfl)),h.2.1,fun B A=>(h.2.2 B A).kept hk (hn B (.inr A))⟩
theorem St.below (h:St w g mb F) (hb:Below w.heap.size w w'):St w' g mb F:=h.kept (Kept.aM hb af) (fun _ _=>id)
theorem MY.below (h:MY w p F) (hb:Below w.heap.size w w'):MY w' p F:=h.imp id fun⟨g,mb,hp,hs⟩=>⟨g,mb,hp,hs.below hb⟩
theorem St.new (w:World):St (w.alloc (.cells #[.map none] 128)) w.heap.size none ov:=⟨ao.new w _ _,fun _=>rfl,fun _ h=>by cases h⟩
theorem St.ptr (h:St w g mb F):MY w (some ⟨g,0,none⟩) F:=.inr ⟨g,mb,rfl,h⟩
theorem MY.nil (w:World):MY w none ov:=.inl ⟨rfl,rfl⟩
theorem oG {p:Option Addr} (h:St w g mb F) (hr:bN w p n rs) (h0:0<n) {a:Addr} (ha:p=some a):¬uj g mb a.block:=by
 obtain⟨b,o,rfl,A,hc⟩:=hr.2 h0
 cases ha
 have c0:=(hc 0 h0).1;rintro(e|e)
 ·subst e
  rw[h.1.cell]at c0;rcases Nat.eq_zero_or_pos o with rfl|ho
  ·simp at c0
  ·rw[Array.getElem?_eq_none (by simp;omega)]at c0;cases c0
 ·obtain⟨es,clock,hm,_⟩:=h.2.2 _ e
  simp[World.cell?,hm]at c0
theorem cM {p:Option Addr} (hr:bN w p n rs) (hk:Kept S w w') (hn:0<n→∀a,p=some a→¬S a.block):bN w' p n rs:=by
 refine⟨hr.1,fun A=>?_⟩;obtain⟨b,o,rfl,B,hc⟩:=hr.2 A;have e:=hk.block b B (hn A _ rfl);exact⟨b,o,rfl,Nat.lt_of_lt_of_le B hk.size,fun i hi=>⟨by rw[World.cell?_of_block e];exact(hc i hi).1,by rw[World.cell?_of_block e];exact(hc i hi).2⟩⟩
theorem D2 (w:World):(zeroValue 121).run Tryz.prog w=.ok (.agg #[.string ⟨#[]⟩,.string ⟨#[]⟩]) w:=Tryz.zeroValue121 w
theorem Ke (w:World) (a b:ByteArray):(Instr.field 121 (.agg #[.string a,.string b]) 1).run Tryz.prog w=.ok (.string b) w:=by
 kernel_rfl
theorem MH (h:St w g mb F) (k:List UInt8):
 ∃x:ByteArray,(Instr.lookup 126 (.map mb) (.string (str k)) false).run Tryz.prog w=.ok (.agg #[.string x,.string (str ((F k).getD []))]) w:=by
 cases mb with
 |none=>
  refine⟨⟨#[]⟩,?_⟩;rw[h.2.1 rfl];exact look_nil (K:=gO) Tryz.underlying126 Tryz.underlying9 D2 k w
 |some B=>
  have hl:=(h.2.2 B rfl).look Tryz.underlying126 Tryz.underlying9 D2 k
  cases hf:F k with
  |none=>
   refine⟨⟨#[]⟩,?_⟩;rw[show zy F k=none by unfold zy;rw[hf];rfl]at hl;exact hl
  |some v=>
   refine⟨str k,?_⟩;rw[show zy F k=some (.agg (recC k v)) by unfold zy;rw[hf];rfl]at hl;exact hl
end
theorem G4 (s:Option Addr) (F:rq) (k:List UInt8) (p:Option Addr) (n c:Nat) (rs:bM) (w:World) (hs:MY w s F) (hn:n≤4611686018427387904) (h:bN w p n rs):
 Calls Tryz.prog 144 #[.pointer s,.string (str k),.slice p n c] w fun e w'=>e=.returned (.string (str (dE F rs k)))∧Below w.heap.size w w':=by
 have hl:=JA k p n c rs w hn h;have I:=Qh hs;clear hs h hn;unfold dE
 cases D:aD rs k with
 |some v=>
  rw[show nZ rs k=.tuple #[.agg #[.string (str k),.string (str v)],.bool true] by unfold nZ;rw[D];rfl]at hl;clear D
  go_enter Tryz.func144,Tryz.ntmps144
  go_wp2_with fail
  refine hl.mono ?_;rintro e G ⟨rfl,A⟩;have B:=Qh A;clear A hl;go_wp2;go_ret;exact⟨rfl,B.out.alloc B.out.size _⟩
 |none=>
  rw[show nZ rs k=.tuple #[.agg #[.string ⟨#[]⟩,.string ⟨#[]⟩],.bool false] by unfold nZ;rw[D];rfl]at hl;clear D;rcases I.out with⟨rfl,rfl⟩|⟨g,mb,rfl,ma⟩
  ·go_enter Tryz.func144,Tryz.ntmps144
   go_wp2_with fail
   refine hl.mono ?_;rintro e G ⟨rfl,A⟩;have B:=Qh A;clear A hl;go_wp2;go_ret;exact⟨rfl,B.out.alloc B.out.size _⟩
  ·have H:=Qh ma
   clear ma
   go_enter Tryz.func144,Tryz.ntmps144
   go_wp2_with fail
   refine hl.mono ?_;rintro e G ⟨rfl,A⟩;have E:=H.out.below (A.alloc A.size (.cells #[.string ⟨#[]⟩,.string ⟨#[]⟩] 121));obtain⟨a,L⟩:=MH E k;have c0:=E.1.cell 0;simp only[Qc,Qa]at c0;have B:=Qh A;have J:=fun w=>Ke w a (str ((F k).getD []))
   clear A hl E;go_wp2;go_ret;exact⟨rfl,B.out.alloc B.out.size _⟩
def ny (w:World) (g:Nat) (mb:Option Nat) (F:rq) (rs:bM) (e:Ending) (w':World):Prop:=
 e=.returned (.tuple #[])∧∃B,St w' g (some B) (fr F rs)∧Kept (uj g mb) w w'∧(mb=some B∨w.heap.size≤B)
theorem vw (F:rq) (rs:bM) (k v:List UInt8):(fun y=>if y=k then some (Value.agg (recC k v))else zy (fr F rs) y)=zy (fr F (rs++[(k,v)])):=by
 funext y
 rw[B4];unfold zy
 by_cases h:y=k
 ·subst h;simp
 ·simp[h]
theorem take_one (rs:bM) (j:Nat) (hj:j<rs.length):rs.take (j+1)=rs.take j++[rs.getD j ([],[])]:=by
 rw[List.take_add_one];simp[List.getD,hj]
theorem St.ne {w:World} {g:Nat} {F:rq} (h:St w g (some B) F):¬aw B g:=fun e=>by
 obtain⟨es,clock,hm,_⟩:=h.2.2 B rfl;have e:g=B:=e;have h1:=h.1;unfold ao at h1;rw[e,hm]at h1
 cases h1
theorem Bi (g B:Nat) (F:rq) (p:Option Addr) (n c:Nat) (rs:bM) (w:World) (hs:St w g (some B) F) (hn:n≤4611686018427387904) (h:bN w p n rs):
 Calls Tryz.prog 111 #[.pointer (some ⟨g,0,none⟩),.slice p n c] w (ny w g (some B) F rs):=by
 have l:=Qh hs;have f:=Qh h;have O:=Qh h.1;have c0:=hs.1.cell 0;simp only[Qc,Qa]at c0;have Z:Hid (∀wr,Kept (uj g (some B)) w wr→Kept (uj g (some B)) w wr):=Qh (fun _ h=>h);have z:Hid (some B=some B∨w.heap.size≤B):=Qh (.inl rfl);clear hs h;have R:=fun w=>run_eql_map_nil (P:=Tryz.prog) w 126 _ _ (some B) Tryz.underlying126
 simp only[Option.isNone_some]at R
 go_enter Tryz.func111,Tryz.ntmps111
 go_wp2_with fail
 clear c0 R
 go_loopw [19] (fun i wr=>∃(j:Nat),j≤n∧i=.int .i64 (j:Int)∧Hid (St wr g (some B) (fr F (rs.take j))∧bN wr p n rs∧Kept (uj g (some B)) w wr)) (fun i _=>n - (RowKit.intOf i).toNat)
 case atStart=>exact⟨0,Nat.zero_le _,rfl,Qh ⟨by rw[List.take_zero,uZ];exact l.out,f.out,Kept.refl _ _⟩⟩
 case round=>
  obtain⟨j,hj,rfl,A⟩:=hrel
  by_cases U:j<n
  ·obtain⟨G,E,hk⟩:=A.out
   have y:(j:Int)<(n:Int):=by omega
   obtain⟨b,o,rfl,t,hc⟩:=E.2 (by omega);obtain⟨x0,N⟩:=hc j U;obtain⟨⟨D,H⟩,J⟩:∃u,rs.getD j ([],[])=u:=⟨_,rfl⟩
   rw[J,Nat.mul_comm]at x0 N;simp only at x0 N;have M:=G.below ((Below.refl _ wr).alloc (Qk _) (.cells #[.string (str D),.string (str H)] 121));have T:=E.below ((Below.refl _ wr).alloc (Qk _) (.cells #[.string (str D),.string (str H)] 121));have V:=hk.alloc (.cells #[.string (str D),.string (str H)] 121);have d0:=M.1.cell 0;simp only[Qc,Qa]at d0;obtain⟨r0,r1⟩:=rI wr 121 (.string (str D)) (.string (str H));have I:=Qh (And.intro M (And.intro T V));have m:=Qh J;clear G E hk t hc J M T V A;go_wp2_with fail;obtain⟨w4,X⟩:∃w4,wr.alloc (.cells #[.string (str D),.string (str H)] 121)=w4:=⟨_,rfl⟩
   rw[X]at d0 I r0 r1⊢;clear X x0 N
   go_still_tail 7,(by kernel_rfl)
   refine cD (K:=gO) rfl (.tmp 26) (.tmp 28) (.tmp 29) rfl Tryz.underlying126 Tryz.underlying9 B ((I.out.1.2.2 B rfl).kept (Kept.refl af w4).drew id) rfl D rfl (.agg (recC D H)) rfl ?_;intro w5 Y W p8
   have d:Hid (St w5 g (some B) (fr F (rs.take (j+1)))∧bN w5 (some ⟨b,o,none⟩) n rs∧Kept (uj g (some B)) w w5):=by
    obtain⟨G,E,hk⟩:=I.out;have L:Kept (aw B) w4 w5:=((Kept.refl (aw B) w4).drew).trans W.out;refine Qh ⟨⟨G.1.bG L G.ne,(fun h=>by cases h),fun B' h=>?_⟩,cM E L (fun q a r e=>oG G E q r (.inr (by rw[show a.block=B from e]))),hk.then L (fun i hi=>.inr (.inr (by rw[show i=B from hi])))⟩
    cases h
    rw[take_one rs j (by rw[O.out];exact U),m.out,←vw];exact Y.out
   clear Y W p8;go_wp2;go_roundw
   case rel=>exact⟨j+1,by omega,by go_num,d⟩
   case measure=>simp[RowKit.intOf];omega
  ·obtain rfl:j=n:=by omega
   have y:¬((j:Int)<(j:Int)):=by omega
   go_wp2
   go_end0
   have A:=A.out;rw[List.take_of_length_le (by rw[O.out];exact Qk _)]at A;exact⟨rfl,B,A.1,Z.out _ A.2.2,by first|exact z.out|exact .inl rfl⟩
theorem yz (g:Nat) (p:Option Addr) (n c:Nat) (rs:bM) (w:World) (hs:St w g none ov) (hn:n≤4611686018427387904) (h:bN w p n rs):
 Calls Tryz.prog 111 #[.pointer (some ⟨g,0,none⟩),.slice p n c] w (ny w g none ov rs):=by
 have c0:=hs.1.cell 0;simp only[Qc,Qa]at c0;have f0:=hs.1.frozen 0;have f1:=(hs.1.alloc (.map #[] 0)).frozen 0;have c1:=(hs.1.alloc (.map #[] 0)).cell 0;simp only[Qc,Qa]at c1;have Ho:=@run_makeMap Tryz.prog;have f:=fun w=>run_eql_map_nil (P:=Tryz.prog) w 126 _ _ none Tryz.underlying126
 simp only[Option.isNone_none]at f;have Sc:g<w.heap.size:=hs.lt;obtain⟨F,hF⟩:∃F,F=ov:=⟨_,rfl⟩
 have L:Kept (uj g none) w ((w.alloc (.map #[] 0)).setCell ⟨g,0,none⟩ (.map (some w.heap.size))):=((Kept.refl (uj g none) w).alloc _).setCell (a:=⟨g,0,none⟩) (.inr (.inl rfl)) _;have m:=cM h L (fun M a N=>oG hs h M N)
 have q:St ((w.alloc (.map #[] 0)).setCell ⟨g,0,none⟩ (.map (some w.heap.size))) g (some w.heap.size) F:=by
  refine⟨(hs.1.alloc (.map #[] 0)).set 0 _ (by decide),(fun h=>by cases h),fun B' I=>?_⟩
  cases I
  have hm:=(iw gO w).kept (((Kept.refl (aw g) (w.alloc (.map #[] 0)))).setCell (a:=⟨g,0,none⟩) (.inr rfl) (.map (some w.heap.size))) (fun e=>by have:w.heap.size=g:=e;omega);rw[hF];exact hm
 have X:Hid (∀wr,Kept (uj g (some w.heap.size)) ((w.alloc (.map #[] 0)).setCell ⟨g,0,none⟩ (.map (some w.heap.size))) wr→Kept (uj g none) w wr):=Qh (fun wr h=>L.then h (fun i hi=>by
  rcases hi with hi|hi
  ·exact .inr (.inl hi)
  ·cases hi;exact .inl (Qk _)))
 have T:Hid ((none:Option Nat)=some w.heap.size∨w.heap.size≤w.heap.size):=Qh (.inr (Qk _));have Y:=Qh h.1;have d:=Qh q;have Z:=Qh m;rw[←hF];clear q m L h hs Sc hF
 go_enter Tryz.func111,Tryz.ntmps111
 go_wp2_with fail
 obtain⟨W0,U⟩:∃W0,(w.alloc (.map #[] 0)).setCell ⟨g,0,none⟩ (.map (some w.heap.size))=W0:=⟨_,rfl⟩
 obtain⟨B,I⟩:∃B,w.heap.size=B:=⟨_,rfl⟩
 rw[U,I]at d X;rw[U]at Z⊢;rw[I];clear T;have T:Hid ((none:Option Nat)=some B∨w.heap.size≤B):=Qh (.inr (by omega));clear c0 f0 c1 f1 f Ho U I
 go_loopw [19] (fun i wr=>∃(j:Nat),j≤n∧i=.int .i64 (j:Int)∧Hid (St wr g (some B) (fr F (rs.take j))∧bN wr p n rs∧Kept (uj g (some B)) W0 wr)) (fun i _=>n - (RowKit.intOf i).toNat)
 case atStart=>exact⟨0,Nat.zero_le _,rfl,Qh ⟨by rw[List.take_zero,uZ];exact d.out,Z.out,Kept.refl _ _⟩⟩
 case round=>
  obtain⟨j,hj,rfl,A⟩:=hrel
  by_cases r:j<n
  ·obtain⟨G,E,hk⟩:=A.out
   have mD:(j:Int)<(n:Int):=by omega
   obtain⟨b,o,rfl,hb,hc⟩:=E.2 (by omega);obtain⟨x0,W⟩:=hc j r;obtain⟨⟨D,H⟩,O⟩:∃u,rs.getD j ([],[])=u:=⟨_,rfl⟩
   rw[O,Nat.mul_comm]at x0 W;simp only at x0 W;have V:=G.below ((Below.refl _ wr).alloc (Qk _) (.cells #[.string (str D),.string (str H)] 121));have l:=E.below ((Below.refl _ wr).alloc (Qk _) (.cells #[.string (str D),.string (str H)] 121));have t:=hk.alloc (.cells #[.string (str D),.string (str H)] 121);have d0:=V.1.cell 0;simp only[Qc,Qa]at d0;obtain⟨r0,r1⟩:=rI wr 121 (.string (str D)) (.string (str H));have J:=Qh (And.intro V (And.intro l t));have UY:=Qh O;clear G E hk hb hc O V l t A;go_wp2_with fail;obtain⟨w4,z⟩:∃w4,wr.alloc (.cells #[.string (str D),.string (str H)] 121)=w4:=⟨_,rfl⟩
   rw[z]at d0 J r0 r1⊢;clear z x0 W
   go_still_tail 7,(by kernel_rfl)
   refine cD (K:=gO) rfl (.tmp 26) (.tmp 28) (.tmp 29) rfl Tryz.underlying126 Tryz.underlying9 B ((J.out.1.2.2 B rfl).kept (Kept.refl af w4).drew id) rfl D rfl (.agg (recC D H)) rfl ?_;intro w5 uR y p8
   have HN:Hid (St w5 g (some B) (fr F (rs.take (j+1)))∧bN w5 (some ⟨b,o,none⟩) n rs∧Kept (uj g (some B)) W0 w5):=by
    obtain⟨G,E,hk⟩:=J.out;have R:Kept (aw B) w4 w5:=((Kept.refl (aw B) w4).drew).trans y.out;refine Qh ⟨⟨G.1.bG R G.ne,(fun h=>by cases h),fun B' h=>?_⟩,cM E R (fun M a N e=>oG G E M N (.inr (by rw[show a.block=B from e]))),hk.then R (fun i hi=>.inr (.inr (by rw[show i=B from hi])))⟩
    cases h
    rw[take_one rs j (by rw[Y.out];exact r),UY.out,←vw];exact uR.out
   clear uR y p8;go_wp2;go_roundw
   case rel=>exact⟨j+1,by omega,by go_num,HN⟩
   case measure=>simp[RowKit.intOf];omega
  ·obtain rfl:j=n:=by omega
   have mD:¬((j:Int)<(j:Int)):=by omega
   go_wp2
   go_end0
   have A:=A.out;rw[List.take_of_length_le (by rw[Y.out];exact Qk _)]at A;exact⟨rfl,B,A.1,X.out _ A.2.2,by first|exact T.out|exact .inl rfl⟩
theorem Bh (g:Nat) (mb:Option Nat) (F:rq) (p:Option Addr) (n c:Nat) (rs:bM) (w:World) (hs:St w g mb F) (hn:n≤4611686018427387904) (h:bN w p n rs):
 Calls Tryz.prog 111 #[.pointer (some ⟨g,0,none⟩),.slice p n c] w (ny w g mb F rs):=by
 cases mb with
 |some B=>exact Bi g B F p n c rs w hs hn h
 |none=>
  obtain rfl:=hs.2.1 rfl;exact yz g p n c rs w hs hn h
end Attr
namespace Mem
open Go.ChangeShapes Go.WideShapes Go.ChangeAt Go.RowKit Base bJ cr Bk Mk Block Attr Rec Go.Lib
variable {y:Addr} {m:Nat} {v':Value} {rs:bM}
structure RK where
 r:Nat
 g:Nat
 gs:Nat
 mw:Nat
 S:Sv
def bH (s:RS) (q:Option Addr) (n c:Nat):UInt8→Option Value:=fun k=>
 if k=120 then(if s.dU=true then some (.agg #[.string ⟨#[]⟩,.slice q n c])else none)
 else if k=76 then s.name.map (fun t=>.agg #[.string (str t),.slice none 0 0])
 else if k=75 then s.link.map (fun t=>.agg #[.string (str t),.slice none 0 0])
 else none
def D1 (K:RK) (v:Value):Array Value:=#[.pointer (some ⟨K.g,0,none⟩),.pointer (some ⟨K.gs,0,none⟩),.map (some K.mw),v]
def Ot (K:RK) (mb:Option Nat) (v:Value):Nat→Prop:=fun k=>k=K.r∨k=K.gs∨k=K.mw∨mb=some k∨v.ownBlock=some k
structure Rd (w0 w:World) (K:RK) (a:Nat) (s:RS) (mb:Option Nat) (v:Value) (xs:List MP) (q:Option Addr) (n c:Nat):Prop where
 bel:Below w0.heap.size w0 w
 gm:ao w K.r 91 (D1 K v)
 src:∃t,Block.Src w K.g K.S a t
 off:K.S.off K.g
 st:St w K.gs mb (aD s.cF)
 map:ct KY w K.mw (bH s q n c)
 own:bN w q n s.own
 oz:s.dU=false→s.own=[]
 row:w.ownsRow w0.heap.size 48 8 v xs.length (gA xs)
 out:xs.map MP.m=s.out
 bodies:∀x∈xs,dx w x
 apart:∀x∈xs,0<x.m.body.length→∀y,x.p=some y→¬Ot K mb v y.block∧y.block≠K.g
 sp:0<K.S.n→∀y,K.S.p=some y→¬Ot K mb v y.block
 sq:0<K.S.m→∀y,K.S.q=some y→¬Ot K mb v y.block
 ne:K.r≠K.g∧K.r≠K.gs∧K.r≠K.mw∧K.g≠K.gs∧K.g≠K.mw∧K.gs≠K.mw
 uc:∀b,mb=some b→b≠K.r∧b≠K.g∧b≠K.gs∧b≠K.mw∧w0.heap.size≤b
 re:∀b,v.ownBlock=some b→b≠K.r∧b≠K.g∧b≠K.gs∧b≠K.mw∧mb≠some b
 base:w0.heap.size≤K.r∧w0.heap.size≤K.g∧w0.heap.size≤K.gs∧w0.heap.size≤K.mw
 many:s.out.length≤4096
 gl:∀r∈s.cF,r.2.length≤1048576
 ol:(∀r∈s.own,r.2.length≤1048576)∧s.own.length≤1048576
 nl:∀t,s.name=some t→t.length≤1048576
 ll:∀t,s.link=some t→t.length≤1048576
section
variable {w0 w w':World} {K:RK} {a:Nat} {s:RS} {mb:Option Nat} {v:Value} {xs:List MP} {q:Option Addr} {n c:Nat}
theorem wW {zs:List Int} (h:Eg w p m zs) (h0:0<m) (hy:p=some y):y.block<w.heap.size:=by
 obtain⟨b,o,he,A,hc⟩:=h h0;rw[hy]at he
 cases he
 exact A
theorem xw {t:TypeId} {cs:Array Value} (hb:ao w b t cs) (hs:∀(i:Nat) (x:ByteArray),cs[i]? ≠some (.string x)) (hr:bN w p m rs) (h0:0<m) (hy:p=some y):y.block≠b:=by
 obtain⟨B,o,rfl,A,hc⟩:=hr.2 h0
 cases hy
 rintro rfl;have c0:=(hc 0 h0).1;rw[hb.cell]at c0;exact hs _ _ c0
theorem xx {Ky:gL α} {f:α→Option Value} (hm:ct Ky w b f) (hr:bN w p m rs) (h0:0<m) (hy:p=some y):y.block≠b:=by
 obtain⟨B,o,rfl,A,hc⟩:=hr.2 h0
 cases hy
 rintro rfl;obtain⟨es,clock,hm,_⟩:=hm;have c0:=(hc 0 h0).1;simp[World.cell?,hm]at c0
theorem Rd.zh (h:Rd w0 w K a s mb v xs q n c):0<n→∀y,q=some y→¬aw K.g y.block:=fun A y hy e=>by
 obtain⟨t,hs⟩:=h.src;refine xw (show ao w K.g 132 _ from hs.gm) ?_ h.own A hy e;intro i x B;rcases i with _|_|_|_|i<;>simp at B
theorem Rd.Cf (h:Rd w0 w K a s mb v xs q n c):0<n→∀y,q=some y→¬uj K.gs mb y.block:=fun A y hy e=>oG h.st h.own A hy e
theorem Rd.Gc (h:Rd w0 w K a s mb v xs q n c) (hN:Need w0):Need w:=hN.below h.bel
theorem Rd.idle (h:Rd w0 w K a s mb v xs q n c) (hk:Kept af w w'):Rd w0 w' K a s mb v xs q n c where
 bel:=h.bel.trans (hk.below h.bel.size (fun k hk=>hk.elim))
 gm:=h.gm.bG hk id
 src:=by obtain⟨t,hs⟩:=h.src;exact⟨t,hs.cz hk⟩
 off:=h.off
 st:=h.st.kept hk (fun _ _=>id)
 map:=h.map.kept hk id
 own:=cM h.own hk (fun _ _ _=>id)
 oz:=h.oz
 row:=b6 h.row hk (fun _ _=>id)
 out:=h.out
 bodies:=fun x A=>(h.bodies x A).kept hk (fun _ _ _=>id)
 apart:=h.apart
 sp:=h.sp
 sq:=h.sq
 ne:=h.ne
 uc:=h.uc
 re:=h.re
 base:=h.base
 many:=h.many
 gl:=h.gl
 ol:=h.ol
 nl:=h.nl
 ll:=h.ll
theorem Rd.below (h:Rd w0 w K a s mb v xs q n c) (hb:Below w.heap.size w w'):Rd w0 w' K a s mb v xs q n c:=h.idle (Kept.aM hb af)
theorem Rd.eS (h:Rd w0 w K a s mb v xs q n c) {a':Nat} (hk:Kept (aw K.g) w w') (hs:∃t,Block.Src w' K.g K.S a' t):Rd w0 w' K a' s mb v xs q n c where
 bel:=h.bel.trans (hk.below h.bel.size (fun k hk=>by rw[show k=K.g from hk];exact h.base.2.1))
 gm:=h.gm.bG hk h.ne.1
 src:=hs
 off:=h.off
 st:=h.st.kept hk (fun k hk e=>by
  rcases hk with rfl|hk
  ·exact h.ne.2.2.2.1 (show K.gs=K.g from e).symm
  ·exact(h.uc k hk).2.1 e)
 map:=h.map.kept hk (fun e=>h.ne.2.2.2.2.1 (show K.mw=K.g from e).symm)
 own:=cM h.own hk h.zh
 oz:=h.oz
 row:=b6 h.row hk (fun k hk e=>(h.re k hk).2.1 e)
 out:=h.out
 bodies:=fun x A=>(h.bodies x A).kept hk (fun B y hy e=>(h.apart x A B y hy).2 e)
 apart:=h.apart
 sp:=h.sp
 sq:=h.sq
 ne:=h.ne
 uc:=h.uc
 re:=h.re
 base:=h.base
 many:=h.many
 gl:=h.gl
 ol:=h.ol
 nl:=h.nl
 ll:=h.ll
theorem Rd.waits (h:Rd w0 w K a s mb v xs q n c) {s':RS} {q':Option Addr} {n' c':Nat} (hk:Kept (aw K.mw) w w') (hm:ct KY w' K.mw (bH s' q' n' c')) (ho:bN w q' n' s'.own)
 (h1:s'.out=s.out) (h2:s'.cF=s.cF) (h3:s'.dU=false→s'.own=[]) (h4:(∀r∈s'.own,r.2.length≤1048576)∧s'.own.length≤1048576)
 (h5:∀t,s'.name=some t→t.length≤1048576) (h6:∀t,s'.link=some t→t.length≤1048576):Rd w0 w' K a s' mb v xs q' n' c' where
 bel:=h.bel.trans (hk.below h.bel.size (fun k hk=>by rw[show k=K.mw from hk];exact h.base.2.2.2))
 gm:=h.gm.bG hk h.ne.2.2.1
 src:=by
  obtain⟨t,hs⟩:=h.src;exact⟨t,hs.kept hk h.ne.2.2.2.2.1 (fun A y hy e=>h.sp A y hy (.inr (.inr (.inl e)))) (fun A y hy e=>h.sq A y hy (.inr (.inr (.inl e))))⟩
 off:=h.off
 st:=by
  rw[h2];refine h.st.kept hk (fun k hk e=>?_);rcases hk with rfl|hk
  ·exact h.ne.2.2.2.2.2 e
  ·exact(h.uc k hk).2.2.2.1 e
 map:=hm
 own:=cM ho hk (fun A y hy e=>xx h.map ho A hy e)
 oz:=h3
 row:=b6 h.row hk (fun k hk e=>(h.re k hk).2.2.2.1 e)
 out:=by rw[h1];exact h.out
 bodies:=fun x B=>(h.bodies x B).kept hk (fun A y hy e=>(h.apart x B A y hy).1 (.inr (.inr (.inl e))))
 apart:=h.apart
 sp:=h.sp
 sq:=h.sq
 ne:=h.ne
 uc:=h.uc
 re:=h.re
 base:=h.base
 many:=by rw[h1];exact h.many
 gl:=by rw[h2];exact h.gl
 ol:=h4
 nl:=h5
 ll:=h6
theorem Rd.Rt (h:Rd w0 w K a s mb v xs q n c) (ma:St w' K.gs (some B) (fr (aD s.cF) rs)) (hk:Kept (uj K.gs mb) w w') (hB:mb=some B∨w.heap.size≤B) (hl:∀r∈rs,r.2.length≤1048576):
 Rd w0 w' K a {s with cF:=s.cF++rs} (some B) v xs q n c:=by
 have U:=h.bel.size
 have I:∀k,k<w.heap.size→¬Ot K mb v k→¬Ot K (some B) v k:=fun k O E e=>by
  rcases e with e|e|e|e|e
  ·exact E (.inl e)
  ·exact E (.inr (.inl e))
  ·exact E (.inr (.inr (.inl e)))
  ·rcases hB with hB|hB
   ·exact E (.inr (.inr (.inr (.inl (hB.trans e)))))
   ·cases e;omega
  ·exact E (.inr (.inr (.inr (.inr e))))
 have H:∀k,uj K.gs mb k→Ot K mb v k:=fun k hk=>by
  rcases hk with rfl|hk
  ·exact .inr (.inl rfl)
  ·exact .inr (.inr (.inr (.inl hk)))
 obtain⟨t,hs⟩:=h.src
 have W:∀k,uj K.gs mb k→w0.heap.size≤k:=fun k hk=>by
  rcases hk with rfl|hk
  ·exact h.base.2.2.1
  ·exact(h.uc k hk).2.2.2.2
 have hr:¬uj K.gs mb K.r:=fun e=>by
  rcases e with e|e
  ·exact h.ne.2.1 e
  ·exact(h.uc _ e).1 rfl
 have T:¬uj K.gs mb K.g:=fun e=>by
  rcases e with e|e
  ·exact h.ne.2.2.2.1 e
  ·exact(h.uc _ e).2.1 rfl
 have J:¬uj K.gs mb K.mw:=fun e=>by
  rcases e with e|e
  ·exact h.ne.2.2.2.2.2 e.symm
  ·exact(h.uc _ e).2.2.2.1 rfl
 have V:∀k,v.ownBlock=some k→¬uj K.gs mb k:=fun k hk e=>by
  rcases e with e|e
  ·exact(h.re k hk).2.2.1 e
  ·exact(h.re k hk).2.2.2.2 e
 exact {
  bel:=h.bel.trans (hk.below h.bel.size W)
  gm:=h.gm.bG hk hr
  src:=⟨t,hs.kept hk T (fun A y hy e=>h.sp A y hy (H _ e)) (fun A y hy e=>h.sq A y hy (H _ e))⟩
  off:=h.off
  st:=by rw[←BL];exact ma
  map:=h.map.kept hk J
  own:=cM h.own hk h.Cf
  oz:=h.oz
  row:=b6 h.row hk V
  out:=h.out
  bodies:=fun x D=>(h.bodies x D).kept hk (fun A y hy e=>(h.apart x D A y hy).1 (H _ e))
  apart:=fun x D A y hy=>⟨I _ (kV (h.bodies x D).iZ A hy) (h.apart x D A y hy).1,(h.apart x D A y hy).2⟩
  sp:=fun A y hy=>I _ (kV hs.iZ A hy) (h.sp A y hy)
  sq:=fun A y hy=>I _ (wW hs.L8 A hy) (h.sq A y hy)
  ne:=h.ne
  uc:=fun b G=>by
   cases G
   rcases hB with hB|hB
   ·exact h.uc B hB
   ·have h1:=h.gm.lt
    have L:=hs.lt;have M:=h.st.lt;have N:=h.map.lt;exact⟨by omega,by omega,by omega,by omega,by omega⟩
  re:=fun b G=>by
   obtain⟨h1,L,M,N,R⟩:=h.re b G;have O:=(h.row.lt b G).2;refine⟨h1,L,M,N,fun e=>?_⟩;rcases hB with hB|hB
   ·exact R (hB.trans e)
   ·cases e;omega
  base:=h.base
  many:=h.many
  gl:=fun r hr=>by
   rcases List.mem_append.1 hr with hr|hr
   ·exact h.gl r hr
   ·exact hl r hr
  ol:=h.ol
  nl:=h.nl
  ll:=h.ll}
theorem Rd.F7 (h:Rd w0 w K a s mb v xs q n c) (hg:w.grownBy w' v.ownBlock):ct KY (w'.setCell ⟨K.r,3,none⟩ v') K.mw (bH s q n c):=
 (h.map.kept ((Kept.refl _ w).grown hg (fun k hk=>.inr hk):Kept (fun k=>v.ownBlock=some k) w w') (fun e=>(h.re _ e).2.2.2.1 rfl)).kept ((Kept.refl (aw K.r) w').setCell (a:=⟨K.r,3,none⟩) (.inr rfl) v') h.ne.2.2.1.symm
theorem Rd.added (h:Rd w0 w K a s mb v xs q n c) {y:MP} (cO:w'.ownsRow w0.heap.size 48 8 v' (xs++[y]).length (gA (xs++[y]))) (hg:w.grownBy w' v.ownBlock) (Bz:eL w v v')
 (hy:dx w y) (Po:0<y.m.body.length→∀z,y.p=some z→¬Ot K mb v z.block∧z.block≠K.g) (hm:s.out.length<4096) {w2:World}
 (tU:ct KY w2 K.mw (fun _=>none)) (dc:Kept (aw K.mw) (w'.setCell ⟨K.r,3,none⟩ v') w2):
 Rd w0 w2 K a {s with out:=s.out++[y.m],own:=[],name:=none,link:=none,dU:=false} mb v' (xs++[y]) none 0 0:=by
 have R:Kept (fun k=>v.ownBlock=some k) w w':=(Kept.refl _ w).grown hg (fun k hk=>.inr hk);have T:Kept (aw K.r) w' (w'.setCell ⟨K.r,3,none⟩ v'):=(Kept.refl (aw K.r) w').setCell (a:=⟨K.r,3,none⟩) (.inr rfl) v';have O:Kept (fun k=>k=K.r∨k=K.mw) w' w2:=(T.mono (fun k hk=>.inl hk)).trans (dc.mono (fun k hk=>.inr hk));have hk:Kept (fun k=>v.ownBlock=some k∨k=K.r∨k=K.mw) w w2:=(R.mono (fun k hk=>.inl hk)).trans (O.mono (fun k hk=>.inr hk));have N:∀k,v'.ownBlock=some k→(v.ownBlock=some k∨w.heap.size≤k):=Bz
 have G:∀k,(v.ownBlock=some k∨k=K.r∨k=K.mw)→Ot K mb v k:=fun k hk=>by
  rcases hk with hk|rfl|rfl
  ·exact .inr (.inr (.inr (.inr hk)))
  ·exact .inl rfl
  ·exact .inr (.inr (.inl rfl))
 have H:∀k,k<w.heap.size→¬Ot K mb v k→¬Ot K mb v' k:=fun k U E e=>by
  rcases e with e|e|e|e|e
  ·exact E (.inl e)
  ·exact E (.inr (.inl e))
  ·exact E (.inr (.inr (.inl e)))
  ·exact E (.inr (.inr (.inr (.inl e))))
  ·rcases N k e with e'|e'
   ·exact E (.inr (.inr (.inr (.inr e'))))
   ·omega
 obtain⟨t,hs⟩:=h.src;have h1:=h.gm.lt;have V:=hs.lt;have W:=h.st.lt;have X:=h.map.lt
 have I:∀b,v'.ownBlock=some b→b≠K.r∧b≠K.g∧b≠K.gs∧b≠K.mw∧mb≠some b:=fun b D=>by
  rcases N b D with e|e
  ·exact h.re b e
  ·exact⟨by omega,by omega,by omega,by omega,fun hm=>by have:=h.st.dF hm;omega⟩
 have M:∀k,k≠K.r→k≠K.mw→(∀b,v.ownBlock=some b→k≠b)→¬(v.ownBlock=some k∨k=K.r∨k=K.mw):=fun k J hw E e=>by
  rcases e with e|e|e
  ·exact E k e rfl
  ·exact J e
  ·exact hw e
 exact {
  bel:=h.bel.trans (hk.below h.bel.size (fun k hk=>by
   rcases hk with hk|rfl|rfl
   ·exact(h.row.lt k hk).1
   ·exact h.base.1
   ·exact h.base.2.2.2))
  gm:=((h.gm.bG R (fun e=>(h.re _ e).1 rfl)).set 3 v' (by decide:3<4)).bG dc h.ne.2.2.1
  src:=⟨t,hs.kept hk (M _ h.ne.1.symm h.ne.2.2.2.2.1 (fun b D e=>(h.re b D).2.1 e.symm)) (fun A y hy e=>h.sp A y hy (G _ e)) (fun A y hy e=>h.sq A y hy (G _ e))⟩
  off:=h.off
  st:=h.st.kept hk (fun k hk=>by
   rcases hk with rfl|hk
   ·exact M _ h.ne.2.1.symm h.ne.2.2.2.2.2 (fun b D e=>(h.re b D).2.2.1 e.symm)
   ·exact M _ (h.uc k hk).1 (h.uc k hk).2.2.2.1 (fun b D e=>(h.re b D).2.2.2.2 (by rw[←e];exact hk)))
  map:=by
   have:bH {s with out:=s.out++[y.m],own:=[],name:=none,link:=none,dU:=false} none 0 0=fun _=>none:=by
    funext k
    unfold bH;simp
   rw[this];exact tU
  own:=⟨rfl,fun h=>by omega⟩
  oz:=fun _=>rfl
  row:=b6 cO O (fun k hk e=>by
   rcases e with e|e
   ·exact(I k hk).1 e
   ·exact(I k hk).2.2.2.1 e)
  out:=by rw[List.map_append,h.out];rfl
  bodies:=fun x hx=>by
   rcases List.mem_append.1 hx with hx|hx
   ·exact(h.bodies x hx).kept hk (fun A y hy e=>(h.apart x hx A y hy).1 (G _ e))
   ·rw[List.mem_singleton]at hx
    subst hx;exact hy.kept hk (fun A z B e=>(Po A z B).1 (G _ e))
  apart:=fun x hx A z B=>by
   rcases List.mem_append.1 hx with hx|hx
   ·exact⟨H _ (kV (h.bodies x hx).iZ A B) (h.apart x hx A z B).1,(h.apart x hx A z B).2⟩
   ·rw[List.mem_singleton]at hx
    subst hx;exact⟨H _ (kV hy.iZ A B) (Po A z B).1,(Po A z B).2⟩
  sp:=fun A y hy=>H _ (kV hs.iZ A hy) (h.sp A y hy)
  sq:=fun A y hy=>H _ (wW hs.L8 A hy) (h.sq A y hy)
  ne:=h.ne
  uc:=h.uc
  re:=I
  base:=h.base
  many:=by show(s.out++[y.m]).length≤4096;rw[Qf,List.length_singleton];omega
  gl:=h.gl
  ol:=⟨fun r J=>by simp at J,by simp⟩
  nl:=fun t L=>by cases L
  ll:=fun t L=>by cases L}
end
end Mem
end Go.Proofs.YtdhibldkldlfpaaGreatDoor
