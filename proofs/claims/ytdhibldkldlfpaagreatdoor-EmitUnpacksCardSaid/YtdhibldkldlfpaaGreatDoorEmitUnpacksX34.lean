/- Merged. -/
import Derived.RangeFuncNested
import Derived.RangeFuncBound
import Derived.Shelf.Abstract
import Derived.Shelf.RegionOpen
import Derived.WalkKit
import Derived.OwnWalkIn
import Derived.LoopNIn
import Derived.LoopIn
import Derived.Test.YtdhibldkldlfpaaGreatDoorEmitUnpacksX33
import Derived.Test.YtdhibldkldlfpaaGreatDoorEmitUnpacksX23
import Derived.Test.YtdhibldkldlfpaaGreatDoorEmitUnpacksX30
namespace Go.Proofs.YtdhibldkldlfpaaGreatDoor
set_option linter.unusedVariables false
set_option maxHeartbeats 4000000
set_option maxRecDepth 100000
variable {M:Array Value} {B g i k n:Nat} {W w W' w':World}
namespace Path
open Go.ChangeShapes Go.WideShapes Go.ChangeAt Go.RowKit Go.Shelf Base cb iK Go.Lib ur
attribute [local go_sem] Oper.semAt_some
theorem xL {β:Type} {B:Nat} {J:β→World→Prop} (h:AbidesFrom B J) {s:β} {w:World} (hs:J s w) (n:Nat):J s (w.drewN n):=
 match n with
 |0=>hs
 |n+1=>h s (w.drewN n) _ none (xL h hs n) ⟨rfl,rfl,rfl,Qk _,fun _ _ _=>rfl⟩ (fun r e=>by cases e)
def OT (m:Bool) (l:List UInt8):List (List UInt8):=if m then aH l else[]
theorem Vb (l:List UInt8):OT true l=(vW l).1::OT (vW l).2.2 (vW l).2.1:=by
 unfold OT vW;rw[if_pos rfl];obtain⟨h1,A⟩:=Fw l
 by_cases h:0≤Lib.indexByte l 47
 ·rw[if_pos h,h1 h]
  simp
 ·rw[if_neg h,A h]
  simp
theorem TZ (l:List UInt8):(vW l).2.1.length+(if(vW l).2.2 then 1 else 0)<l.length+1:=by
 unfold vW
 by_cases h:0≤Lib.indexByte l 47
 ·rw[if_pos h]
  obtain⟨k,hk⟩:∃k:Nat,Lib.indexByte l 47=k:=⟨(Lib.indexByte l 47).toNat,by omega⟩
  have A:=(List.getElem?_eq_some_iff.1 (Lib.indexByte_some hk).1).1;simp only[Qe,hk,Int.toNat_natCast,if_true];omega
 ·rw[if_neg h]
  simp
def Z7 (r m:Value):Nat:=(match r with|.string s=>s.size|_=>0)+(match m with|.bool true=>1|_=>0)
abbrev Part:={x:List UInt8 // x.length≤140737488351232}
theorem RJ (l:List UInt8):∀p∈aH l,p.length≤l.length:=by
 induction l with
 |nil=>simp[aH]
 |cons b l ih=>
  unfold aH
  by_cases A:b=47
  ·rw[if_pos A]
   intro p hp;rcases List.mem_cons.1 hp with rfl|hp
   ·simp
   ·have:=ih p hp;rw[List.length_cons];omega
  ·rw[if_neg A]
   cases B:aH l with
   |nil=>exact absurd B (Db l)
   |cons q qs=>
    rw[B]at ih;intro p hp;rcases List.mem_cons.1 hp with rfl|hp
    ·have:=ih q (by simp)
     simp only[List.headD_cons,List.length_cons];omega
    ·have:=ih p (List.mem_cons_of_mem _ hp);rw[List.length_cons];omega
theorem Nv (s:List UInt8) (hm:s.length≤140737488351232):∃ps:List Part,ps.map (·.1)=aH s:=by
 refine⟨(aH s).attachWith _ (fun p A=>Nat.le_trans (RJ s p A) hm),?_⟩;simp
theorem aj0 (F:Fence) (n:Nat) (hF:F=Fence.wide) (hn:1≤n) (l Bn:Nat) (s:List UInt8) (hm:s.length≤140737488351232) (ps:List Part) (vJ:ps.map (·.1)=aH s) (J Jx:List Part→World→Prop) (B:Nat) (hJ:AbidesFrom B J)
 (hY:∀pre x W,J pre W→pre.length<ps.length→YieldAt F (n - 1) Tryz.prog l #[.string (str x.1)] W fun e W'=>
  (e=.returned (.bool true)∧J (pre++[x]) W'∧True)∨(e=.returned (.bool false)∧Jx (pre++[x]) W'))
 (W:World) (hBn:W.cell? ⟨Bn,0,none⟩=some (.string (str s))) (h0:J [] W):
 CallsIn F n Tryz.prog 187 #[.func (.yield l) #[] #[],.pointer (some ⟨Bn,0,none⟩)] W fun e W'=>(∃v,e=.returned v)∧
  ((∃ys,ys=ps∧J ys W')∨(∃pre,pre<+:ps∧Jx pre W')):=by
 subst hF;refine callsIn_of_wp Tryz.func187 rfl trivial ?_ rfl;simp only[Tryz.ntmps187,List.size_toArray,List.length_cons,List.length_nil,Nat.reduceAdd,Nat.reduceSub,Array.replicate_succ,Array.replicate_zero,List.push_toArray,List.append_toArray,List.nil_append,List.cons_append]
 gi_wp2
 gi_loopw [3,4] (fun r m wr=>∃(pre D:List Part) (rest:List UInt8) (b:Bool),r=.string (str rest)∧m=.bool b∧Hid (ps=pre++D∧D.map (·.1)=OT b rest)∧rest.length≤140737488351232∧J pre wr)
  (fun r m wr=>Z7 r m)
 case atStart=>exact⟨[],ps,s,true,rfl,rfl,⟨rfl,vJ⟩,hm,h0⟩
 case round=>
  obtain⟨pre,D,rest,b,rfl,rfl,X,f,G⟩:=hrel
  cases b with
  |false=>
   gi_wp2
   go_end0
   exact⟨⟨_,rfl⟩,.inl ⟨pre,by obtain⟨h1,T⟩:=X.out;obtain rfl:D=[]:=List.map_eq_nil_iff.1 T;simp[h1],G⟩⟩
  |true=>
   obtain⟨M,A⟩:=X.out;rw[Vb]at A
   obtain⟨x,tl',O⟩:∃x tl',D=x::tl':=by
    cases D with
    |nil=>simp at A
    |cons x tl'=>exact⟨x,tl',rfl⟩
   rw[O,List.map_cons,List.cons.injEq]at A;have hc:=Gl rest wr f;have hl:=TZ rest;have H:(str rest).size=rest.length:=ax rest;obtain⟨p,V⟩:∃p:List UInt8,p=x.1:=⟨_,rfl⟩
   obtain⟨q,L⟩:∃q,q=(vW rest).2.1:=⟨_,rfl⟩
   obtain⟨b,I⟩:∃b,b=(vW rest).2.2:=⟨_,rfl⟩
   rw[←A.1,←V,←L,←I]at hc;rw[←L,←I]at A;rw[O]at M;rw[←L,←I]at hl;have N:=Qh (And.intro M A.2);have Y:=Qh hl;have Z:=Qh H
   have E:∀k,YieldAt Fence.wide (n - 1) Tryz.prog l #[.string (str x.1)] (wr.drewN k) fun e W'=>
    (e=.returned (.bool true)∧J (pre++[x]) W'∧True)∨(e=.returned (.bool false)∧Jx (pre++[x]) W'):=
    fun k=>hY pre x _ (xL hJ G k) (by rw[M];simp)
   rw[←V]at E;clear V L I M A hl H X O hY
   gi_wp2_with (refine⟨trivial,?_⟩;gi_at_call 141;refine(callsIn_wide.2 hc).mono ?_;rintro e w' ⟨rfl,k,rfl⟩;obtain⟨fn,tmps,assign,body,hy,d⟩:=E k)
   refine d.mono ?_;rintro e g (⟨rfl,U,-⟩|⟨rfl,R⟩)
   ·gi_wp2
    go_roundw
    case rel=>exact⟨pre++[x],tl',q,b,rfl,rfl,⟨by rw[N.out.1];simp,N.out.2⟩,by have:=Y.out;omega,U⟩
    case measure=>
     have h1:=Y.out;have T:=Z.out;have c:(str q).size=q.length:=ax q
     cases b<;>simp[Z7,T,c]at h1⊢<;>omega
   ·gi_wp2
    refine bodyPost_ret (results_none rfl _ _ _) rfl ?_;exact⟨⟨_,rfl⟩,.inr ⟨pre++[x],by rw[N.out.1];exact⟨tl',by simp⟩,R⟩⟩
theorem Se (n:Nat) (hn:1≤n) (Bn:Nat) (s:List UInt8) (hm:s.length≤140737488351232) (ps:List Part) (vJ:ps.map (·.1)=aH s) (w:World) (hBn:Bn<w.heap.size) (hc:w.cell? ⟨Bn,0,none⟩=some (.string (str s))):
 SeqStopsK Fence.wide n Tryz.prog 187 #[.pointer (some ⟨Bn,0,none⟩)] (fun x:Part=>#[Value.string (str x.1)]) (fun _ _=>True) (fun ys=>ys=ps) (fun pre=>pre<+:ps) ps.length w:=fun l J A W E D _ G B=>
 aj0 Fence.wide n rfl hn l Bn s hm ps vJ J A _ D G W ((E.cell (p:=⟨Bn,0,none⟩) hBn).trans hc) B
theorem RG (s:List UInt8) (w:World):
 Calls Tryz.prog 150 #[.string (str s)] w fun e w'=>e=.returned (.func (.func 187) #[] #[.pointer (some ⟨w.heap.size,0,none⟩)])∧w'=w.alloc (.cells #[.string (str s)] 9):=by
 go_enter Tryz.func150,Tryz.ntmps150
 go_wp2;go_ret;exact⟨rfl,rfl⟩
end Path
namespace Path
open Go.ChangeShapes Go.WideShapes Go.ChangeAt Go.RowKit Go.Shelf Base cb iK Go.Lib ur
variable {b:Nat} {v:Value}
attribute [local go_sem] Oper.semAt_some
theorem Oo (a b:List (List UInt8)):∀c,Bt c (a++b)=(Bt c a).bind fun d=>Bt d b:=by
 induction a with
 |nil=>intro c;rfl
 |cons p a ih=>
  intro c;rw[List.cons_append,Bt,Bt];split
  ·rfl
  ·exact ih _
theorem Ua (pre:List (List UInt8)) (p c d:List UInt8) (h:Bt c pre=some d):Bt c (pre++[p])=if p=[46,46]∨200<(cr d p).length then none else some (cr d p):=by
 rw[Oo,h,Option.bind_some];unfold Bt;split<;>rfl
theorem ad5 (ps:List (List UInt8)):∀c d,c.length≤200→Bt c ps=some d→d.length≤200:=by
 induction ps with
 |nil=>intro c d hc h;cases h;exact hc
 |cons p ps ih=>
  intro c d hc h;unfold Bt at h;split at h
  ·cases h
  ·next A=>exact ih _ _ (by rcases Nat.lt_or_ge 200 (cr c p).length with h'|h';exact absurd (.inr h') A;exact h') h
theorem T9 (a b:List (List UInt8)) (h:Bt [] a=none):Bt [] (a++b)=none:=by rw[Oo,h];rfl
theorem Cq (l:List UInt8):Lib.hasPrefix l [47]=decide (l.head? =some 47):=by
 cases l with
 |nil=>simp[Lib.hasPrefix]
 |cons b t=>
  by_cases h:b=47
  ·subst h;simp[Lib.hasPrefix]
  ·have A:¬(47:UInt8)=b:=fun e=>h e.symm
   simp[Lib.hasPrefix,List.isPrefixOf,h,A]
def Cell (W:World) (b:Nat) (v:Value):Prop:=W.cell? ⟨b,0,none⟩=some v∧W.frozen? ⟨b,0,none⟩=false
theorem Cell.kept (h:Cell W b v) {row:Option Nat} (hg:W.grownBy W' row) (hr:∀r,row=some r→∃o:Obj,W.heap[r]? =some o∧o.isCells=false):Cell W' b v:=
 ⟨cell_kept h.1 hg hr,(frozen_kept h.1 hg hr).trans h.2⟩
theorem Cell.below (h:Cell W b v) (hb:Below n W W') (hn:b<n):Cell W' b v:=
 ⟨(hb.cell (p:=⟨b,0,none⟩) hn).trans h.1,(hb.frozen (p:=⟨b,0,none⟩) hn).trans h.2⟩
theorem Cell.new (W:World) (v:Value) (t:TypeId):Cell (W.alloc (.cells #[v] t)) W.heap.size v:=by
 have h:=World.alloc_heap_new W (.cells #[v] t);unfold Cell World.cell? World.frozen?;rw[h];exact⟨rfl,rfl⟩
theorem Cell.alloc (h:Cell W b v) (o:Obj):Cell (W.alloc o) b v:=h.kept (World.grownBy_alloc W o none) (fun r e=>by cases e)
theorem Cell.set (h:Cell W b v) (u:Value):Cell (W.setCell ⟨b,0,none⟩ u) b u:=
 ⟨World.cell?_setCell_same' _ _ _ (by rw[h.1];rfl),by rw[World.frozen?_setCell];exact h.2⟩
theorem Cell.other {b':Nat} (h:Cell W b v) (u:Value) (ck:b'≠b):Cell (W.setCell ⟨b',0,none⟩ u) b v:=
 ⟨(World.cell?_setCell_other _ _ _ _ (fun e=>ck (congrArg Addr.block e))).trans h.1,by rw[World.frozen?_setCell];exact h.2⟩
def ko (P:Int) (l:List UInt8):List UInt8 × Int:=
 if l.head? =some 47 then([],P)else match Bt [] (aH l)with|none=>([],P)|some a=>if a=[]then([],P)else(a,0)
theorem LC (T P:Int) (l:List UInt8):aF T P l=if aQ l=false then([],T)else ko P l:=Qm T P l
theorem sO (W:World) (tm:Array Value) (b0 b1:Nat) (s:ByteArray) (e:Int) (h0:tm[2]? =some (.pointer (some ⟨b0,0,none⟩))) (h1:tm[3]? =some (.pointer (some ⟨b1,0,none⟩)))
 (c0:Cell W b0 (.string s)) (c1:Cell W b1 (.int .i64 e)):(results Tryz.f116 tm).run Tryz.prog W=.ok (.tuple #[.string s,.int .i64 e]) W:=by
 obtain⟨A,B⟩:=c0;obtain⟨XM,D⟩:=c1;simp[results,Tryz.f116,go_sem,h0,h1,A,XM]
theorem EJ (l:List UInt8) (w:World) (hm:l.length≤140737488351232) (hT:Tabs w):
 Calls Tryz.prog 116 #[.string (str l)] w fun e w'=>e=.returned (.tuple #[.string (str (aF 9 6 l).1),.int .i64 (aF 9 6 l).2])∧Below w.heap.size w w':=by
 have hR:=fun w hT=>FM l w hm hT
 have hP:=fun w=>Any.strings_HasPrefix Tryz.Mw (str l) ⟨#[47]⟩ w
 rw[LC];simp only[aS,Cq]at hP;refine(callsIn_wide (n:=3)).1 ?_;refine callsIn_of_wp_marks Tryz.func116 rfl trivial ?_ rfl;simp only[Tryz.ntmps116,List.size_toArray,List.length_cons,List.length_nil,Nat.reduceAdd,Nat.reduceSub,Array.replicate_succ,Array.replicate_zero,List.push_toArray,List.append_toArray,List.nil_append,List.cons_append];have wD:Below w.heap.size w ((w.alloc (.cells #[.string ⟨#[]⟩] 9)).alloc (.cells #[.int .i64 0] 27)):=((Below.refl _ _).alloc (Qk _) _).alloc (by simp) _;have T:=hT.below wD;have c0:Cell ((w.alloc (.cells #[.string ⟨#[]⟩] 9)).alloc (.cells #[.int .i64 0] 27)) w.heap.size (.string ⟨#[]⟩):=(Cell.new w _ _).alloc _
 have c1:Cell ((w.alloc (.cells #[.string ⟨#[]⟩] 9)).alloc (.cells #[.int .i64 0] 27)) (w.heap.size+1) (.int .i64 0):=by
  have:=Cell.new (w.alloc (.cells #[.string ⟨#[]⟩] 9)) (.int .i64 0) 27
  rwa [World.size_alloc]at this
 have HC:=Qh (And.intro c0 c1);have HB:=Qh wD;clear c0 c1 wD hT
 cases ht:aQ l with
 |false=>
  rw[if_pos rfl];have X:=hR _ T;rw[ht]at X
  gi_wp2_with fail
  refine⟨trivial,(callsIn_wide.2 X).mono ?_⟩;rintro e w1 ⟨rfl,J⟩;simp only[World.size_alloc]at J;obtain⟨Y,Z⟩:=HC.out.1.below J (by omega);obtain⟨d10,d11⟩:=HC.out.2.below J (by omega);have z:=Qh (HB.out.trans (J.mono (by omega)));clear J X T hR hP
  gi_wp2_with fail
  refine⟨_,sO _ _ w.heap.size (w.heap.size+1) ⟨#[]⟩ 9 rfl rfl (((show Cell w1 w.heap.size _ from⟨Y,Z⟩).set _).other _ (by omega)) (((show Cell w1 (w.heap.size+1) _ from⟨d10,d11⟩).other _ (by omega)).set _),rfl,?_⟩;exact(z.out.setCell (p:=⟨w.heap.size,0,none⟩) (Qk _) _).setCell (p:=⟨w.heap.size+1,0,none⟩) (by simp) _
 |true=>
  rw[if_neg (by simp)];have X:=hR _ T;rw[ht]at X;obtain⟨G,H⟩:∃G,ko 6 l=G:=⟨_,rfl⟩
  rw[H];unfold ko at H;have HG:=Qh H;clear H
  gi_wp2_with fail
  refine⟨trivial,(callsIn_wide.2 X).mono ?_⟩;rintro e w1 ⟨rfl,J⟩;simp only[World.size_alloc]at J;have d0:=HC.out.1.below J (by omega);have d1:=HC.out.2.below J (by omega);have vU:Hid (w.heap.size+2≤w1.heap.size):=Qh (by have:=J.size;rw[World.size_alloc,World.size_alloc]at this;omega);have z:=Qh (HB.out.trans (J.mono (by omega)));clear J X T hR;have R:=hP w1;clear hP
  by_cases o:l.head? =some 47
  ·obtain rfl:([],6)=G:=by rw[←HG.out,if_pos o]
   rw[decide_eq_true o]at R;clear o;obtain⟨Y,Z⟩:=d0;obtain⟨d10,d11⟩:=d1
   gi_wp2_with fail
   refine⟨trivial,(callsIn_wide.2 R).mono ?_⟩;rintro e w' ⟨rfl,rfl⟩
   gi_wp2_with fail
   refine⟨_,sO _ _ w.heap.size (w.heap.size+1) ⟨#[]⟩ 6 rfl rfl (((show Cell w' w.heap.size _ from⟨Y,Z⟩).set _).other _ (by omega)) (((show Cell w' (w.heap.size+1) _ from⟨d10,d11⟩).other _ (by omega)).set _),rfl,?_⟩;exact(z.out.setCell (p:=⟨w.heap.size,0,none⟩) (Qk _) _).setCell (p:=⟨w.heap.size+1,0,none⟩) (by simp) _
  ·have H:=HG.out
   rw[if_neg o]at H;rw[decide_eq_false o]at R;have sW:=Qh H;clear o HG H;have HD:=Qh (And.intro d0 d1);clear d0 d1
   gi_wp2_with fail
   refine⟨trivial,(callsIn_wide.2 R).mono ?_⟩;rintro e w' ⟨rfl,rfl⟩
   gi_wp2_with fail
   have cB:Hid (Below w.heap.size w ((w'.alloc (.cells #[.string ⟨#[]⟩] 9)).alloc (.cells #[.string (str l)] 9))):=
    Qh ((z.out.alloc (by have:=vU.out;omega) _).alloc (by have:=vU.out;rw[World.size_alloc];omega) _)
   have HX:=Qh (((Cell.new w' (.string ⟨#[]⟩) 9)).alloc (.cells #[.string (str l)] 9));have HY:=Qh (And.intro ((HD.out.1.alloc (.cells #[.string ⟨#[]⟩] 9)).alloc (.cells #[.string (str l)] 9)) ((HD.out.2.alloc (.cells #[.string ⟨#[]⟩] 9)).alloc (.cells #[.string (str l)] 9)));have HZ:=Qh (Cell.new (w'.alloc (.cells #[.string ⟨#[]⟩] 9)) (.string (str l)) 9);clear z HD HC;obtain⟨ps,vJ⟩:=Nv l hm;refine⟨trivial,(callsIn_wide.2 (RG l _)).mono ?_⟩;rintro e w2 ⟨rfl,rfl⟩
   gi_wp2_with fail
   obtain⟨n1,ZR⟩:∃n1,w'.heap.size=n1:=⟨_,rfl⟩
   obtain⟨W0,Ck⟩:∃W0,(w'.alloc (.cells #[.string ⟨#[]⟩] 9)).alloc (.cells #[.string (str l)] 9)=W0:=⟨_,rfl⟩
   have N:Hid (W0.heap.size=n1+2∧w.heap.size+2≤n1):=Qh (by rw[←Ck,World.size_alloc,World.size_alloc];exact⟨by omega,by have:=vU.out;omega⟩);rw[Ck]at cB HX HY HZ⊢;rw[World.size_alloc]at HZ;rw[ZR]at HX HZ⊢;clear Ck vU ZR HB
   refine wpIn_rangeFunc_ownF rfl (by omega) (gf:=187) (lb:=#[.pointer (some ⟨n1+1,0,none⟩)]) rfl trivial (enters_of Tryz.func187 (by kernel_rfl) rfl)
    (Se _ (by omega) (n1+1) l hm ps vJ W0 (by rw[N.out.1];omega) HZ.out.1) (fun _ _=>trivial) (fun _ _ _ _ _ _ _ _=>trivial) (Below.refl _ _) (fun _=>rfl)
    (fun pre W=>(∃c,Bt [] (pre.map (·.1))=some c∧Cell W n1 (.string (str c))∧Cell W w.heap.size (.string ⟨#[]⟩)∧Cell W (w.heap.size+1) (.int .i64 0))∧Below w.heap.size w W)
    (fun c pre W=>(c=.ret∧Bt [] (pre.map (·.1))=none∧Cell W w.heap.size (.string ⟨#[]⟩)∧Cell W (w.heap.size+1) (.int .i64 6))∧Below w.heap.size w W)
    (OwnFrom.and (Own.from (fun s A B row hs I t=>by obtain⟨c,h1,q,h3,h4⟩:=hs;exact⟨c,h1,q.kept I t,h3.kept I t,h4.kept I t⟩) _) (ownFrom_below (Qk _) (by rw[N.out.1];have:=N.out.2;omega)))
    (fun c=>OwnFrom.and (Own.from (fun s A B row hs I t=>⟨hs.1,hs.2.1,hs.2.2.1.kept I t,hs.2.2.2.kept I t⟩) _) (ownFrom_below (Qk _) (by rw[N.out.1];have:=N.out.2;omega)))
    ⟨⟨[],rfl,HX.out,HY.out.1,HY.out.2⟩,cB.out⟩
    (fun x=>{tmps:=#[.string (str l),undef,.pointer (some ⟨w.heap.size,0,none⟩),.pointer (some ⟨w.heap.size+1,0,none⟩),.pointer (some ⟨n1,0,none⟩),.string (str x.1),.string (str l),.bool true,.bool false,.string (str l),.bool false,.string (str l),.func (.func 187) #[] #[.pointer (some ⟨n1+1,0,none⟩)],.string (str x.1),undef,undef,undef,undef,undef,undef,undef,undef,undef,undef,undef,undef,undef],defers:=[]}) ?assign ?body ?done ?stop
   case assign=>
    intro l x W K U
    gi_wp2
    exact U
   case body=>
    rintro l' pre x W ⟨⟨c,I,c0,c1,c2⟩,M⟩ _;have hc:=ad5 _ _ _ (by simp) I;have hj:=UX c x.1 W (by have:=x.2;omega);have hs:=Ua _ x.1 _ _ I;obtain⟨d,hd⟩:∃d,cr c x.1=d:=⟨_,rfl⟩
    rw[hd]at hj hs;have e0:=(c0.set (.string (str d)))
    have e1:=(c1.other (.string (str d)) (show n1≠_ by have:=N.out.2;omega))
    have e2:=(c2.other (.string (str d)) (show n1≠_ by have:=N.out.2;omega))
    have iB:=M.setCell (p:=⟨n1,0,none⟩) (show w.heap.size≤n1 by have:=N.out.2;omega) (.string (str d));have E:=Qh (And.intro e1 (And.intro e2 iB));have g:((str d).size:Int)=d.length:=by rw[ax]
    obtain⟨f0,f1⟩:=c0;have HP:=Qh hd
    by_cases m:x.1=[46,46]
    ·have b1:((str x.1).toList==[46,46])=true:=by rw[p9];simpa using m
     rw[if_pos (.inl m)]at hs;have V:Bt [] ((pre++[x]).map (·.1))=none:=by rw[List.map_append];exact hs
     have L:=Qh V;clear hs V m hd I hc e1 e2 c1 c2 M iB g
     gi_wp2_with fail
     refine⟨trivial,(CallsIn.inRound l' (callsIn_wide.2 hj)).mono ?_⟩;rintro e w3 ⟨rfl,rfl⟩;obtain⟨u,y⟩:=e0;obtain⟨b,f⟩:=E.out.1;obtain⟨g10,g11⟩:=E.out.2.1
     gi_wp2
     exact⟨((KeepsOthers.setCell _ _ _).trans (KeepsOthers.setCell _ _ _)).trans (KeepsOthers.setCell _ _ _),⟨rfl,L.out,(E.out.1.set _).other _ (by omega),(E.out.2.1.other _ (by omega)).set _⟩,(E.out.2.2.setCell (p:=⟨w.heap.size,0,none⟩) (Qk _) _).setCell (p:=⟨w.heap.size+1,0,none⟩) (by simp) _⟩
    ·have b1:((str x.1).toList==[46,46])=false:=by rw[p9];simpa using m
     obtain⟨n,hn⟩:∃n,(str d).size=n:=⟨_,rfl⟩
     by_cases q:200<d.length
     ·have b2:(200:Int)<(n:Int):=by omega
      rw[if_pos (.inr q)]at hs;have V:Bt [] ((pre++[x]).map (·.1))=none:=by rw[List.map_append];exact hs
      have L:=Qh V;clear hs V m hd I hc e1 e2 c1 c2 M iB g q
      gi_wp2_with fail
      refine⟨trivial,(CallsIn.inRound l' (callsIn_wide.2 hj)).mono ?_⟩;rintro e w3 ⟨rfl,rfl⟩;obtain⟨u,y⟩:=e0;obtain⟨b,f⟩:=E.out.1;obtain⟨g10,g11⟩:=E.out.2.1
      gi_wp2
      exact⟨((KeepsOthers.setCell _ _ _).trans (KeepsOthers.setCell _ _ _)).trans (KeepsOthers.setCell _ _ _),⟨rfl,L.out,(E.out.1.set _).other _ (by omega),(E.out.2.1.other _ (by omega)).set _⟩,(E.out.2.2.setCell (p:=⟨w.heap.size,0,none⟩) (Qk _) _).setCell (p:=⟨w.heap.size+1,0,none⟩) (by simp) _⟩
     ·have b2:¬(200:Int)<(n:Int):=by omega
      rw[if_neg (fun h=>h.elim m q)]at hs;have V:Bt [] ((pre++[x]).map (·.1))=some d:=by rw[List.map_append];exact hs
      have L:=Qh V;clear hs V m hd I hc e1 e2 c1 c2 M iB g q
      gi_wp2_with fail
      refine⟨trivial,(CallsIn.inRound l' (callsIn_wide.2 hj)).mono ?_⟩;rintro e w3 ⟨rfl,rfl⟩;obtain⟨u,y⟩:=id e0;obtain⟨b,f⟩:=E.out.1;obtain⟨g10,g11⟩:=E.out.2.1
      gi_wp2
      exact⟨KeepsOthers.setCell _ _ _,trivial,⟨d,L.out,e0,E.out.1,E.out.2.1⟩,E.out.2.2⟩
   case done=>
    rintro D ys W hD rfl ⟨⟨c,I,c0,c1,c2⟩,M⟩ U;rw[vJ]at I;have H:=sW.out;rw[I]at H;simp only at H;have O:w.heap.size≤D:=by have:=N.out;omega
    obtain⟨f0,f1⟩:=id c0;obtain⟨b,f⟩:=id c1;obtain⟨g10,g11⟩:=id c2;have E:=Qh (And.intro c1 (And.intro c2 M));have HK:=Qh U
    by_cases hc:c=[]
    ·have b1:(str c).toList.isEmpty=true:=by rw[bh];simpa using hc
     obtain rfl:([],6)=G:=by rw[←H,if_pos hc]
     clear H hc I sW c0 c1 c2 M U
     gi_wp2
     have hK':=((KeepsOthers.setCell W ⟨w.heap.size,0,none⟩ (.string ⟨#[]⟩)).trans (KeepsOthers.setCell _ ⟨w.heap.size+1,0,none⟩ (.int .i64 6))).same D _ HK.out rfl;refine⟨by simp,.inl ⟨_,_,rfl,run_takeDeferred hK',?_⟩⟩;have k0:=((E.out.1.set (.string ⟨#[]⟩)).other (.int .i64 6) (show w.heap.size+1≠_ by omega)).kept (grownBy_putObj' _ D (.deferred none)) (fun r e=>by cases e;exact⟨_,hK',rfl⟩);have k1:=((E.out.2.1.other (.string ⟨#[]⟩) (show w.heap.size≠_ by omega)).set (.int .i64 6)).kept (grownBy_putObj' _ D (.deferred none)) (fun r e=>by cases e;exact⟨_,hK',rfl⟩);exact⟨_,sO _ _ w.heap.size (w.heap.size+1) ⟨#[]⟩ 6 rfl rfl k0 k1,rfl,((E.out.2.2.setCell (p:=⟨w.heap.size,0,none⟩) (Qk _) _).setCell (p:=⟨w.heap.size+1,0,none⟩) (by simp) _).trans (belowK_b (w:=w) (Qk _) _ D _ _ O hK' rfl rfl)⟩
    ·have b1:(str c).toList.isEmpty=false:=by rw[bh];simpa using hc
     obtain rfl:(c,0)=G:=by rw[←H,if_neg hc]
     clear H hc I sW c0 c1 c2 M U
     gi_wp2
     have hK':=((KeepsOthers.setCell W ⟨w.heap.size,0,none⟩ (.string (str c))).trans (KeepsOthers.setCell _ ⟨w.heap.size+1,0,none⟩ (.int .i64 0))).same D _ HK.out rfl;refine⟨by simp,.inl ⟨_,_,rfl,run_takeDeferred hK',?_⟩⟩;have k0:=((E.out.1.set (.string (str c))).other (.int .i64 0) (show w.heap.size+1≠_ by omega)).kept (grownBy_putObj' _ D (.deferred none)) (fun r e=>by cases e;exact⟨_,hK',rfl⟩);have k1:=((E.out.2.1.other (.string (str c)) (show w.heap.size≠_ by omega)).set (.int .i64 0)).kept (grownBy_putObj' _ D (.deferred none)) (fun r e=>by cases e;exact⟨_,hK',rfl⟩);exact⟨_,sO _ _ w.heap.size (w.heap.size+1) (str c) 0 rfl rfl k0 k1,rfl,((E.out.2.2.setCell (p:=⟨w.heap.size,0,none⟩) (Qk _) _).setCell (p:=⟨w.heap.size+1,0,none⟩) (by simp) _).trans (belowK_b (w:=w) (Qk _) _ D _ _ O hK' rfl rfl)⟩
   case stop=>
    rintro D c pre W hD af5 ⟨⟨rfl,hn,c1,c2⟩,M⟩ U;have H:=sW.out;obtain⟨tl,OI⟩:=af5;rw[←vJ,←OI,List.map_append,T9 _ _ hn]at H;obtain rfl:([],6)=G:=H;have O:w.heap.size≤D:=by have:=N.out;omega
    have E:=Qh (And.intro c1 (And.intro c2 M));have HK:=Qh U;clear OI hn sW c1 c2 M U
    gi_wp2
    have hK':=HK.out;refine⟨by simp,.inl ⟨_,_,rfl,run_takeDeferred hK',?_⟩⟩;have k0:=E.out.1.kept (grownBy_putObj' _ D (.deferred none)) (fun r e=>by cases e;exact⟨_,hK',rfl⟩);have k1:=E.out.2.1.kept (grownBy_putObj' _ D (.deferred none)) (fun r e=>by cases e;exact⟨_,hK',rfl⟩);exact⟨_,sO _ _ w.heap.size (w.heap.size+1) ⟨#[]⟩ 6 rfl rfl k0 k1,rfl,E.out.2.2.trans (belowK_b (w:=w) (Qk _) _ D _ _ O hK' rfl rfl)⟩
end Path
namespace Mem
open Go.ChangeShapes Go.WideShapes Go.ChangeAt Go.RowKit Base cb iK Bk Hp Head ur Path Go.Lib
theorem rz (k:UInt8) (n:Nat) (hn:n<256):((k.toNat:Int)=(n:Int))↔k=UInt8.ofNat n:=by
 constructor
 ·intro h
  apply UInt8.toNat.inj;rw[UInt8.toNat_ofNat'];omega
 ·rintro rfl
  rw[UInt8.toNat_ofNat'];omega
theorem qF (k:UInt8) (w:World):
 Calls Tryz.prog 79 #[.int .u8 (k.toNat:Int)] w fun e w'=>e=.returned (.bool (oM k))∧w=w':=by
 have I:=k.toNat_lt;have B:(k.toNat:Int)=48↔k=48:=rz k 48 (by decide);have D:(k.toNat:Int)=49↔k=49:=rz k 49 (by decide);have E:(k.toNat:Int)=50↔k=50:=rz k 50 (by decide);have G:(k.toNat:Int)=53↔k=53:=rz k 53 (by decide);obtain⟨r,A⟩:∃r,oM k=r:=⟨_,rfl⟩
 rw[A];unfold oM at A;obtain⟨x,H⟩:∃x:Int,x=(k.toNat:Int):=⟨_,rfl⟩
 rw[←H]at B D E G⊢
 by_cases J:x=48
 ·obtain rfl:r=true:=by rw[←A];simp[B.1 J]
  clear B D E G A H I;subst J
  go_enter Tryz.func79,Tryz.ntmps79
  go_wp2;go_ret;exact⟨rfl,rfl⟩
 ·by_cases h1:x=49
  ·obtain rfl:r=true:=by rw[←A];simp[D.1 h1]
   clear B D E G A H I;subst h1
   go_enter Tryz.func79,Tryz.ntmps79
   go_wp2;go_ret;exact⟨rfl,rfl⟩
  ·by_cases L:x=50
   ·obtain rfl:r=true:=by rw[←A];simp[E.1 L]
    clear B D E G A H I;subst L
    go_enter Tryz.func79,Tryz.ntmps79
    go_wp2;go_ret;exact⟨rfl,rfl⟩
   ·by_cases M:x=53
    ·obtain rfl:r=true:=by rw[←A];simp[G.1 M]
     clear B D E G A H I;subst M
     go_enter Tryz.func79,Tryz.ntmps79
     go_wp2;go_ret;exact⟨rfl,rfl⟩
    ·obtain rfl:r=false:=by
      rw[←A];have a0:¬k=48:=fun h=>J (B.2 h)
      have N:¬k=49:=fun h=>h1 (D.2 h)
      have a2:¬k=50:=fun h=>L (E.2 h)
      have a3:¬k=53:=fun h=>M (G.2 h)
      simp[a0,N,a2,a3]
     clear B D E G A H I
     go_enter Tryz.func79,Tryz.ntmps79
     go_wp2;go_ret;exact⟨rfl,rfl⟩
theorem V8 (k:UInt8) (n:Int) (w:World):
 Calls Tryz.prog 119 #[.int .u8 (k.toNat:Int),.int .i64 n] w fun e w'=>e=.returned (.int .i64 (yG k n))∧w=w':=by
 have G:=k.toNat_lt;have B:(k.toNat:Int)=48↔k=48:=rz k 48 (by decide);obtain⟨r,A⟩:∃r,yG k n=r:=⟨_,rfl⟩
 rw[A];unfold yG at A;obtain⟨x,E⟩:∃x:Int,x=(k.toNat:Int):=⟨_,rfl⟩
 rw[←E]at B⊢
 by_cases D:x=48
 ·have hk:k=48:=B.1 D
  rw[if_neg (by simp[hk])]at A
  by_cases h1:1048576<n
  ·rw[if_pos h1]at A
   subst A;clear B E G;subst D
   go_enter Tryz.func119,Tryz.ntmps119
   go_wp2;go_ret;exact⟨rfl,rfl⟩
  ·rw[if_neg h1]at A
   subst A;clear B E G;subst D
   go_enter Tryz.func119,Tryz.ntmps119
   go_wp2;go_ret;exact⟨rfl,rfl⟩
 ·have hk:¬k=48:=fun h=>D (B.2 h)
  by_cases H:n=0
  ·subst H
   rw[if_neg (by simp),if_neg (by omega)]at A;subst A;clear B E G
   go_enter Tryz.func119,Tryz.ntmps119
   go_wp2;go_ret;exact⟨rfl,rfl⟩
  ·rw[if_pos ⟨hk,H⟩]at A
   subst A;clear B E G;have I:(x != 48)=true:=by simpa using D
   have J:(n != 0)=true:=by simpa using H
   go_enter Tryz.func119,Tryz.ntmps119
   go_wp2;go_ret;exact⟨rfl,rfl⟩
theorem GU (a b c d:Int) (w:World):
 Calls Tryz.prog 117 #[.agg #[.int .i64 a,.int .i64 b,.int .i64 c,.int .i64 d]] w fun e w'=>e=.returned (.bool (iU a b c d))∧Below w.heap.size w w':=by
 obtain⟨r,A⟩:∃r,iU a b c d=r:=⟨_,rfl⟩
 rw[A];unfold iU at A;have D:=(Below.refl w.heap.size w).alloc (Qk _) (.cells #[.int .i64 a,.int .i64 b,.int .i64 c,.int .i64 d] 46);have B:=Qh D;clear D
 by_cases h1:0≤a∧a≤4095
 ·by_cases E:0≤b∧b≤2147483647
  ·by_cases G:0≤c∧c≤2147483647
   ·by_cases H:0≤d∧d≤1099511627776
    ·obtain rfl:r=true:=by rw[←A];simp only[decide_eq_true_eq];omega
     clear A
     go_enter Tryz.func117,Tryz.ntmps117
     go_wp2_with (go_at_call 152;refine(kA _ _ _ _ (by omega) (by omega)).mono ?_;rintro e w' ⟨rfl,rfl⟩)
     go_ret;exact⟨rfl,B.out⟩
    ·obtain rfl:r=false:=by rw[←A];simp only[decide_eq_false_iff_not];omega
     clear A
     go_enter Tryz.func117,Tryz.ntmps117
     go_wp2_with (go_at_call 152;first|(refine(kA _ _ _ _ (by omega) (by omega)).mono ?_;rintro e w' ⟨rfl,rfl⟩)|(refine(qY _ _ _ _ (by omega)).mono ?_;rintro e w' ⟨rfl,rfl⟩))
     go_ret;exact⟨rfl,B.out⟩
   ·obtain rfl:r=false:=by rw[←A];simp only[decide_eq_false_iff_not];omega
    clear A
    go_enter Tryz.func117,Tryz.ntmps117
    go_wp2_with (go_at_call 152;first|(refine(kA _ _ _ _ (by omega) (by omega)).mono ?_;rintro e w' ⟨rfl,rfl⟩)|(refine(qY _ _ _ _ (by omega)).mono ?_;rintro e w' ⟨rfl,rfl⟩))
    go_ret;exact⟨rfl,B.out⟩
  ·obtain rfl:r=false:=by rw[←A];simp only[decide_eq_false_iff_not];omega
   clear A
   go_enter Tryz.func117,Tryz.ntmps117
   go_wp2_with (go_at_call 152;first|(refine(kA _ _ _ _ (by omega) (by omega)).mono ?_;rintro e w' ⟨rfl,rfl⟩)|(refine(qY _ _ _ _ (by omega)).mono ?_;rintro e w' ⟨rfl,rfl⟩))
   go_ret;exact⟨rfl,B.out⟩
 ·obtain rfl:r=false:=by rw[←A];simp only[decide_eq_false_iff_not];omega
  clear A
  go_enter Tryz.func117,Tryz.ntmps117
  go_wp2_with (go_at_call 152;first|(refine(kA _ _ _ _ (by omega) (by omega)).mono ?_;rintro e w' ⟨rfl,rfl⟩)|(refine(qY _ _ _ _ (by omega)).mono ?_;rintro e w' ⟨rfl,rfl⟩))
  go_ret;exact⟨rfl,B.out⟩
theorem Ub (k:UInt8) (l:List UInt8) (w:World) (hm:l.length≤140737488351232) (hT:Tabs w):
 Calls Tryz.prog 118 #[.int .u8 (k.toNat:Int),.string (str l)] w fun e w'=>e=.returned (.tuple #[.string (str (ya k l).1),.int .i64 (ya k l).2])∧Below w.heap.size w w':=by
 have H:=EJ l w hm hT;have I:=DI l w hm hT;have A:(k.toNat:Int)=49↔k=49:=rz k 49 (by decide);have B:(k.toNat:Int)=50↔k=50:=rz k 50 (by decide);unfold ya;obtain⟨x,D⟩:∃x:Int,x=(k.toNat:Int):=⟨_,rfl⟩
 rw[←D]at A B⊢
 by_cases h1:x=49
 ·rw[if_pos (A.1 h1)]
  clear A B D;subst h1
  go_enter Tryz.func118,Tryz.ntmps118
  go_wp2_with (go_at_call 116;refine H.mono ?_;rintro e J ⟨rfl,G⟩)
  go_ret2;exact⟨rfl,G⟩
 ·rw[if_neg (fun h=>h1 (A.2 h))]
  by_cases E:x=50
  ·rw[if_pos (B.1 E)]
   clear A B D;subst E
   go_enter Tryz.func118,Tryz.ntmps118
   go_wp2_with (go_at_call 153;refine I.mono ?_;rintro e J ⟨rfl,G⟩)
   go_ret2;exact⟨rfl,G⟩
  ·rw[if_neg (fun h=>E (B.2 h))]
   clear A B D
   go_enter Tryz.func118,Tryz.ntmps118
   go_wp2;go_ret2;exact⟨rfl,Below.refl _ _⟩
theorem Ve (w:World) (g:Nat) (a b:ByteArray) (k m u i t:Int) (p:Option Addr) (n c:Nat) (h:au w g 48 #[.string a,.string b,.int .u8 k,.int .i64 m,.int .i64 u,.int .i64 i,.int .i64 t,.slice p n c]):
 (loadVar 48 ⟨g,0,none⟩).run Tryz.prog w=.ok (.agg #[.string a,.string b,.int .u8 k,.int .i64 m,.int .i64 u,.int .i64 i,.int .i64 t,.slice p n c]) w:=by
 have c0:=h.cell 0;have c1:=h.cell 1;have c2:=h.cell 2;have c3:=h.cell 3;have A:=h.cell 4;have c5:=h.cell 5;have c6:=h.cell 6;have c7:=h.cell 7;clear h
 go_simp
theorem vb {fn:Func} (hf:fn.results=#[.cell 2 48,.tmp 3]) (tmps:Array Value) (w:World) (g:Nat) (v:Value) (ht:tmps.getD 2 undef=.pointer (some ⟨g,0,none⟩)) (hv:tmps.getD 3 undef=v)
 (m:aB) (p:Option Addr) (c:Nat) (hb:au w g 48 (jB m p c)):(results fn tmps).run Tryz.prog w=.ok (.tuple #[.agg (jB m p c),v]) w:=by
 rw[results_cell_tmp hf,ht,hv];have hl:=Ve w g _ _ _ _ _ _ _ _ _ _ hb;simp only[asAddr,Sem.run_pure,hl,Result.andThen];rfl
theorem TU {m:aB} {p:Option Addr} {c:Nat} (hb:au w g 48 (jB m p c)) (a0 a1 a2 a3 a4 a5 a6 a7:Value):
 au ((((((((w.setCell ⟨g,0,none⟩ a0).setCell ⟨g,1,none⟩ a1).setCell ⟨g,2,none⟩ a2).setCell ⟨g,3,none⟩ a3).setCell ⟨g,4,none⟩ a4).setCell ⟨g,5,none⟩ a5).setCell ⟨g,6,none⟩ a6).setCell ⟨g,7,none⟩ a7) g 48 #[a0,a1,a2,a3,a4,a5,a6,a7]:=
 (((((((hb.set 0 a0 (by show 0<8;decide)).set 1 a1 (by show 1<8;decide)).set 2 a2 (by show 2<8;decide)).set 3 a3 (by show 3<8;decide)).set 4 a4 (by show 4<8;decide)).set 5 a5 (by show 5<8;decide)).set 6 a6 (by show 6<8;decide)).set 7 a7 (by show 7<8;decide)
theorem B5 (hk:Below w.heap.size w w') (hg:w.heap.size≤g) (a0 a1 a2 a3 a4 a5 a6 a7:Value):
 Below w.heap.size w ((((((((w'.setCell ⟨g,0,none⟩ a0).setCell ⟨g,1,none⟩ a1).setCell ⟨g,2,none⟩ a2).setCell ⟨g,3,none⟩ a3).setCell ⟨g,4,none⟩ a4).setCell ⟨g,5,none⟩ a5).setCell ⟨g,6,none⟩ a6).setCell ⟨g,7,none⟩ a7):=
 ((((((((hk.setCell (p:=⟨g,0,none⟩) hg a0).setCell (p:=⟨g,1,none⟩) hg a1).setCell (p:=⟨g,2,none⟩) hg a2).setCell (p:=⟨g,3,none⟩) hg a3).setCell (p:=⟨g,4,none⟩) hg a4).setCell (p:=⟨g,5,none⟩) hg a5).setCell (p:=⟨g,6,none⟩) hg a6).setCell (p:=⟨g,7,none⟩) hg a7)
def Xf (w wi:World) (h:af):Prop:=Below w.heap.size w wi∧au wi w.heap.size 66 (aa h)∧au wi (w.heap.size+1) 48 (jB Bc none 0)
theorem Xf.below {wi wj:World} {h:af} (hm:Xf w wi h) (hb:Below wi.heap.size wi wj):Xf w wj h:=
 ⟨hm.1.trans (hb.mono hm.1.size),hm.2.1.below hb hm.2.1.lt,hm.2.2.below hb hm.2.2.lt⟩
theorem qu (h:af) (w:World) (h1:h.name.length≤140737488351232) (h2:h.link.length≤140737488351232) (hT:Tabs w):
 Calls Tryz.prog 80 #[.agg (aa h)] w fun e w'=>e=.returned (.tuple #[.agg (jB (j6 h).1 none 0),.int .i64 (j6 h).2])∧Below w.heap.size w w':=by
 obtain⟨⟨t,ce⟩,hc⟩:∃x,aF 9 6 h.name=x:=⟨_,rfl⟩
 obtain⟨⟨u,ge⟩,hg⟩:∃x,ya h.kind h.link=x:=⟨_,rfl⟩
 obtain⟨mo,Ye⟩:∃x,iU h.mode h.uid h.gid h.time=x:=⟨_,rfl⟩
 obtain⟨m,d⟩:∃x,yG h.kind h.size=x:=⟨_,rfl⟩
 have g:Hid (∀wi,Below w.heap.size w wi→Calls Tryz.prog 116 #[.string (str h.name)] wi fun e w'=>e=.returned (.tuple #[.string (str t),.int .i64 ce])∧Below wi.heap.size wi w'):=
  Qh (fun wi B=>by have:=EJ h.name wi h1 (hT.below B);rwa [hc]at this)
 have q:Hid (∀wi,Calls Tryz.prog 117 #[.agg #[.int .i64 h.mode,.int .i64 h.uid,.int .i64 h.gid,.int .i64 h.time]] wi fun e w'=>e=.returned (.bool mo)∧Below wi.heap.size wi w'):=
  Qh (fun wi=>by have:=GU h.mode h.uid h.gid h.time wi;rwa [Ye]at this)
 have p:Hid (∀wi,Below w.heap.size w wi→Calls Tryz.prog 118 #[.int .u8 (h.kind.toNat:Int),.string (str h.link)] wi fun e w'=>e=.returned (.tuple #[.string (str u),.int .i64 ge])∧Below wi.heap.size wi w'):=
  Qh (fun wi B=>by have:=Ub h.kind h.link wi h2 (hT.below B);rwa [hg]at this)
 have z:Hid (∀wi,Calls Tryz.prog 119 #[.int .u8 (h.kind.toNat:Int),.int .i64 h.size] wi fun e w'=>e=.returned (.int .i64 m)∧wi=w'):=
  Qh (fun wi=>by have:=V8 h.kind h.size wi;rwa [d]at this)
 obtain⟨U,hU⟩:∃U,j6 h=U:=⟨_,rfl⟩
 rw[hU]
 have l:Hid (U=if ce≠0 then(Bc,ce)else if mo=false then(Bc,4)else if ge≠0 then(Bc,ge)else if m≠0 then(Bc,m)else(⟨t,u,h.kind,h.mode,h.uid,h.gid,h.time,[]⟩,0)):=
  Qh (by rw[←hU];unfold j6;rw[hc,hg,Ye,d])
 clear h1 h2 hT hU hc hg Ye d
 have H:Hid (Xf w ((w.alloc (.cells (aa h) 66)).alloc (.cells (jB Bc none 0) 48)) h):=by
  have b1:=au.new (w.alloc (.cells (aa h) 66)) 48 (jB Bc none 0);rw[World.size_alloc]at b1;exact Qh ⟨((Below.refl _ w).alloc (Qk _) _).alloc (by simp) _,(au.new w 66 (aa h)).alloc _,b1⟩
 obtain⟨kn,r⟩:∃kn:Int,(h.kind.toNat:Int)=kn:=⟨_,rfl⟩
 have f:=Qh r;simp only[aa,r]at H⊢;rw[r]at p z;clear r
 by_cases a1:ce=0
 ·subst a1
  cases mo with
  |false=>
   have E:Hid (U=(Bc,4)):=Qh (by rw[l.out];simp)
   go_enter Tryz.func80,Tryz.ntmps80
   go_wp2_with fail
   refine(g.out _ H.out.1).mono ?_;rintro e y ⟨rfl,B⟩;have D:=Qh (H.out.below B);clear B H;have b1:=D.out.2.1;have L:=b1.cell 3;have M:=b1.cell 4;have N:=b1.cell 5;have O:=b1.cell 6;simp only[aa,Qc,Qa,Qb]at L M N O;clear b1;go_wp2_with fail;refine(q.out _).mono ?_;rintro e w2 ⟨rfl,B⟩;have G:=Qh (D.out.below B);clear B D L M N O;have A:=G.out.2.2;have R:=A.cell 0;have f0:=A.frozen 0;have T:=A.cell 1;have f1:=A.frozen 1;have V:=A.cell 2;have f2:=A.frozen 2;have W:=A.cell 3;have f3:=A.frozen 3;have X:=A.cell 4;have f4:=A.frozen 4;have Y:=A.cell 5;have f5:=A.frozen 5;have Z:=A.cell 6;have f6:=A.frozen 6;have b:=A.cell 7;have f7:=A.frozen 7;simp only[jB,Bc,Qc,Qa,Qb]at R T V W X Y Z b;clear A;go_wp2;refine bodyPost_ret (vb rfl _ _ (w.heap.size+1) _ rfl rfl Bc none 0 (TU G.out.2.2 _ _ _ _ _ _ _ _)) rfl ?_;exact⟨by rw[E.out];rfl,B5 G.out.1 (by omega) _ _ _ _ _ _ _ _⟩
  |true=>
   by_cases a2:ge=0
   ·subst a2
    by_cases a3:m=0
    ·subst a3
     have E:Hid (U=(⟨t,u,h.kind,h.mode,h.uid,h.gid,h.time,[]⟩,0)):=Qh (by rw[l.out];simp)
     go_enter Tryz.func80,Tryz.ntmps80
     go_wp2_with fail
     refine(g.out _ H.out.1).mono ?_;rintro e y ⟨rfl,B⟩;have D:=Qh (H.out.below B);clear B H;have b1:=D.out.2.1;have L:=b1.cell 3;have M:=b1.cell 4;have N:=b1.cell 5;have O:=b1.cell 6;simp only[aa,Qc,Qa,Qb]at L M N O;clear b1;go_wp2_with fail;refine(q.out _).mono ?_;rintro e w2 ⟨rfl,B⟩;have G:=Qh (D.out.below B);clear B D L M N O;have b1:=G.out.2.1;have c:=b1.cell 1;have I:=b1.cell 2;simp only[aa,Qc,Qa,Qb,f.out]at c I;clear b1;go_wp2_with fail;refine(p.out _ G.out.1).mono ?_;rintro e w3 ⟨rfl,B⟩;have J:=Qh (G.out.below B);clear B G c I;have b1:=J.out.2.1;have I:=b1.cell 2;have o:=b1.cell 7;simp only[aa,Qc,Qa,Qb,f.out]at I o;clear b1;go_wp2_with fail;refine(z.out _).mono ?_;rintro e w4 ⟨rfl,rfl⟩;clear I o;have b1:=J.out.2.1;have I:=b1.cell 2;have L:=b1.cell 3;have M:=b1.cell 4;have N:=b1.cell 5;have O:=b1.cell 6;simp only[aa,Qc,Qa,Qb,f.out]at I L M N O;clear b1;have sB:=f.out;subst sB;have A:=J.out.2.2;have R:=A.cell 0;have f0:=A.frozen 0;have T:=A.cell 1;have f1:=A.frozen 1;have V:=A.cell 2;have f2:=A.frozen 2;have W:=A.cell 3;have f3:=A.frozen 3;have X:=A.cell 4;have f4:=A.frozen 4;have Y:=A.cell 5;have f5:=A.frozen 5;have Z:=A.cell 6;have f6:=A.frozen 6;have b:=A.cell 7;have f7:=A.frozen 7;simp only[jB,Bc,Qc,Qa,Qb]at R T V W X Y Z b;clear A;go_wp2;refine bodyPost_ret (vb rfl _ _ (w.heap.size+1) _ rfl rfl ⟨t,u,h.kind,h.mode,h.uid,h.gid,h.time,[]⟩ none 0 (TU J.out.2.2 _ _ _ _ _ _ _ _)) rfl ?_;exact⟨by rw[E.out];rfl,B5 J.out.1 (by omega) _ _ _ _ _ _ _ _⟩
    ·have E:Hid (U=(Bc,m)):=Qh (by rw[l.out];simp[a3])
     go_enter Tryz.func80,Tryz.ntmps80
     go_wp2_with fail
     refine(g.out _ H.out.1).mono ?_;rintro e y ⟨rfl,B⟩;have D:=Qh (H.out.below B);clear B H;have b1:=D.out.2.1;have L:=b1.cell 3;have M:=b1.cell 4;have N:=b1.cell 5;have O:=b1.cell 6;simp only[aa,Qc,Qa,Qb]at L M N O;clear b1;go_wp2_with fail;refine(q.out _).mono ?_;rintro e w2 ⟨rfl,B⟩;have G:=Qh (D.out.below B);clear B D L M N O;have b1:=G.out.2.1;have c:=b1.cell 1;have I:=b1.cell 2;simp only[aa,Qc,Qa,Qb,f.out]at c I;clear b1;go_wp2_with fail;refine(p.out _ G.out.1).mono ?_;rintro e w3 ⟨rfl,B⟩;have J:=Qh (G.out.below B);clear B G c I;have b1:=J.out.2.1;have I:=b1.cell 2;have o:=b1.cell 7;simp only[aa,Qc,Qa,Qb,f.out]at I o;clear b1;go_wp2_with fail;refine(z.out _).mono ?_;rintro e w4 ⟨rfl,rfl⟩;clear I o;have A:=J.out.2.2;have R:=A.cell 0;have f0:=A.frozen 0;have T:=A.cell 1;have f1:=A.frozen 1;have V:=A.cell 2;have f2:=A.frozen 2;have W:=A.cell 3;have f3:=A.frozen 3;have X:=A.cell 4;have f4:=A.frozen 4;have Y:=A.cell 5;have f5:=A.frozen 5;have Z:=A.cell 6;have f6:=A.frozen 6;have b:=A.cell 7;have f7:=A.frozen 7;simp only[jB,Bc,Qc,Qa,Qb]at R T V W X Y Z b;clear A;go_wp2;refine bodyPost_ret (vb rfl _ _ (w.heap.size+1) _ rfl rfl Bc none 0 (TU J.out.2.2 _ _ _ _ _ _ _ _)) rfl ?_;exact⟨by rw[E.out];rfl,B5 J.out.1 (by omega) _ _ _ _ _ _ _ _⟩
   ·have E:Hid (U=(Bc,ge)):=Qh (by rw[l.out];simp[a2])
    go_enter Tryz.func80,Tryz.ntmps80
    go_wp2_with fail
    refine(g.out _ H.out.1).mono ?_;rintro e y ⟨rfl,B⟩;have D:=Qh (H.out.below B);clear B H;have b1:=D.out.2.1;have L:=b1.cell 3;have M:=b1.cell 4;have N:=b1.cell 5;have O:=b1.cell 6;simp only[aa,Qc,Qa,Qb]at L M N O;clear b1;go_wp2_with fail;refine(q.out _).mono ?_;rintro e w2 ⟨rfl,B⟩;have G:=Qh (D.out.below B);clear B D L M N O;have b1:=G.out.2.1;have c:=b1.cell 1;have I:=b1.cell 2;simp only[aa,Qc,Qa,Qb,f.out]at c I;clear b1;go_wp2_with fail;refine(p.out _ G.out.1).mono ?_;rintro e w3 ⟨rfl,B⟩;have J:=Qh (G.out.below B);clear B G c I;have A:=J.out.2.2;have R:=A.cell 0;have f0:=A.frozen 0;have T:=A.cell 1;have f1:=A.frozen 1;have V:=A.cell 2;have f2:=A.frozen 2;have W:=A.cell 3;have f3:=A.frozen 3;have X:=A.cell 4;have f4:=A.frozen 4;have Y:=A.cell 5;have f5:=A.frozen 5;have Z:=A.cell 6;have f6:=A.frozen 6;have b:=A.cell 7;have f7:=A.frozen 7;simp only[jB,Bc,Qc,Qa,Qb]at R T V W X Y Z b;clear A;go_wp2;refine bodyPost_ret (vb rfl _ _ (w.heap.size+1) _ rfl rfl Bc none 0 (TU J.out.2.2 _ _ _ _ _ _ _ _)) rfl ?_;exact⟨by rw[E.out];rfl,B5 J.out.1 (by omega) _ _ _ _ _ _ _ _⟩
 ·have E:Hid (U=(Bc,ce)):=Qh (by rw[l.out];simp[a1])
  go_enter Tryz.func80,Tryz.ntmps80
  go_wp2_with fail
  refine(g.out _ H.out.1).mono ?_;rintro e y ⟨rfl,B⟩;have D:=Qh (H.out.below B);clear B H;have A:=D.out.2.2;have R:=A.cell 0;have f0:=A.frozen 0;have T:=A.cell 1;have f1:=A.frozen 1;have V:=A.cell 2;have f2:=A.frozen 2;have W:=A.cell 3;have f3:=A.frozen 3;have X:=A.cell 4;have f4:=A.frozen 4;have Y:=A.cell 5;have f5:=A.frozen 5;have Z:=A.cell 6;have f6:=A.frozen 6;have b:=A.cell 7;have f7:=A.frozen 7;simp only[jB,Bc,Qc,Qa,Qb]at R T V W X Y Z b;clear A;go_wp2;refine bodyPost_ret (vb rfl _ _ (w.heap.size+1) _ rfl rfl Bc none 0 (TU D.out.2.2 _ _ _ _ _ _ _ _)) rfl ?_;exact⟨by rw[E.out];rfl,B5 D.out.1 (by omega) _ _ _ _ _ _ _ _⟩
theorem tt (h:af):(j6 h).1.body=[]:=by
 unfold j6;split
 ·rfl
 ·split
  ·rfl
  ·split
   ·rfl
   ·split<;>rfl
theorem FO (a b c d:Int) (w:World):
 Calls Tryz.prog 38 #[.agg #[.int .i64 a,.int .i64 b,.int .i64 c,.int .i64 d]] w fun e w'=>e=.returned (.bool (iU a b c d))∧Below w.heap.size w w':=by
 obtain⟨r,A⟩:∃r,iU a b c d=r:=⟨_,rfl⟩
 rw[A];unfold iU at A;have B:=Qh ((Below.refl w.heap.size w).alloc (Qk _) (.cells #[.int .i64 a,.int .i64 b,.int .i64 c,.int .i64 d] 46))
 by_cases D:0≤a
 ·by_cases h1:a≤4095
  ·by_cases E:0≤b
   ·by_cases G:b<2147483648
    ·by_cases H:0≤c
     ·by_cases I:c<2147483648
      ·by_cases J:0≤d
       ·by_cases L:d≤1099511627776
        ·obtain rfl:r=true:=by rw[←A];simp only[decide_eq_true_eq];omega
         clear A
         go_enter Tryz.func38,Tryz.ntmps38
         go_wp2;go_ret;exact⟨rfl,B.out⟩
        ·obtain rfl:r=false:=by rw[←A];simp only[decide_eq_false_iff_not];omega
         have hd:decide (d≤1099511627776)=false:=by simpa using L
         clear A
         go_enter Tryz.func38,Tryz.ntmps38
         go_wp2;go_ret;exact⟨rfl,B.out⟩
       ·obtain rfl:r=false:=by rw[←A];simp only[decide_eq_false_iff_not];omega
        have hd:decide (0≤d)=false:=by simpa using J
        clear A
        go_enter Tryz.func38,Tryz.ntmps38
        go_wp2;go_ret;exact⟨rfl,B.out⟩
      ·obtain rfl:r=false:=by rw[←A];simp only[decide_eq_false_iff_not];omega
       have hd:decide (c<2147483648)=false:=by simpa using I
       clear A
       go_enter Tryz.func38,Tryz.ntmps38
       go_wp2;go_ret;exact⟨rfl,B.out⟩
     ·obtain rfl:r=false:=by rw[←A];simp only[decide_eq_false_iff_not];omega
      have hd:decide (0≤c)=false:=by simpa using H
      clear A
      go_enter Tryz.func38,Tryz.ntmps38
      go_wp2;go_ret;exact⟨rfl,B.out⟩
    ·obtain rfl:r=false:=by rw[←A];simp only[decide_eq_false_iff_not];omega
     have hd:decide (b<2147483648)=false:=by simpa using G
     clear A
     go_enter Tryz.func38,Tryz.ntmps38
     go_wp2;go_ret;exact⟨rfl,B.out⟩
   ·obtain rfl:r=false:=by rw[←A];simp only[decide_eq_false_iff_not];omega
    have hd:decide (0≤b)=false:=by simpa using E
    clear A
    go_enter Tryz.func38,Tryz.ntmps38
    go_wp2;go_ret;exact⟨rfl,B.out⟩
  ·obtain rfl:r=false:=by rw[←A];simp only[decide_eq_false_iff_not];omega
   have hd:decide (a≤4095)=false:=by simpa using h1
   clear A
   go_enter Tryz.func38,Tryz.ntmps38
   go_wp2;go_ret;exact⟨rfl,B.out⟩
 ·obtain rfl:r=false:=by rw[←A];simp only[decide_eq_false_iff_not];omega
  have hd:decide (0≤a)=false:=by simpa using D
  clear A
  go_enter Tryz.func38,Tryz.ntmps38
  go_wp2;go_ret;exact⟨rfl,B.out⟩
theorem AH (l:List UInt8) (w:World) (hm:l.length≤140737488351232):
 Calls Tryz.prog 39 #[.string (str l)] w fun e w'=>e=.returned (.int .i64 (iV 9 6 l))∧w=w':=by
 have B:=qJ (str l) w (by rw[ax];omega);rw[aS]at B;have hs:(str l).size=l.length:=ax l;obtain⟨r,A⟩:∃r,iV 9 6 l=r:=⟨_,rfl⟩
 rw[A];unfold iV at A
 cases G:aQ l with
 |false=>
  rw[G]at A B;simp only[if_true]at A;subst A
  go_enter Tryz.func39,Tryz.ntmps39
  go_wp2_with fail
  refine B.mono ?_;rintro e E ⟨rfl,rfl⟩;go_wp2;go_ret;exact⟨rfl,rfl⟩
 |true=>
  rw[G]at A B
  by_cases D:l=[]
  ·subst D
   simp at A;subst A
   go_enter Tryz.func39,Tryz.ntmps39
   go_wp2_with fail
   refine B.mono ?_;rintro e E ⟨rfl,rfl⟩;have H:(str []).toList.isEmpty=true:=by rw[bh];rfl
   go_wp2;go_ret;exact⟨rfl,rfl⟩
  ·have H:(str l).toList.isEmpty=false:=by rw[bh];simpa using D
   by_cases h1:200<l.length
   ·have I:(200:Int)<(l.length:Int):=by omega
    simp[D,h1]at A;subst A
    go_enter Tryz.func39,Tryz.ntmps39
    go_wp2_with fail
    refine B.mono ?_;rintro e E ⟨rfl,rfl⟩;go_wp2;go_ret;exact⟨rfl,rfl⟩
   ·have I:¬(200:Int)<(l.length:Int):=by omega
    simp[D,h1]at A;subst A
    go_enter Tryz.func39,Tryz.ntmps39
    go_wp2_with fail
    refine B.mono ?_;rintro e E ⟨rfl,rfl⟩;go_wp2;go_ret;exact⟨rfl,rfl⟩
theorem O8 (l:List UInt8) (w:World) (hm:l.length≤140737488351232):
 Calls Tryz.prog 56 #[.string (str l)] w fun e w'=>e=.returned (.bool (jN l))∧w=w':=by
 have E:=xn (str l) w (by rw[ax];omega);rw[aS]at E;obtain⟨r,A⟩:∃r,jN l=r:=⟨_,rfl⟩
 rw[A];unfold jN at A;obtain⟨⟨G,ce⟩,hc⟩:∃x,aF 9 6 l=x:=⟨_,rfl⟩
 rw[hc]at E A;clear hc;simp only[Prod.mk.injEq]at A
 by_cases D:ce=0
 ·by_cases h1:l=G
  ·have H:((str l).toList==(str G).toList)=true:=by rw[ak,ak];simpa using h1
   have B:r=true:=by rw[←A];simp[D,h1]
   subst D B;clear A h1
   go_enter Tryz.func56,Tryz.ntmps56
   go_wp2_with fail
   refine E.mono ?_;rintro e I ⟨rfl,rfl⟩;go_wp2;go_ret;exact⟨rfl,rfl⟩
  ·have H:((str l).toList==(str G).toList)=false:=by rw[ak,ak];simpa using h1
   have B:r=false:=by rw[←A];simp;exact fun h=>absurd h.symm h1
   subst D B;clear A h1
   go_enter Tryz.func56,Tryz.ntmps56
   go_wp2_with fail
   refine E.mono ?_;rintro e I ⟨rfl,rfl⟩;go_wp2;go_ret;exact⟨rfl,rfl⟩
 ·have H:(ce==0)=false:=by simpa using D
  have B:r=false:=by rw[←A];simp[D]
  subst B;clear A
  go_enter Tryz.func56,Tryz.ntmps56
  go_wp2_with fail
  refine E.mono ?_;rintro e I ⟨rfl,rfl⟩;go_wp2;go_ret;exact⟨rfl,rfl⟩
theorem RZ (m:aB) (p:Option Addr) (c:Nat) (w:World) (h1:m.path.length≤140737488351232) (h2:m.target.length≤140737488351232):
 Calls Tryz.prog 24 #[.agg (jB m p c)] w fun e w'=>e=.returned (.bool (cf m))∧Below w.heap.size w w':=by
 have hu:=fun k hk=>rz m.kind k hk
 obtain⟨kn,z⟩:∃kn:Int,(m.kind.toNat:Int)=kn:=⟨_,rfl⟩
 unfold jB;rw[z]at hu⊢;have O:=fun w=>O8 m.path w h1
 have o:=fun w=>O8 m.target w h2
 have q:=fun w=>AH m.target w h2
 have R:=fun w=>FO m.mode m.uid m.gid m.time w
 obtain⟨r,W⟩:∃r,cf m=r:=⟨_,rfl⟩
 rw[W];unfold cf at W;obtain⟨b1,u⟩:∃b,jN m.path=b:=⟨_,rfl⟩
 obtain⟨b2,y⟩:∃b,jN m.target=b:=⟨_,rfl⟩
 obtain⟨Y,kW⟩:∃b,iV 9 6 m.target=b:=⟨_,rfl⟩
 obtain⟨t,nE⟩:∃b,iU m.mode m.uid m.gid m.time=b:=⟨_,rfl⟩
 simp only[u,y,kW,nE]at W O o q R;clear u y kW nE h1 h2;have l:m.kind=48↔kn=48:=(hu 48 (by decide)).symm;have jM:m.kind=49↔kn=49:=(hu 49 (by decide)).symm;have jm:m.kind=50↔kn=50:=(hu 50 (by decide)).symm;have jC:m.kind=53↔kn=53:=(hu 53 (by decide)).symm;obtain⟨bl,Z⟩:∃bl,m.body.length=bl:=⟨_,rfl⟩
 have hte:(str m.target).toList.isEmpty=decide (m.target=[]):=bh m.target
 have oU:(b1&&t&&decide (bl≤1048576)&&(decide (kn=48)||decide (bl=0))&&(if kn=48∨kn=53 then decide (m.target=[])else if kn=49 then b2 else if kn=50 then(Y==0)else false))=r:=by
  rw[←W];have e1:(m.kind==48)=decide (kn=48):=by rw[Bool.eq_iff_iff];simp[l]
  have e2:(m.body==[])=decide (bl=0):=by rw[Bool.eq_iff_iff,←Z];simp
  have e3:(m.target==[])=decide (m.target=[]):=by rw[Bool.eq_iff_iff];simp
  have e4:(Y==0)=decide (Y=0):=by rw[Bool.eq_iff_iff];simp
  rw[e1,e2,e3,e4,Z];simp only[l,jM,jm,jC]
 rw[Z];clear W l jM jm jC Z hu;have H:=Qh ((Below.refl w.heap.size w).alloc (Qk _) (.cells #[.string (str m.path),.string (str m.target),.int .u8 kn,.int .i64 m.mode,.int .i64 m.uid,.int .i64 m.gid,.int .i64 m.time,.slice p bl c] 48));have D:=Qh (au.new w 48 #[.string (str m.path),.string (str m.target),.int .u8 kn,.int .i64 m.mode,.int .i64 m.uid,.int .i64 m.gid,.int .i64 m.time,.slice p bl c]);have T:=Qh oU;clear oU z
 cases b1 with
 |false=>
  have G:r=false:=by rw[←T.out];simp
  subst G
  go_enter Tryz.func24,Tryz.ntmps24
  go_wp2_with fail
  refine(O _).mono ?_;rintro e U ⟨rfl,rfl⟩;go_wp2;go_ret;exact⟨rfl,H.out⟩
 |true=>
  cases t with
  |false=>
   have G:r=false:=by rw[←T.out];simp
   subst G
   go_enter Tryz.func24,Tryz.ntmps24
   go_wp2_with fail
   refine(O _).mono ?_;rintro e U ⟨rfl,rfl⟩;have A:=D.out;have y3:=A.cell 3;have y4:=A.cell 4;have E:=A.cell 5;have y6:=A.cell 6;simp only[Qc,Qa,Qb]at y3 y4 E y6;clear A;go_wp2_with fail;refine(R _).mono ?_;rintro e V ⟨rfl,B⟩;have I:=Qh (H.out.trans (B.mono H.out.size));have J:=Qh (D.out.below B D.out.lt);clear B y3 y4 E y6;have A:=J.out;have L:=A.cell 1;have M:=A.cell 2;have N:=A.cell 7;simp only[Qc,Qa,Qb]at L M N;clear A;go_wp2;go_ret;exact⟨rfl,I.out⟩
  |true=>
   by_cases l1:1048576<bl
   ·have l2:(1048576:Int)<(bl:Int):=by omega
    have G:r=false:=by rw[←T.out];simp;omega
    subst G
    go_enter Tryz.func24,Tryz.ntmps24
    go_wp2_with fail
    refine(O _).mono ?_;rintro e U ⟨rfl,rfl⟩;have A:=D.out;have y3:=A.cell 3;have y4:=A.cell 4;have E:=A.cell 5;have y6:=A.cell 6;simp only[Qc,Qa,Qb]at y3 y4 E y6;clear A;go_wp2_with fail;refine(R _).mono ?_;rintro e V ⟨rfl,B⟩;have I:=Qh (H.out.trans (B.mono H.out.size));have J:=Qh (D.out.below B D.out.lt);clear B y3 y4 E y6;have A:=J.out;have L:=A.cell 1;have M:=A.cell 2;have N:=A.cell 7;simp only[Qc,Qa,Qb]at L M N;clear A;go_wp2;go_ret;exact⟨rfl,I.out⟩
   ·have l2:¬(1048576:Int)<(bl:Int):=by omega
    have l3:bl≤1048576:=by omega
    by_cases X:kn=48
    ·subst X
     have G:r=decide (m.target=[]):=by rw[←T.out];simp[l3]
     subst G
     go_enter Tryz.func24,Tryz.ntmps24
     go_wp2_with fail
     refine(O _).mono ?_;rintro e U ⟨rfl,rfl⟩;have A:=D.out;have y3:=A.cell 3;have y4:=A.cell 4;have E:=A.cell 5;have y6:=A.cell 6;simp only[Qc,Qa,Qb]at y3 y4 E y6;clear A;go_wp2_with fail;refine(R _).mono ?_;rintro e V ⟨rfl,B⟩;have I:=Qh (H.out.trans (B.mono H.out.size));have J:=Qh (D.out.below B D.out.lt);clear B y3 y4 E y6;have A:=J.out;have L:=A.cell 1;have M:=A.cell 2;have N:=A.cell 7;simp only[Qc,Qa,Qb]at L M N;clear A;go_wp2;go_ret;exact⟨rfl,I.out⟩
    ·have e0:(kn != 48)=true:=by simpa using X
     have f0:(kn==48)=false:=by simpa using X
     by_cases l4:bl=0
     ·subst l4
      by_cases g:kn=53
      ·subst g
       have G:r=decide (m.target=[]):=by rw[←T.out];simp
       subst G
       go_enter Tryz.func24,Tryz.ntmps24
       go_wp2_with fail
       refine(O _).mono ?_;rintro e U ⟨rfl,rfl⟩;have A:=D.out;have y3:=A.cell 3;have y4:=A.cell 4;have E:=A.cell 5;have y6:=A.cell 6;simp only[Qc,Qa,Qb]at y3 y4 E y6;clear A;go_wp2_with fail;refine(R _).mono ?_;rintro e V ⟨rfl,B⟩;have I:=Qh (H.out.trans (B.mono H.out.size));have J:=Qh (D.out.below B D.out.lt);clear B y3 y4 E y6;have A:=J.out;have L:=A.cell 1;have M:=A.cell 2;have N:=A.cell 7;simp only[Qc,Qa,Qb]at L M N;clear A;go_wp2;go_ret;exact⟨rfl,I.out⟩
      ·have f3:(kn==53)=false:=by simpa using g
       by_cases d:kn=49
       ·subst d
        have G:r=b2:=by rw[←T.out];simp
        subst G
        go_enter Tryz.func24,Tryz.ntmps24
        go_wp2_with fail
        refine(O _).mono ?_;rintro e U ⟨rfl,rfl⟩;have A:=D.out;have y3:=A.cell 3;have y4:=A.cell 4;have E:=A.cell 5;have y6:=A.cell 6;simp only[Qc,Qa,Qb]at y3 y4 E y6;clear A;go_wp2_with fail;refine(R _).mono ?_;rintro e V ⟨rfl,B⟩;have I:=Qh (H.out.trans (B.mono H.out.size));have J:=Qh (D.out.below B D.out.lt);clear B y3 y4 E y6;have A:=J.out;have L:=A.cell 1;have M:=A.cell 2;have N:=A.cell 7;simp only[Qc,Qa,Qb]at L M N;clear A;go_wp2_with fail;refine(o _).mono ?_;rintro e w3 ⟨rfl,rfl⟩;go_wp2;go_ret;exact⟨rfl,I.out⟩
       ·have f1:(kn==49)=false:=by simpa using d
        by_cases f:kn=50
        ·subst f
         have G:r=(Y==0):=by rw[←T.out];simp
         subst G
         go_enter Tryz.func24,Tryz.ntmps24
         go_wp2_with fail
         refine(O _).mono ?_;rintro e U ⟨rfl,rfl⟩;have A:=D.out;have y3:=A.cell 3;have y4:=A.cell 4;have E:=A.cell 5;have y6:=A.cell 6;simp only[Qc,Qa,Qb]at y3 y4 E y6;clear A;go_wp2_with fail;refine(R _).mono ?_;rintro e V ⟨rfl,B⟩;have I:=Qh (H.out.trans (B.mono H.out.size));have J:=Qh (D.out.below B D.out.lt);clear B y3 y4 E y6;have A:=J.out;have L:=A.cell 1;have M:=A.cell 2;have N:=A.cell 7;simp only[Qc,Qa,Qb]at L M N;clear A;go_wp2_with fail;refine(q _).mono ?_;rintro e w3 ⟨rfl,rfl⟩;go_wp2;go_ret;exact⟨rfl,I.out⟩
        ·have f2:(kn==50)=false:=by simpa using f
         have G:r=false:=by rw[←T.out];simp[X,d,f,g]
         subst G
         go_enter Tryz.func24,Tryz.ntmps24
         go_wp2_with fail
         refine(O _).mono ?_;rintro e U ⟨rfl,rfl⟩;have A:=D.out;have y3:=A.cell 3;have y4:=A.cell 4;have E:=A.cell 5;have y6:=A.cell 6;simp only[Qc,Qa,Qb]at y3 y4 E y6;clear A;go_wp2_with fail;refine(R _).mono ?_;rintro e V ⟨rfl,B⟩;have I:=Qh (H.out.trans (B.mono H.out.size));have J:=Qh (D.out.below B D.out.lt);clear B y3 y4 E y6;have A:=J.out;have L:=A.cell 1;have M:=A.cell 2;have N:=A.cell 7;simp only[Qc,Qa,Qb]at L M N;clear A;go_wp2;go_ret;exact⟨rfl,I.out⟩
     ·have l5:(0:Int)<(bl:Int):=by omega
      have G:r=false:=by rw[←T.out];simp[X,l4]
      subst G
      go_enter Tryz.func24,Tryz.ntmps24
      go_wp2_with fail
      refine(O _).mono ?_;rintro e U ⟨rfl,rfl⟩;have A:=D.out;have y3:=A.cell 3;have y4:=A.cell 4;have E:=A.cell 5;have y6:=A.cell 6;simp only[Qc,Qa,Qb]at y3 y4 E y6;clear A;go_wp2_with fail;refine(R _).mono ?_;rintro e V ⟨rfl,B⟩;have I:=Qh (H.out.trans (B.mono H.out.size));have J:=Qh (D.out.below B D.out.lt);clear B y3 y4 E y6;have A:=J.out;have L:=A.cell 1;have M:=A.cell 2;have N:=A.cell 7;simp only[Qc,Qa,Qb]at L M N;clear A;go_wp2;go_ret;exact⟨rfl,I.out⟩
theorem uM (m:aB) (p:Option Addr) (c:Nat) (w:World) (h1:m.path.length≤140737488351232) (h2:m.target.length≤140737488351232) (hT:Tabs w):
 Calls Tryz.prog 52 #[.agg (jB m p c)] w fun e w'=>e=.returned (.bool (cf m))∧Below w.heap.size w w':=by
 rw[Uc];obtain⟨⟨A,J⟩,H⟩:∃x,j6 (tx m)=x:=⟨_,rfl⟩
 have W:A.body=[]:=by have:=tt (tx m);rw[H]at this;exact this
 have U:∀wi,Below w.heap.size w wi→Calls Tryz.prog 80 #[.agg #[.string (str m.path),.string (str m.target),.int .u8 (m.kind.toNat:Int),.int .i64 m.mode,.int .i64 m.uid,.int .i64 m.gid,.int .i64 m.time,.int .i64 (m.body.length:Int),.bool false]] wi fun e w'=>e=.returned (.tuple #[.agg #[.string (str A.path),.string (str A.target),.int .u8 (A.kind.toNat:Int),.int .i64 A.mode,.int .i64 A.uid,.int .i64 A.gid,.int .i64 A.time,.slice none 0 0],.int .i64 J])∧Below wi.heap.size wi w':=fun wi B=>by
  have:=qu (tx m) wi h1 h2 (hT.below B);rw[H]at this;unfold jB at this;simp only[W,List.length_nil]at this;exact this
 have E:=Qh U;have G:=qF m.kind;unfold jB;obtain⟨kn,I⟩:∃kn:Int,(m.kind.toNat:Int)=kn:=⟨_,rfl⟩
 obtain⟨bl,R⟩:∃bl,m.body.length=bl:=⟨_,rfl⟩
 rw[I,R]at E;rw[I]at G;rw[I,R]
 have b:((str A.path).toList==(str m.path).toList)=decide (A.path=m.path):=by
  rw[ak,ak]
  by_cases h:A.path=m.path<;>simp[h]
 have d:((str A.target).toList==(str m.target).toList)=decide (A.target=m.target):=by
  rw[ak,ak]
  by_cases h:A.target=m.target<;>simp[h]
 rw[H];simp only;obtain⟨x0,M⟩:∃x,oM m.kind=x:=⟨_,rfl⟩
 obtain⟨g,T⟩:∃x,decide (A.path=m.path)=x:=⟨_,rfl⟩
 obtain⟨r,L⟩:∃x,decide (A.target=m.target)=x:=⟨_,rfl⟩
 rw[M]at G;rw[M,T,L];rw[T]at b;rw[L]at d;have D:=Qh ((Below.refl w.heap.size w).alloc (Qk _) (.cells #[.string (str m.path),.string (str m.target),.int .u8 kn,.int .i64 m.mode,.int .i64 m.uid,.int .i64 m.gid,.int .i64 m.time,.slice p bl c] 48));have V:=Qh (au.new w 48 #[.string (str m.path),.string (str m.target),.int .u8 kn,.int .i64 m.mode,.int .i64 m.uid,.int .i64 m.gid,.int .i64 m.time,.slice p bl c]);clear M T L I R H W U h1 h2 hT
 cases x0 with
 |false=>
  go_enter Tryz.func52,Tryz.ntmps52
  go_wp2_with fail
  refine(G _).mono ?_;rintro e Z ⟨rfl,rfl⟩;go_wp2;go_ret;exact⟨rfl,D.out⟩
 |true=>
  have X:∀(wi:World),Below (w.alloc (.cells #[.string (str m.path),.string (str m.target),.int .u8 kn,.int .i64 m.mode,.int .i64 m.uid,.int .i64 m.gid,.int .i64 m.time,.slice p bl c] 48)).heap.size (w.alloc (.cells #[.string (str m.path),.string (str m.target),.int .u8 kn,.int .i64 m.mode,.int .i64 m.uid,.int .i64 m.gid,.int .i64 m.time,.slice p bl c] 48)) wi→Below w.heap.size w (wi.alloc (.cells #[.string (str A.path),.string (str A.target),.int .u8 (A.kind.toNat:Int),.int .i64 A.mode,.int .i64 A.uid,.int .i64 A.gid,.int .i64 A.time,.slice none 0 0] 48))   :=fun wi B=>
   (D.out.trans (B.mono D.out.size)).alloc (D.out.trans (B.mono D.out.size)).size _
  have Y:=Qh X;clear X
  by_cases O:J=0
  ·subst O
   go_enter Tryz.func52,Tryz.ntmps52
   go_wp2_with fail
   refine(G _).mono ?_;rintro e Z ⟨rfl,rfl⟩;go_wp2_with fail;refine(E.out _ D.out).mono ?_;rintro e f ⟨rfl,B⟩;have F:=Qh (Y.out _ B);have N:=V.out.below (B.alloc B.size (.cells #[.string (str A.path),.string (str A.target),.int .u8 (A.kind.toNat:Int),.int .i64 A.mode,.int .i64 A.uid,.int .i64 A.gid,.int .i64 A.time,.slice none 0 0] 48)) V.out.lt;have l:=N.cell 0;have o:=N.cell 1;simp only[Qc,Qa,Qb]at l o;clear B N
   cases g with
   |false=>
    go_wp2;go_ret;exact⟨rfl,F.out⟩
   |true=>
    go_wp2;go_ret;exact⟨rfl,F.out⟩
  ·have q:(J==0)=false:=by simpa using O
   have hd:decide (J=0)=false:=by simpa using O
   rw[hd]
   go_enter Tryz.func52,Tryz.ntmps52
   go_wp2_with fail
   refine(G _).mono ?_;rintro e Z ⟨rfl,rfl⟩;go_wp2_with fail;refine(E.out _ D.out).mono ?_;rintro e f ⟨rfl,B⟩;have F:=Qh (Y.out _ B);clear B;go_wp2;go_ret;exact⟨rfl,F.out⟩
end Mem
namespace kY
open Go.ChangeShapes Go.WideShapes Go.ChangeAt Go.RowKit Base cb iK Bk Mem Go.Lib
variable {ms:List aB}
def Zj (xs:List MP):Prop:=∀x∈xs,x.m.path.length≤140737488351232∧x.m.target.length≤140737488351232
def qO (ms:List aB):Option Nat:=ms.findIdx? fun m=>!cf m
def ag6 (o:Option Nat):Int:=match o with|some i=>(i:Int)|none=>-1
theorem wR (h:∀m∈ms,cf m=true):qO ms=none:=by
 rw[qO,List.findIdx?_eq_none_iff];intro m hm;rw[h m hm];rfl
theorem B3 (hk:k<ms.length) (h0:∀m∈ms.take k,cf m=true) (h:cf (ms.getD k iJ)=false):qO ms=some k:=by
 rw[qO,List.findIdx?_eq_some_iff_getElem];refine⟨hk,?_,fun j A=>?_⟩
 ·rw[List.getD,Qd hk]at h
  simpa using h
 ·have:=h0 ms[j] (by
   rw[List.mem_take_iff_getElem]
   exact⟨j,by omega,rfl⟩)
  simpa using this
theorem uP (m:aB) (p:Option Addr) (c:Nat) (w:World) (h1:m.path.length≤140737488351232) (h2:m.target.length≤140737488351232) (hT:Path.Tabs w):
 Calls Tryz.prog 58 #[.agg (jB m p c)] w fun e w'=>e=.returned (.bool (!cf m))∧Below w.heap.size w w':=by
 obtain⟨W0,A⟩:∃W0,w.alloc (.cells (jB m p c) 48)=W0:=⟨_,rfl⟩
 have D:Below w.heap.size w W0:=by rw[←A];exact(Below.refl _ _).alloc (Qk _) _
 have B:=uM m p c W0 h1 h2 (hT.below D);obtain⟨r,I⟩:∃r,cf m=r:=⟨_,rfl⟩
 rw[I]at B⊢;have J:=Qh D;have G:=Qh A;have E:=Qh B;unfold jB at G E⊢;clear D A B I
 go_enter Tryz.func58,Tryz.ntmps58
 go_wp2_with fail
 rw[G.out];refine E.out.mono ?_;rintro e M ⟨rfl,H⟩;have L:=Qh (J.out.trans (H.mono J.out.size));clear H;go_wp2;go_ret;exact⟨rfl,L.out⟩
theorem oD (xs:List MP) (k:Nat):(xs.map MP.m).getD k iJ=(xs.getD k cz).m:=by
 rw[List.getD,List.getD,List.getElem?_map]
 cases xs[k]? <;>rfl
theorem zn (p:Option Addr) (n c:Nat) (xs:List MP) (w:World) (h:jI w p n xs) (hn:n≤1000000000) (hF:Zj xs) (hT:Path.Tabs w):
 Calls Tryz.prog 57 #[.slice p n c,.func (.func 58) #[] #[]] w fun e w'=>e=.returned (.int .i64 (ag6 (qO (xs.map MP.m))))∧Below w.heap.size w w':=by
 have d:=Qh h;have I:=Qh h.1;have Z:=Qh hF;have f:=Qh hT;clear h hF hT
 go_enter Tryz.func57,Tryz.ntmps57
 go_wp2_with fail
 go_loopw [5,8] (fun _ i wr=>∃(j:Nat),j≤n∧i=.int .i64 (j:Int)∧Hid (∀m∈(xs.map MP.m).take j,cf m=true)∧Hid (Below w.heap.size w wr)) (fun _ i _=>n - (RowKit.intOf i).toNat)
 case atStart=>exact⟨0,Nat.zero_le _,rfl,Qh (by simp),Qh (Below.refl _ _)⟩
 case round=>
  obtain⟨j,q,rfl,hA,A⟩:=hrel
  by_cases O:j<n
  ·have L:j<xs.length:=by rw[I.out];exact O
   have U:=qS xs j L;have N:=xr xs j L;have H:=Z.out _ U;obtain⟨b,o,rfl,g,X,c0,c1,c2,c3,D,c5,c6,c7⟩:=(d.out.below A.out).cells O;have M:=oD xs j;obtain⟨y,hy⟩:∃y,xs.getD j cz=y:=⟨_,rfl⟩
   rw[hy]at N U H X c0 c1 c2 c3 D c5 c6 c7 M;rw[Nat.mul_comm]at c0 c1 c2 c3 D c5 c6 c7;have G:=uP y.m y.p y.c wr H.1 H.2 (f.out.below A.out);unfold jB at G;obtain⟨r,T⟩:∃r,cf y.m=r:=⟨_,rfl⟩
   rw[T]at G;have J:=Qh N;have W:=Qh T;have Y:=Qh M;have V:=Qh G;have t:(j:Int)<(n:Int):=by omega
   clear N g hy G T U L H X M
   cases r with
   |true=>
    go_wp2_with fail
    refine V.out.mono ?_;rintro e l ⟨rfl,B⟩;have R:=Qh (A.out.trans (B.mono A.out.size));clear B c0 c1 c2 c3 D c5 c6 c7;go_wp2;go_roundw
    case rel=>exact⟨j+1,by omega,by go_num,Qh (fun x hx=>by
     rw[←List.map_take,J.out,List.mem_append]at hx;rcases hx with hx|hx
     ·exact hA.out x (by rw[←List.map_take];exact hx)
     ·rw[List.mem_singleton.1 hx];exact W.out),R⟩
    case measure=>simp[RowKit.intOf];omega
   |false=>
    go_wp2_with fail
    refine V.out.mono ?_;rintro e l ⟨rfl,B⟩;have R:=Qh (A.out.trans (B.mono A.out.size));have E:Hid (qO (xs.map MP.m)=some j):=Qh (B3 (by rw[Qi,I.out];exact O) hA.out (by rw[Y.out];exact W.out));clear B c0 c1 c2 c3 D c5 c6 c7;go_wp2;go_ret;exact⟨by rw[E.out];rfl,R.out⟩
  ·have u:¬((j:Int)<(n:Int)):=by omega
   have E:Hid (qO (xs.map MP.m)=none):=Qh (wR (fun x hx=>hA.out x (by rw[List.take_of_length_le (by rw[Qi,I.out];omega)];exact hx)));go_wp2;go_ret;exact⟨by rw[E.out];rfl,A.out⟩
end kY
namespace kY
open Go.ChangeShapes Go.WideShapes Go.ChangeAt Go.RowKit Base cb iK Bk Mk Mem Go.Lib
variable {N:Nat} {S:St} {α:Type}
theorem sE (k:UInt8) (n:UInt8) (z:Int) (hz:(n.toNat:Int)=z):(((k.toNat:Int))==z)=decide (k=n):=by
 subst hz
 by_cases h:k=n
 ·simp[h]
 ·have:¬k.toNat=n.toNat:=fun A=>h (UInt8.toNat.inj A)
  simp only[h,decide_false,beq_eq_false_iff_ne,ne_eq];omega
theorem CB (k:UInt8) (n:UInt8) (z:Int) (hz:(n.toNat:Int)=z):(((k.toNat:Int)) != z)=!decide (k=n):=by
 rw[←sE k n z hz];rfl
def ob (f:List UInt8→Option Nat):List UInt8→Option Value:=fun x=>(f x).map fun n=>.int .i64 (n:Int)
structure uq (W:World) (g B:Nat) (p:Option Addr) (n c:Nat) (f:List UInt8→Option Nat):Prop where
 obj:au W g 150 #[.slice p n c,.map (some B)]
 map:jj p8 W B (ob f)
theorem uz {t:TypeId} {cs:Array Value} {K:pZ α} {f:α→Option Value} (h:au W g t cs) (hm:jj K W B f):g≠B:=fun e=>by
 obtain⟨es,clock,A,_⟩:=hm;subst e;have D:W.heap[g]? =some (.cells cs t (0,0)):=h;rw[D]at A
 cases A
theorem uq.below {p:Option Addr} {c:Nat} {f:List UInt8→Option Nat} (h:uq W g B p n c f) (hb:Below W.heap.size W W'):uq W' g B p n c f:=
 ⟨h.obj.below hb h.obj.lt,h.map.kept (Kept.bj hb ag) (fun h=>h.elim)⟩
def KY (w:World) (p:Option Addr) (n c:Nat) (e:Ending) (w':World):Prop:=
 ∃g B,e=.returned (.pointer (some ⟨g,0,none⟩))∧uq w' g B p n c (fun _=>none)∧w.heap.size≤g∧w.heap.size≤B∧Below w.heap.size w w'
theorem MN (p:Option Addr) (n c:Nat) (w:World):
 Calls Tryz.prog 59 #[.slice p n c] w (KY w p n c):=by
 have D:=@run_makeMap Tryz.prog
 go_enter Tryz.func59,Tryz.ntmps59
 go_wp2;go_ret;have A:=(qG p8 w)
 have B:au ((w.alloc (.map #[] 0)).alloc (.cells #[.slice p n c,.map (some w.heap.size)] 150)) (w.heap.size+1) 150 #[.slice p n c,.map (some w.heap.size)]:=by
  have:=au.new (w.alloc (.map #[] 0)) 150 #[.slice p n c,.map (some w.heap.size)]
  rwa [World.size_alloc]at this
 refine⟨w.heap.size+1,w.heap.size,rfl,⟨B,?_⟩,by omega,Qk _,((Below.refl _ _).alloc (Qk _) _).alloc (by simp) _⟩;exact A.kept ((Kept.refl ag _).alloc _) (fun h=>h.elim)
theorem I5 (q r:α→Bool) (h:∀x,r x=true→q x=true) (l:List α):(l.filter q).find? r=l.find? r:=by
 induction l with
 |nil=>rfl
 |cons a l ih=>
  rw[List.filter_cons]
  by_cases A:q a=true
  ·rw[if_pos A,List.find?_cons,List.find?_cons,ih]
  ·rw[if_neg A,List.find?_cons,ih]
   have:r a=false:=by
    cases B:r a with
    |false=>rfl
    |true=>exact absurd (h a B) A
   rw[this]
theorem Vf (S:St) (p x:List UInt8) (n:Nat):look (oV S p n) x=if x=p then some n else look S x:=by
 unfold look oV;rw[List.find?_append]
 by_cases h:x=p
 ·subst h
  rw[if_pos rfl]
  have:(S.filter fun e=>!(e.1==x)).find? (fun e=>e.1==x)=none:=by
   rw[List.find?_eq_none];intro e he;rw[List.mem_filter]at he
   simpa using he.2
  rw[this];simp
 ·rw[if_neg h,I5 _ _ (fun e he=>by
   have:e.1=x:=by simpa using he
   simpa [this]using h)]
  have A:([(p,n)]:St).find? (fun e=>e.1==x)=none:=by
   have:(p==x)=false:=by simpa using fun e:p=x=>h e.symm
   simp[this]
  rw[A,Option.or_none]
def WD (S:St) (N:Nat):Prop:=∀e∈S,e.2<N
theorem WD.look (h:WD S N) {x:List UInt8} (hl:look S x=some n):n<N:=by
 unfold kY.look at hl;rw[Option.map_eq_some_iff]at hl;obtain⟨e,he,rfl⟩:=hl;exact h e (List.mem_of_find?_eq_some he)
theorem WD.put (h:WD S N) {p:List UInt8} (hn:n<N):WD (oV S p n) N:=fun e he=>by
 unfold oV at he;rw[List.mem_append,List.mem_filter]at he;rcases he with he|he
 ·exact h e he.1
 ·rw[List.mem_singleton.1 he];exact hn
theorem Yq {ms:List aB} {S':St} (h:pj ms S i=some S') (hS:WD S ms.length) (hi:i<ms.length):WD S' ms.length:=by
 unfold pj at h
 dsimp only at h
 split at h
 ·split at h
  ·cases h
  ·next n A=>
   split at h
   ·cases h;exact hS.put (hS.look A)
   ·cases h
 ·cases h;exact hS.put hi
def N6 (W:World) (ms:List aB) (S:St) (i g B:Nat) (p:Option Addr) (n c:Nat) (e:Ending) (w':World):Prop:=
 e=.returned (.bool (pj ms S i).isSome)∧uq w' g B p n c (look ((pj ms S i).getD S))∧Kept (aA B) W w'
theorem Fm (S:St) (x:List UInt8) (n:Nat):ob (look (oV S x n))=fun y=>if y=x then some (.int .i64 (n:Int))else ob (look S) y:=by
 funext y
 unfold ob;rw[Vf]
 by_cases h:y=x<;>simp[h]
theorem GY (w:World) (g B:Nat) (p:Option Addr) (n c:Nat) (xs:List MP) (S:St) (i:Nat) (W:World) (hM:jI w p n xs) (hb:Below w.heap.size w W) (hB:w.heap.size≤B) (hn:n≤1000000000) (hi:i<n) (hS:WD S n) (hL:uq W g B p n c (look S)):
 Calls Tryz.prog 60 #[.pointer (some ⟨g,0,none⟩),.int .i64 (i:Int)] W (N6 W (xs.map MP.m) S i g B p n c):=by
 have HL:=Qh hM.1;have Ut:=uz hL.obj hL.map;have L:=hM.below hb;obtain⟨b1,o1,rfl,ch,iB,nI⟩:=L.p6 hi;have u:=oD xs i;obtain⟨y,hy⟩:∃y,xs.getD i cz=y:=⟨_,rfl⟩
 rw[hy]at iB nI u;obtain⟨W1,V⟩:∃W1,W.alloc (.cells y.cs 48)=W1:=⟨_,rfl⟩
 have o:Below W.heap.size W W1:=by rw[←V];exact(Below.refl _ _).alloc (Qk _) _
 have U:au W1 W.heap.size 48 y.cs:=by rw[←V];exact au.new W _ _
 have D:=hL.below o;have HLA:=Qh hL;have H:=Qh D;have T:=Qh Ut;have b:=Qh o;have qf:=Qh (L.below o);have HS:=Qh hS;have HY:=Qh U;have Pp:=Qh (And.intro hL.obj.lt hL.map.lt);have k0:=hL.obj.cell 0;have g0:=D.obj.cell 0;have g1:=D.obj.cell 1;have r:=U.cell 0;have y1:=U.cell 1;have y2:=U.cell 2;simp only[MP.cs,jB,Qc,Qa,Qb]at k0 g0 g1 r y1 y2;have ek:=sE y.m.kind 49 49 rfl;obtain⟨kn,cn⟩:∃k:Int,(y.m.kind.toNat:Int)=k:=⟨_,rfl⟩
 obtain⟨c0,c1,c2,c3,c4,c5,c6,c7⟩:=nI;unfold MP.cs jB at V;rw[cn]at V y2 c2 ek;have d:=Qh u;have hiz:(i:Int)<(n:Int):=by omega
 have WM:(0:Int)≤(i:Int):=by omega
 clear hM hb L ch iB hy o U hL D Ut hS cn u
 go_enter Tryz.func60,Tryz.ntmps60
 go_upto_region 2 with fail
 clear c0 c1 c2 c3 c4 c5 c6 c7 V
 by_cases N:y.m.kind=49
 ·rw[decide_eq_true N]at ek
  have OC:=H.out.map.look_ok (P:=Tryz.prog) Tryz.underlying99 Tryz.underlying9 (z:=.int .i64 0) (fun w=>Tryz.zeroValue3 w) y.m.target
  have l:Hid (∀q:pI W1,(Instr.lookup 99 (.map (some B)) (.string (str y.m.target)) true).run Tryz.prog q.w'=.ok (.tuple #[(ob (look S) y.m.target).getD (.int .i64 0),.bool (ob (look S) y.m.target).isSome]) q.w'):=Qh (fun q=>
   (H.out.map.kept (Kept.bj q.bel ag) (fun h=>h.elim)).look_ok (P:=Tryz.prog) Tryz.underlying99 Tryz.underlying9 (z:=.int .i64 0) (fun w=>Tryz.zeroValue3 w) y.m.target)
  clear OC;obtain⟨fo,t⟩:∃fo,look S y.m.target=fo:=⟨_,rfl⟩
  have f:=Qh t;unfold ob at l;rw[t]at l;have G:=Qh N;clear t N
  cases fo with
  |none=>
   have E:Hid (pj (xs.map MP.m) S i=none):=Qh (by
    unfold pj;rw[d.out]
    dsimp only
    rw[if_pos G.out,f.out])
   have lk:∀m,(Instr.lookup 99 (.map (some B)) (.string (str y.m.target)) true).run Tryz.prog (W1.drewN m)=.ok (.tuple #[.int .i64 0,.bool false]) (W1.drewN m):=fun m=>l.out ⟨W1.drewN m,below_drewN (Below.refl _ _) m⟩
   go_wp2_with fail
   go_quiet (fail)
   go_wp2;go_ret;exact⟨by rw[E.out];rfl,by rw[E.out];exact H.out.below (below_drewN (Below.refl _ _) _),(Kept.bj b.out (aA B)).drewN _⟩
  |some n0=>
   have hn0:n0<n:=HS.out.look f.out;obtain⟨b2,o2,OD,cj,X,qU⟩:=qf.out.p6 hn0;simp only[Option.some.injEq,Addr.mk.injEq,and_true]at OD;obtain⟨rfl,rfl⟩:=OD;have J:=oD xs n0;obtain⟨v,hv⟩:∃v,xs.getD n0 cz=v:=⟨_,rfl⟩
   rw[hv]at qU J;have z2:=qU.2.2.1;have I:∀m,(W1.drewN m).cell? ⟨b1,o1+n0*8+2,none⟩=some (.int .u8 (v.m.kind.toNat:Int)):=fun m=>z2
   have ev:=CB v.m.kind 48 48 rfl;obtain⟨kv,OB⟩:∃k:Int,(v.m.kind.toNat:Int)=k:=⟨_,rfl⟩
   rw[OB]at ev z2 I;have sW:=Qh J;have lk:∀m,(Instr.lookup 99 (.map (some B)) (.string (str y.m.target)) true).run Tryz.prog (W1.drewN m)=.ok (.tuple #[.int .i64 (n0:Int),.bool true]) (W1.drewN m):=fun m=>l.out ⟨W1.drewN m,below_drewN (Below.refl _ _) m⟩
   have aK6:(n0:Int)<(n:Int):=by omega
   have aK5:(0:Int)≤(n0:Int):=by omega
   clear cj X qU hv OB J
   by_cases O:v.m.kind=48
   ·rw[decide_eq_true O,Bool.not_true]at ev
    have E:Hid (pj (xs.map MP.m) S i=some (oV S y.m.path n0)):=Qh (by
     unfold pj;rw[d.out]
     dsimp only
     rw[if_pos G.out,f.out]
     dsimp only
     rw[sW.out,if_pos O])
    clear O;go_wp2_with fail
    go_quiet (fail)
    obtain⟨W2,pg⟩:∃W2,W1.drewN nq=W2:=⟨_,rfl⟩
    have A:=H.out.below (below_drewN (Below.refl W1.heap.size W1) nq);have X:=b.out.trans ((below_drewN (Below.refl W1.heap.size W1) nq).mono b.out.size);have M:=HY.out.drewN nq;have z2':=I nq;rw[pg]at A X M z2'⊢;clear pg lk I z2 g0 g1 r y1 y2;have g0:=A.obj.cell 0;have g1:=A.obj.cell 1;have r:=M.cell 0;simp only[MP.cs,jB,Qc,Qa,Qb]at g0 g1 r;have AW:=Qh A;have aa8:=Qh X;clear A X M;go_wp2_with fail
    go_still_tail 7,(by kernel_rfl)
    refine jA (K:=p8) rfl (.tmp 45) (.tmp 47) (.tmp 48) rfl Tryz.underlying99 Tryz.underlying9 B (AW.out.map.kept (Kept.refl ag W2).drew id) rfl y.m.path rfl (.int .i64 (n0:Int)) rfl ?_;intro w5 R Z yM
    have F:Hid (uq w5 g B (some ⟨b1,o1,none⟩) n c (look (oV S y.m.path n0))∧Kept (aA B) W w5):=by
     have Y:Kept (aA B) W2 w5:=((Kept.refl (aA B) W2).drew).trans Z.out;refine Qh ⟨⟨AW.out.obj.iH Y T.out,?_⟩,(Kept.bj aa8.out (aA B)).trans Y⟩;rw[Fm];exact R.out
    clear R Z yM;go_wp2;go_ret;exact⟨by rw[E.out];rfl,by rw[E.out];exact F.out.1,F.out.2⟩
   ·rw[decide_eq_false O,Bool.not_false]at ev
    have E:Hid (pj (xs.map MP.m) S i=none):=Qh (by
     unfold pj;rw[d.out]
     dsimp only
     rw[if_pos G.out,f.out]
     dsimp only
     rw[sW.out,if_neg O])
    clear O;go_wp2_with fail
    go_quiet (fail)
    go_wp2;go_ret;exact⟨by rw[E.out];rfl,by rw[E.out];exact H.out.below (below_drewN (Below.refl _ _) _),(Kept.bj b.out (aA B)).drewN _⟩
 ·rw[decide_eq_false N]at ek
  have E:Hid (pj (xs.map MP.m) S i=some (oV S y.m.path i)):=Qh (by
   unfold pj;rw[d.out]
   dsimp only
   rw[if_neg N])
  clear N;go_wp2_with fail
  go_still_tail 7,(by kernel_rfl)
  refine jA (K:=p8) rfl (.tmp 45) (.tmp 47) (.tmp 48) rfl Tryz.underlying99 Tryz.underlying9 B (H.out.map.kept (Kept.refl ag W1).drew id) rfl y.m.path rfl (.int .i64 (i:Int)) rfl ?_;intro w5 R Z yM
  have F:Hid (uq w5 g B (some ⟨b1,o1,none⟩) n c (look (oV S y.m.path i))∧Kept (aA B) W w5):=by
   have Y:Kept (aA B) W1 w5:=((Kept.refl (aA B) W1).drew).trans Z.out;refine Qh ⟨⟨H.out.obj.iH Y T.out,?_⟩,(Kept.bj b.out (aA B)).trans Y⟩;rw[Fm];exact R.out
  clear R Z yM;go_wp2;go_ret;exact⟨by rw[E.out];rfl,by rw[E.out];exact F.out.1,F.out.2⟩
end kY
namespace kY
open Mem
variable {ms:List aB} {f:Nat} {S T:St}
def nv (S:St):Prop:=(S.map (·.1)).Nodup
theorem nv.put (h:nv S) (p:List UInt8) (n:Nat):nv (oV S p n):=by
 unfold nv oV at*;rw[List.map_append,List.nodup_append];refine⟨(List.Sublist.nodup (List.Sublist.map _ (List.filter_sublist)) h),by simp,?_⟩;intro a ha b A;simp only[List.map_cons,List.map_nil,List.mem_singleton]at A;subst A;rw[List.mem_map]at ha;obtain⟨e,he,rfl⟩:=ha;rw[List.mem_filter]at he
 simpa using he.2
theorem JG (h:nv S) {e:List UInt8 × Nat} (he:e∈S):look S e.1=some e.2:=by
 unfold look nv at*
 induction S with
 |nil=>cases he
 |cons a S ih=>
  rw[List.map_cons,List.nodup_cons]at h;rw[List.find?_cons]
  by_cases ha:a.1=e.1
  ·have:(a.1==e.1)=true:=by simpa using ha
   rw[this];rcases List.mem_cons.1 he with rfl|he'
   ·rfl
   ·exact absurd (List.mem_map.2 ⟨e,he',ha.symm⟩) h.1
  ·have:(a.1==e.1)=false:=by simpa using ha
   rw[this];rcases List.mem_cons.1 he with rfl|he'
   ·exact absurd rfl ha
   ·exact ih h.2 he'
theorem uL (x:List UInt8):(look S x).isSome=true↔x∈S.map (·.1):=by
 unfold look;rw[Option.isSome_map,List.find?_isSome,List.mem_map];constructor
 ·rintro⟨e,he,h⟩;exact⟨e,he,by simpa using h⟩
 ·rintro⟨e,he,h⟩;exact⟨e,he,by simpa using h⟩
theorem Mv {S':St} (h:pj ms S i=some S') (hS:nv S):nv S':=by
 unfold pj at h
 dsimp only at h
 split at h
 ·split at h
  ·cases h
  ·split at h
   ·cases h;exact hS.put _ _
   ·cases h
 ·cases h;exact hS.put _ _
theorem uI (ms:List aB):∀k S,kJ ms k=.ok S→nv S
 |0,S,h=>by cases h;exact List.nodup_nil
 |k+1,S,h=>by
  unfold kJ at h;split at h
  ·cases h
  ·next A B=>
   split at h
   ·cases h
   ·next D h1=>cases h;exact Mv h1 (uI ms k A B)
theorem CD (ms:List aB):∀k S,k≤ms.length→kJ ms k=.ok S→WD S ms.length
 |0,S,_,h=>by cases h;intro e he;cases he
 |k+1,S,hk,h=>by
  unfold kJ at h;split at h
  ·cases h
  ·next A B=>
   split at h
   ·cases h
   ·next D h1=>cases h;exact Yq h1 (CD ms k A (by omega) B) (by omega)
def EA (T:St):Prop:=T.Pairwise fun a b=>j1 a.1 b.1=true
theorem Rg (a b c:List UInt8 × Nat) (h1:U9 a b=true) (h2:U9 b c=true):U9 a c=true:=by
 unfold U9 at*;simp only[Bool.not_eq_true']at*
 cases h:j1 c.1 a.1 with
 |false=>rfl
 |true=>rw[G8 (a:=b.1) (b:=c.1) (c:=a.1) h2 h]at h1;cases h1
theorem Rf (a b:List UInt8 × Nat):(U9 a b||U9 b a)=true:=by
 unfold U9
 cases h:j1 b.1 a.1 with
 |false=>simp
 |true=>rw[yl h];simp
theorem tS (S:St):(jH S).Perm S:=List.mergeSort_perm S U9
theorem Dz (h:nv S):EA (jH S):=by
 have h1:=List.pairwise_mergeSort Rg Rf S;have A:((jH S).map (·.1)).Nodup:=((tS S).map _).nodup_iff.2 h;have B:(jH S).Pairwise fun a b=>a.1≠b.1:=(List.pairwise_map (f:=fun e:List UInt8 × Nat=>e.1)).1 A
 refine((show(jH S).Pairwise (fun a b=>U9 a b=true)from h1).and B).imp fun⟨h4,h5⟩=>?_
 unfold U9 at h4;exact rf (by simpa using h4) (fun e=>h5 e.symm)
theorem Dy (h:nv S) (hp:T.Perm S) (hr:EA T):T=jH S:=by
 have A:T.Pairwise fun(a b:List UInt8 × Nat)=>j1 a.1 b.1=true:=hr
 have B:(jH S).Pairwise fun(a b:List UInt8 × Nat)=>j1 a.1 b.1=true:=Dz h
 refine List.Perm.eq_of_pairwise (fun a b _ _ (h1:j1 a.1 b.1=true) (h2:j1 b.1 a.1=true)=>?_) A B (hp.trans (tS S).symm);rw[yl h1]at h2;cases h2
theorem Q8 (h:nv S) {ts:List (List UInt8)} (hp:ts.Perm (S.map (·.1))) (hr:ts.Pairwise fun a b=>j1 a b=true):jH S=ts.map fun x=>(x,(look S x).getD 0):=by
 symm
 refine Dy h ?_ ?_
 ·have:=hp.map fun x=>(x,(look S x).getD 0)
  refine this.trans (List.Perm.of_eq ?_);rw[List.map_map]
  conv=>rhs;rw[←List.map_id S]
  refine List.map_congr_left fun e he=>?_
  simp only[Function.comp,JG h he,Option.getD_some,id]
 ·unfold EA
  rw[List.pairwise_map];exact hr
theorem CI (hk:k<T.length) (h:∀j,j<k→(T.getD j ([],0)).2≠(T.getD k ([],0)).2):ua T (T.getD k ([],0)).2=(T.getD k ([],0)).1:=by
 unfold ua;have A:T.getD k ([],0)=T[k]:=by rw[List.getD,Qd hk];rfl
 rw[A]at h⊢
 have:T.find? (fun e=>e.2==T[k].2)=some T[k]:=by
  rw[List.find?_eq_some_iff_getElem];refine⟨by simp,k,hk,rfl,fun j B=>?_⟩;have:=h j B;rw[List.getD,Qd (show j<T.length by omega)]at this
  simpa using this
 rw[this];rfl
def nM (T:St) (n:Nat):Option Nat:=T.findIdx? fun e=>e.2==n
theorem Jz (h:nM T n=some f):ua T n=(T.getD f ([],0)).1:=by
 unfold nM at h;rw[List.findIdx?_eq_some_iff_getElem]at h;obtain⟨hf,h1,A⟩:=h;unfold ua
 have:T.find? (fun e=>e.2==n)=some T[f]:=by
  rw[List.find?_eq_some_iff_getElem];exact⟨h1,f,hf,rfl,fun j B=>by simpa using A j B⟩
 rw[this,List.getD,Qd hf];rfl
theorem oC (T:St) (k n:Nat) (hk:k<T.length):nM (T.take (k+1)) n=(nM (T.take k) n).or (if(T.getD k ([],0)).2=n then some k else none):=by
 unfold nM;rw[List.take_succ_eq_append_getElem hk,List.findIdx?_append]
 congr 1
 have A:T.getD k ([],0)=T[k]:=by rw[List.getD,Qd hk];rfl
 rw[A]
 by_cases h:T[k].2=n
 ·simp[h,List.findIdx?_cons]
  omega
 ·have:(T[k].2==n)=false:=by simpa using h
  simp[h,List.findIdx?_cons,this]
theorem Gt (h:nM (T.take k) n=some f):nM T n=some f:=by
 unfold nM at*
 conv=>lhs;rw[←List.take_append_drop k T,List.findIdx?_append,h]
 rfl
def leads (ms:List aB) (T:St) (k n:Nat):Option Nat:=if(ms.getD n iJ).kind=48 then nM (T.take k) n else none
theorem My (ms:List aB) (T:St) (n:Nat):leads ms T 0 n=none:=by
 unfold leads;split<;>rfl
theorem JA (hk:k<T.length) (h:(ms.getD (T.getD k ([],0)).2 iJ).kind≠48):leads ms T (k+1)=leads ms T k:=by
 funext n
 unfold leads;split
 ·next A=>
  rw[oC T k n hk,if_neg (fun e=>h (by rw[e];exact A)),Option.or_none]
 ·rfl
theorem Ri (hk:k<T.length) (h:leads ms T k (T.getD k ([],0)).2=some f):leads ms T (k+1)=leads ms T k:=by
 funext n
 unfold leads at*;split
 ·next A=>
  rw[oC T k n hk]
  by_cases e:(T.getD k ([],0)).2=n
  ·rw[e,if_pos A]at h
   rw[h];rfl
  ·rw[if_neg e,Option.or_none]
 ·rfl
theorem Rh (hk:k<T.length) (hf:(ms.getD (T.getD k ([],0)).2 iJ).kind=48) (h:leads ms T k (T.getD k ([],0)).2=none):leads ms T (k+1)=fun n=>if n=(T.getD k ([],0)).2 then some k else leads ms T k n:=by
 funext n
 unfold leads at*;rw[if_pos hf]at h
 by_cases e:n=(T.getD k ([],0)).2
 ·rw[if_pos e,e,if_pos hf,oC T k _ hk,h,if_pos rfl];rfl
 ·rw[if_neg e]
  split
  ·rw[oC T k n hk,if_neg (fun h=>e h.symm),Option.or_none]
  ·rfl
theorem CJ (hk:k<T.length) (hf:(ms.getD (T.getD k ([],0)).2 iJ).kind=48):ua T (T.getD k ([],0)).2=(T.getD ((leads ms T k (T.getD k ([],0)).2).getD k) ([],0)).1:=by
 have h1:nM (T.take (k+1)) (T.getD k ([],0)).2=some ((leads ms T k (T.getD k ([],0)).2).getD k):=by
  rw[oC T k _ hk,if_pos rfl];unfold leads;rw[if_pos hf]
  cases nM (T.take k) (T.getD k ([],0)).2<;>rfl
 exact Jz (Gt h1)
theorem Va (h:leads ms T k n=some f):f<k∧f<T.length:=by
 unfold leads at h;split at h
 ·unfold nM at h
  rw[List.findIdx?_eq_some_iff_getElem]at h;obtain⟨h1,_⟩:=h;rw[Qg]at h1;omega
 ·cases h
end kY
namespace kY
open Go.ChangeShapes Go.WideShapes Go.ChangeAt Go.RowKit Base cb iK Bk Mk Mem Go.Lib
variable {ms:List aB} {S S':St}
theorem ry {fn:Func} (hf:fn.results=#[.tmp 2,.cell 3 32]) (tmps:Array Value) (w:World) (g:Nat) (v:Value) (ht:tmps.getD 3 undef=.pointer (some ⟨g,0,none⟩)) (hv:tmps.getD 2 undef=v)
 (a b:Int) (hb:au w g 32 #[.int .i64 a,.int .i64 b]):(results fn tmps).run Tryz.prog w=.ok (.tuple #[v,.agg #[.int .i64 a,.int .i64 b]]) w:=by
 have c0:=hb.cell 0;have c1:=hb.cell 1;simp only[Qc,Qa,Qb]at c0 c1;clear hb;have hl:(loadVar 32 ⟨g,0,none⟩).run Tryz.prog w=.ok (.agg #[.int .i64 a,.int .i64 b]) w:=by go_simp
 have B:tmps[3]?.getD undef=.pointer (some ⟨g,0,none⟩):=by simpa using ht
 have A:tmps[2]?.getD undef=v:=by simpa using hv
 simp only[results,hf];simp[Result.andThen,B,A,asAddr,hl]
theorem qi {x y:Value} (h:au w g 32 #[x,y]) (a b:Value):au ((w.setCell ⟨g,0,none⟩ a).setCell ⟨g,1,none⟩ b) g 32 #[a,b]:=
 (h.set 0 a (by show 0<2;decide)).set 1 b (by show 1<2;decide)
theorem VO (S:St) (p:List UInt8) (n:Nat):(oV S p n).length≤S.length+1:=by
 unfold oV;rw[Qf];have:=List.length_filter_le (fun e:List UInt8 × Nat=>!(e.1==p)) S
 simpa using this
structure OkS (ms:List aB) (S:St) (k:Nat):Prop where
 len:S.length≤k
 from_:∀e∈S,∃j,j<k∧e.1=(ms.getD j iJ).path
theorem OkS.put (h:OkS ms S k) (n:Nat):OkS ms (oV S (ms.getD k iJ).path n) (k+1):=by
 refine⟨Nat.le_trans (VO _ _ _) (Nat.succ_le_succ h.len),fun e he=>?_⟩;unfold oV at he;rw[List.mem_append,List.mem_filter]at he;rcases he with he|he
 ·obtain⟨j,B,A⟩:=h.from_ e he.1
  exact⟨j,by omega,A⟩
 ·rw[List.mem_singleton.1 he]
  exact⟨k,by omega,rfl⟩
theorem OkS.lay (h:OkS ms S k) (hl:pj ms S k=some S'):OkS ms S' (k+1):=by
 unfold pj at hl
 dsimp only at hl
 split at hl
 ·split at hl
  ·cases hl
  ·split at hl
   ·cases hl;exact h.put _
   ·cases hl
 ·cases hl;exact h.put _
theorem CE (ms:List aB):∀k S,kJ ms k=.ok S→OkS ms S k
 |0,S,h=>by cases h;exact⟨Qk _,fun e he=>by cases he⟩
 |k+1,S,h=>by
  unfold kJ at h;split at h
  ·cases h
  ·next A B=>
   split at h
   ·cases h
   ·next D h1=>cases h;exact(CE ms k A B).lay h1
theorem tE (h:kJ ms k=.ok S) (hl:pj ms S k=some S'):kJ ms (k+1)=.ok S':=by
 unfold kJ;rw[h]
 dsimp only
 rw[hl]
theorem xi (h:kJ ms k=.ok S) (hl:pj ms S k=none):kJ ms (k+1)=.error k:=by
 unfold kJ;rw[h]
 dsimp only
 rw[hl]
theorem tD {ms:List aB} {k:Nat} {i:Nat} (h:kJ ms k=.error i):∀d,kJ ms (k+d)=.error i
 |0=>h
 |d+1=>by
  show kJ ms ((k+d)+1)=_;unfold kJ;rw[tD h d]
theorem EX (h:qO ms=some i):kH ms=([],1,i):=by
 unfold qO at h;unfold kH;rw[h]
theorem xd (h:qO ms=none) (h2:kJ ms ms.length=.error i):kH ms=([],7,i):=by
 unfold qO at h;unfold kH;rw[h]
 dsimp only
 rw[h2]
theorem Cf (h:qO ms=none) (h2:kJ ms ms.length=.ok S):kH ms=(kT ms S,0,0):=by
 unfold qO at h;unfold kH;rw[h]
 dsimp only
 rw[h2]
end kY
namespace Mem
open Go.ChangeShapes Go.WideShapes Go.ChangeAt Go.RowKit Base cb iK Bk Hp Head ur Path Go.Lib
theorem Qw (p q:Option Addr) (n c m d:Nat) (a b:List UInt8) (w:World) (ha:a.length=n) (hb:b.length=m) (h1:iC w p n a) (h2:iC w q m b):
 Calls Tryz.prog 78 #[.slice p n c,.slice q m d] w fun e w'=>e=.returned (.bool (decide (a=b)))∧w=w':=by
 have c1:(convert 26 9 (.slice p n c)).run Tryz.prog w=.ok (.string (str a)) w:=iR h1 ha _ _ _ Tryz.underlying26 Tryz.underlying5 Tryz.underlying9 _;have c2:(convert 26 9 (.slice q m d)).run Tryz.prog w=.ok (.string (str b)) w:=iR h2 hb _ _ _ Tryz.underlying26 Tryz.underlying5 Tryz.underlying9 _
 have A:((str a).toList==(str b).toList)=decide (a=b):=by
  rw[ak,ak]
  by_cases h:a=b<;>simp[h]
 clear h1 h2
 go_enter Tryz.func78,Tryz.ntmps78
 go_wp2;go_ret;exact⟨rfl,rfl⟩
theorem I2 (a b c d a' b' c' d':Int) (n:Nat) (w:World):(Op.equalIn (n+1+1) 46 (.agg #[.int .i64 a,.int .i64 b,.int .i64 c,.int .i64 d]) (.agg #[.int .i64 a',.int .i64 b',.int .i64 c',.int .i64 d'])).run Tryz.prog w=.ok (decide (a=a'∧b=b'∧c=c'∧d=d')) w:=by
 have A:Tryz.prog.underlying 46=some (.struct (Tryz.prog.fieldsOf 46)):=by kernel_rfl
 have B:Tryz.prog.stoodInHeld 46=false:=by kernel_rfl
 rw[run_equalIn_agg (P:=Tryz.prog) w (n+1) 46 _ _ A B];clear A B;simp only[Program.fieldsOf,Tryz.underlying46]
 go_simp
 by_cases D:a=a'<;>by_cases E:b=b'<;>by_cases G:c=c'<;>by_cases H:d=d'<;>simp[D,E,G,H]
theorem T2 (a b c d a' b' c' d':Int) (w:World):(binOp .eql 46 (.agg #[.int .i64 a,.int .i64 b,.int .i64 c,.int .i64 d]) (.agg #[.int .i64 a',.int .i64 b',.int .i64 c',.int .i64 d'])).run Tryz.prog w=.ok (.bool (decide (a=a'∧b=b'∧c=c'∧d=d'))) w:=by
 rw[run_eql_struct,show(10000:Nat)=9998+1+1 from rfl,I2];rfl
theorem Y4 (a b:aB):decide (a=b)=(decide (a.path=b.path)&&(decide (a.target=b.target)&&((((a.kind.toNat:Int))==(b.kind.toNat:Int))&&(decide (a.mode=b.mode∧a.uid=b.uid∧a.gid=b.gid∧a.time=b.time)&&decide (a.body=b.body))))):=by
 have s2:(((a.kind.toNat:Int))==(b.kind.toNat:Int))=decide (a.kind=b.kind):=by
  by_cases h:a.kind=b.kind
  ·simp[h]
  ·have:¬a.kind.toNat=b.kind.toNat:=fun A=>h (UInt8.toNat.inj A)
   simp only[h,decide_false,beq_eq_false_iff_ne,ne_eq];omega
 rw[s2,Bool.eq_iff_iff];simp only[decide_eq_true_eq,Bool.and_eq_true];constructor
 ·rintro rfl;simp
 ·rintro⟨h1,h2,h3,⟨h4,h5,h6,h7⟩,h8⟩
  cases a;cases b;simp_all
end Mem
namespace kY
open Go.ChangeShapes Go.WideShapes Go.ChangeAt Go.RowKit Base cb iK Bk Mem Go.Lib
theorem ac9 (a b:aC):eqN a b=(decide (a.path=b.path)&&(decide (a.target=b.target)&&((((a.kind.toNat:Int))==(b.kind.toNat:Int))&&(decide (a.mode=b.mode∧a.uid=b.uid∧a.gid=b.gid∧a.time=b.time)&&decide (a.body=b.body))))):=Y4 a.mem b.mem
theorem ad0 (a b:aC):eqN a b=(decide (a.path=b.path)&&((((a.kind.toNat:Int))==(b.kind.toNat:Int))&&(decide (a.mode=b.mode∧a.uid=b.uid∧a.gid=b.gid∧a.time=b.time)&&(decide (a.target=b.target)&&decide (a.body=b.body))))):=by
 rw[ac9]
 cases decide (a.path=b.path)<;>cases decide (a.target=b.target)<;>cases (((a.kind.toNat:Int))==(b.kind.toNat:Int))<;>cases decide (a.mode=b.mode∧a.uid=b.uid∧a.gid=b.gid∧a.time=b.time)<;>cases decide (a.body=b.body)<;>rfl
theorem Kj (a b:NP) (w:World) (h1:je w a) (h2:je w b):
 Calls Tryz.prog 30 #[.agg a.cs,.agg b.cs] w fun e w'=>e=.returned (.bool (eqN a.m b.m))∧Below w.heap.size w w':=by
 rw[ad0];have h1:=h1.nB;have h2:=h2.nB;unfold NP.cs tH;obtain⟨n,L⟩:∃n,a.m.body.length=n:=⟨_,rfl⟩
 obtain⟨m,hm⟩:∃m,b.m.body.length=m:=⟨_,rfl⟩
 obtain⟨M,U⟩:∃k:Int,(a.m.kind.toNat:Int)=k:=⟨_,rfl⟩
 obtain⟨N,H⟩:∃k:Int,(b.m.kind.toNat:Int)=k:=⟨_,rfl⟩
 rw[L]at h1;rw[hm]at h2;rw[L,hm,U,H]
 have Y:((str a.m.path).toList==(str b.m.path).toList)=decide (a.m.path=b.m.path):=by
  rw[ak,ak]
  by_cases h:a.m.path=b.m.path<;>simp[h]
 have Z:((str a.m.target).toList==(str b.m.target).toList)=decide (a.m.target=b.m.target):=by
  rw[ak,ak]
  by_cases h:a.m.target=b.m.target<;>simp[h]
 have f:=fun w=>T2 a.m.mode a.m.uid a.m.gid a.m.time b.m.mode b.m.uid b.m.gid b.m.time w
 have g:((str a.m.body).toList==(str b.m.body).toList)=decide (a.m.body=b.m.body):=by
  rw[ak,ak]
  by_cases h:a.m.body=b.m.body<;>simp[h]
 obtain⟨l,R⟩:∃x,decide (a.m.path=b.m.path)=x:=⟨_,rfl⟩
 obtain⟨o,O⟩:∃x,decide (a.m.target=b.m.target)=x:=⟨_,rfl⟩
 obtain⟨q,d⟩:∃x,(M==N)=x:=⟨_,rfl⟩
 obtain⟨r,E⟩:∃x,decide (a.m.mode=b.m.mode∧a.m.uid=b.m.uid∧a.m.gid=b.m.gid∧a.m.time=b.m.time)=x:=⟨_,rfl⟩
 obtain⟨y,I⟩:∃x,decide (a.m.body=b.m.body)=x:=⟨_,rfl⟩
 rw[R]at Y;rw[O]at Z;simp only[E]at f;rw[I]at g;rw[R,O,d,E,I];have u:=Qh I;have T:=Qh (And.intro L hm);clear R O E I L hm U H;obtain⟨W2,D⟩:∃W2,(w.alloc (.cells #[.string (str a.m.path),.string (str a.m.target),.string (str a.m.ao),.int .u8 M,.int .i64 a.m.mode,.int .i64 a.m.uid,.int .i64 a.m.gid,.int .i64 a.m.time,.slice a.p n a.c] 52)).alloc (.cells #[.string (str b.m.path),.string (str b.m.target),.string (str b.m.ao),.int .u8 N,.int .i64 b.m.mode,.int .i64 b.m.uid,.int .i64 b.m.gid,.int .i64 b.m.time,.slice b.p m b.c] 52)=W2:=⟨_,rfl⟩
 have J:Below w.heap.size w W2:=by rw[←D];exact((Below.refl w.heap.size w).alloc (Qk _) _).alloc (by simp) _
 have G:=Qh J;have V:=Qh (h1.below J);have t:=Qh (h2.below J);have A:au W2 w.heap.size 52 #[.string (str a.m.path),.string (str a.m.target),.string (str a.m.ao),.int .u8 M,.int .i64 a.m.mode,.int .i64 a.m.uid,.int .i64 a.m.gid,.int .i64 a.m.time,.slice a.p n a.c]:=by rw[←D];exact(au.new w _ _).alloc _
 have B:au W2 (w.heap.size+1) 52 #[.string (str b.m.path),.string (str b.m.target),.string (str b.m.ao),.int .u8 N,.int .i64 b.m.mode,.int .i64 b.m.uid,.int .i64 b.m.gid,.int .i64 b.m.time,.slice b.p m b.c]:=by
  have:=au.new (w.alloc (.cells #[.string (str a.m.path),.string (str a.m.target),.string (str a.m.ao),.int .u8 M,.int .i64 a.m.mode,.int .i64 a.m.uid,.int .i64 a.m.gid,.int .i64 a.m.time,.slice a.p n a.c] 52)) 52 #[.string (str b.m.path),.string (str b.m.target),.string (str b.m.ao),.int .u8 N,.int .i64 b.m.mode,.int .i64 b.m.uid,.int .i64 b.m.gid,.int .i64 b.m.time,.slice b.p m b.c];rw[World.size_alloc]at this;rw[←D];exact this
 have c0:=A.cell 0;have d0:=B.cell 0;have c1:=A.cell 1;have d1:=B.cell 1;have c3:=A.cell 3;have d3:=B.cell 3;have W:=A.cell 4;have d4:=B.cell 4;have c5:=A.cell 5;have d5:=B.cell 5;have c6:=A.cell 6;have d6:=B.cell 6;have c7:=A.cell 7;have d7:=B.cell 7;have X:=A.cell 8;have d8:=B.cell 8;simp only[Qc,Qa,Qb]at c0 d0 c1 d1 c3 d3 W d4 c5 d5 c6 d6 c7 d7 X d8;have v1:(convert 26 9 (.slice a.p n a.c)).run Tryz.prog W2=.ok (.string (str a.m.body)) W2:=iR V.out T.out.1 _ _ _ Tryz.underlying26 Tryz.underlying5 Tryz.underlying9 _;have v2:(convert 26 9 (.slice b.p m b.c)).run Tryz.prog W2=.ok (.string (str b.m.body)) W2:=iR t.out T.out.2 _ _ _ Tryz.underlying26 Tryz.underlying5 Tryz.underlying9 _;clear A B J h1 h2
 cases l with
 |false=>
  go_enter Tryz.func30,Tryz.ntmps30
  go_upto_region 1 with fail
  clear D;go_wp2;go_ret;exact⟨rfl,G.out⟩
 |true=>
  cases q with
  |false=>
   go_enter Tryz.func30,Tryz.ntmps30
   go_upto_region 1 with fail
   clear D;go_wp2;go_ret;exact⟨rfl,G.out⟩
  |true=>
   cases r with
   |false=>
    go_enter Tryz.func30,Tryz.ntmps30
    go_upto_region 1 with fail
    clear D;go_wp2;go_ret;exact⟨rfl,G.out⟩
   |true=>
    cases o with
    |false=>
     go_enter Tryz.func30,Tryz.ntmps30
     go_upto_region 1 with fail
     clear D;go_wp2;go_ret;exact⟨rfl,G.out⟩
    |true=>
     go_enter Tryz.func30,Tryz.ntmps30
     go_upto_region 1 with fail
     clear D;go_wp2;go_ret;exact⟨rfl,G.out⟩
theorem Fj {t:TypeId} {a b:Int} {q:Option Addr} {zs:List NP} (hb:au w g t #[.int .i64 a,.int .i64 b]) (h:bU w q n zs) (hk:Kept (aA g) w w'):bU w' q n zs:=by
 have E:∀{i:Nat} {v:Value},w.cell? ⟨g,i,none⟩=some v→v=.int .i64 a∨v=.int .i64 b:=fun {i v} hv=>by
  rw[hb.cell]at hv
  match i,hv with
  |0,hv=>cases hv;exact .inl rfl
  |1,hv=>cases hv;exact .inr rfl
 refine⟨h.1,fun y hy=>(h.2.1 y hy).kept hk (fun B z J H=>?_),fun B=>?_⟩
 ·obtain⟨A,o,he,_,hc⟩:=(h.2.1 y hy).nB.cell B
  rw[J]at he
  cases he
  have e:A=g:=H;have c0:=hc 0 B;rw[e]at c0;rcases E c0 with h|h<;>cases h
 ·obtain⟨A,o,he,G,hc⟩:=h.2.2 B
  refine⟨A,o,he,Nat.lt_of_lt_of_le G hk.size,fun i hi j I=>?_⟩
  have D:A≠g:=fun e=>by
   have c0:=hc 0 B 0 (by omega);rw[e]at c0;rcases E c0 with h|h<;>cases h
  rw[World.cell?_of_block (hk.block A G (fun h=>D h))];exact hc i hi j I
theorem ar9 (a b:List UInt8):((str a).toList==(str b).toList)=decide (a=b):=by
 rw[ak,ak]
 by_cases h:a=b<;>simp[h]
theorem I1 (a b a' b':Int) (n:Nat) (w:World):(Op.equalIn (n+1+1) 32 (.agg #[.int .i64 a,.int .i64 b]) (.agg #[.int .i64 a',.int .i64 b'])).run Tryz.prog w=.ok (decide (a=a'∧b=b')) w:=by
 have A:Tryz.prog.underlying 32=some (.struct (Tryz.prog.fieldsOf 32)):=by kernel_rfl
 have B:Tryz.prog.stoodInHeld 32=false:=by kernel_rfl
 rw[run_equalIn_agg (P:=Tryz.prog) w (n+1) 32 _ _ A B];clear A B;simp only[Program.fieldsOf,Tryz.underlying32]
 go_simp
 by_cases D:a=a'<;>by_cases E:b=b'<;>simp[D,E]
theorem Ah (a b:Int) (w:World):(binOp .eql 32 (.agg #[.int .i64 a,.int .i64 b]) (.agg #[.int .i64 a,.int .i64 b])).run Tryz.prog w=.ok (.bool true) w:=by
 rw[run_eql_struct,show(10000:Nat)=9998+1+1 from rfl,I1,decide_eq_true ⟨rfl,rfl⟩];rfl
end kY
namespace Wr
open Go.ChangeShapes Go.WideShapes Go.ChangeAt Go.RowKit Base cb iK Bk Hp Head Rec Attr Mem Block Go.Lib
theorem Wa (w:World) (B:Nat):Bi (w.alloc (.cells #[.slice none 0 0] 105)) w.heap.size B (.slice none 0 0) []:=
 ⟨au.new w _ _,World.ownsRow_nil _ _ _ _⟩
def Eu (w:World) (bs:List UInt8) (e:Ending) (w':World):Prop:=∃v,e=.returned (.tuple #[v,.int .i64 0])∧j3 w' w.heap.size v bs.length bs∧Below w.heap.size w w'
end Wr
namespace Mem
open Go.ChangeShapes Go.WideShapes Go.ChangeAt Go.RowKit Base cb iK Bk Hp Head ur Path Block Go.Lib
theorem FY (l:List UInt8) (k:Nat) (h:k<l.length):l.take (k+1)=l.take k++[l.getD k 0]:=by
 rw[List.take_succ_eq_append_getElem h];simp[List.getD,h]
theorem Vj (l:List UInt8) (k:Nat) (h:k<l.length):l.getD k 0∈l:=by
 rw[List.getD,Qd h];exact List.getElem_mem h
end Mem
namespace Mem
open Go.ChangeShapes Go.WideShapes Go.ChangeAt Go.RowKit Go.Shelf Base cb iK Bk Hp Head Go.Proofs.YtdhibldkldlfpaaGreatDoor.Mp Block Go.Lib
structure VJ where
 v1:Value
 vp:Value
 v2:Value
structure W24 (w:World) (B bm:Nat) (M:Array Value) (v0:Value) (X Y P:List UInt8) (w1:World) (γ:VJ) (listed:Array Bool) (w':World):Prop where
 bel:Below w.heap.size w w'
 le:w1.heap.size≤w'.heap.size
 mem:au w' bm 48 M
 aI1:listed.getD 2 false=false→∀b o,iC w1 (some ⟨b,o,none⟩) 512 Y→(∀k,v0.ownBlock=some k→k≠b)→iC w' (some ⟨b,o,none⟩) 512 Y
 o0:listed.getD 2 false=false→j3 w' B v0 X.length X
 o1:listed.getD 2 false=true→listed.getD 6 false=false→j3 w' B γ.v1 (X++Y).length (X++Y)
 pd:listed.getD 5 false=true→listed.getD 6 false=false→j3 w' w1.heap.size γ.vp P.length P
 fin:listed.getD 6 false=true→j3 w' B γ.v2 ((X++Y)++P).length ((X++Y)++P)
 c6:listed.getD 6 false=true→listed.getD 2 false=true∧listed.getD 5 false=true
theorem W24.cd {w1:World} {bm:Nat} {v0:Value} {X Y P:List UInt8} {γ:VJ} {listed:Array Bool} (hW:W24 w B bm M v0 X Y P w1 γ listed w') {j:Nat} (ay:j<listed.size) (hj:j≠2∧j≠5∧j≠6):W24 w B bm M v0 X Y P w1 γ (listed.setIfInBounds j true) w':=by
 have A:(listed.setIfInBounds j true).getD 2 false=listed.getD 2 false:=by rw[ai ay,if_neg (by omega)]
 have E:(listed.setIfInBounds j true).getD 5 false=listed.getD 5 false:=by rw[ai ay,if_neg (by omega)]
 have D:(listed.setIfInBounds j true).getD 6 false=listed.getD 6 false:=by rw[ai ay,if_neg (by omega)]
 exact⟨hW.bel,hW.le,hW.mem,by rw[A];exact hW.aI1,by rw[A];exact hW.o0,by rw[A,D];exact hW.o1,by rw[E,D];exact hW.pd,by rw[D];exact hW.fin,by rw[A,E,D];exact hW.c6⟩
end Mem
namespace Mem
open Go.ChangeShapes Go.WideShapes Go.ChangeAt Go.RowKit Base cb iK Bk Hp Head ur Path Block Rec Attr Go.Proofs.YtdhibldkldlfpaaGreatDoor.Mp Go.Lib
variable {wx wy:World} {h:af}
structure PM (w:World) (M:Array Value) (wx:World) (h:af):Prop where
 bel:Below w.heap.size w wx
 mem:au wx w.heap.size 48 M
 hd:au wx (w.heap.size+1) 66 (aa h)
theorem PM.below (hm:PM w M wx h) (hb:Below wx.heap.size wx wy):PM w M wy h:=
 ⟨hm.bel.trans (hb.mono hm.bel.size),hm.mem.below hb hm.mem.lt,hm.hd.below hb hm.hd.lt⟩
theorem PM.kept (hm:PM w M wx h) (hk:Kept ag wx wy):PM w M wy h:=hm.below (hk.below (Qk _) (fun _ h=>h.elim))
end Mem
namespace Mem
open Go.ChangeShapes Go.WideShapes Go.ChangeAt Go.RowKit Base cb iK Bk Hp Head ur Path Block Rec Go.Lib
theorem VL {m:aB} (h:kS m):(rq m).length≤3000000:=by
 have E:=(jL m.body.length).2;have hl:=(jL (bc (bq m)).length).2;have G:=sH h;have D:=h.body;obtain⟨H,_,A,_,(⟨_,e⟩|⟨X,_,B,_,e⟩)⟩:=yC h
 ·rw[e,Qf,jz,A];omega
 ·rw[e,Qf,Qf,Qf,jz,jz,A,B];omega
theorem Ax:∀(ms:List aB),(∀m∈ms,kS m)→(jE ms).length≤ms.length*3000000
 |[],_=>Nat.zero_le _
 |m::ms,h=>by
  rw[qA,Qf,List.length_cons];have h1:=VL (h m (List.mem_cons_self ..));have B:=Ax ms (fun x A=>h x (List.mem_cons_of_mem _ A));omega
end Mem
namespace Wr
open Go.ChangeShapes Go.WideShapes Go.ChangeAt Go.RowKit Base cb iK Bk Hp Head Rec Attr Mem Block Go.Lib
variable {xs:List MP}
def Fit (xs:List MP):Prop:=∀x∈xs,x.m.path.length≤1000000000000∧x.m.target.length≤1000000000000
def P5 (xs:List MP):Bool:=xs.all fun x=>cf x.m
theorem BW:P5 xs=true↔∀x∈xs,cf x.m=true:=by simp[P5]
theorem Kt (xs:List MP) (k:Nat) (h:k<xs.length):xs.take (k+1)=xs.take k++[xs.getD k cz]:=by
 rw[List.take_succ_eq_append_getElem h,List.getD,Qd h];rfl
theorem uP (m:aB) (p:Option Addr) (c:Nat) (w:World) (h1:m.path.length≤1000000000000) (h2:m.target.length≤1000000000000) (hN:Need w):
 Calls Tryz.prog 51 #[.agg (jB m p c)] w fun e w'=>e=.returned (.bool (!cf m))∧Below w.heap.size w w':=by
 obtain⟨W0,A⟩:∃W0,w.alloc (.cells (jB m p c) 48)=W0:=⟨_,rfl⟩
 have D:Below w.heap.size w W0:=by rw[←A];exact(Below.refl _ _).alloc (Qk _) _
 have B:=uM m p c W0 (by omega) (by omega) (hN.below D).Hy;obtain⟨r,I⟩:∃r,cf m=r:=⟨_,rfl⟩
 rw[I]at B⊢;have J:=Qh D;have G:=Qh A;have E:=Qh B;unfold jB at G E⊢;clear D A B I
 go_enter Tryz.func51,Tryz.ntmps51
 go_wp2_with fail
 rw[G.out];refine E.out.mono ?_;rintro e M ⟨rfl,H⟩;have L:=Qh (J.out.trans (H.mono J.out.size));clear H;go_wp2;go_ret;exact⟨rfl,L.out⟩
def XD (xs:List MP) (w:World) (e:Ending) (w':World):Prop:=∃k:Int,e=.returned (.int .i64 k)∧decide (0≤k)=!P5 xs∧Below w.heap.size w w'
theorem zn (p:Option Addr) (n c:Nat) (xs:List MP) (w:World) (h:jI w p n xs) (hn:n≤100000) (hF:Fit xs) (hN:Need w):
 Calls Tryz.prog 57 #[.slice p n c,.func (.func 51) #[] #[]] w (XD xs w):=by
 have X:=Qh h;have R:=Qh h.1;have W:=Qh hF;have Y:=Qh hN;clear h hF hN
 go_enter Tryz.func57,Tryz.ntmps57
 go_wp2_with fail
 go_loopw [5,8] (fun _ i wr=>∃(j:Nat),j≤n∧i=.int .i64 (j:Int)∧Hid (∀x∈xs.take j,cf x.m=true)∧Hid (Below w.heap.size w wr)) (fun _ i _=>n - (RowKit.intOf i).toNat)
 case atStart=>exact⟨0,Nat.zero_le _,rfl,Qh (by simp),Qh (Below.refl _ _)⟩
 case round=>
  obtain⟨j,l,rfl,hA,A⟩:=hrel
  by_cases U:j<n
  ·have J:j<xs.length:=by rw[R.out];exact U
   have I:=qS xs j J;have M:=Kt xs j J;have H:=W.out _ I;obtain⟨b,o,rfl,f,V,c0,c1,c2,c3,D,c5,c6,c7⟩:=(X.out.below A.out).cells U;obtain⟨y,hy⟩:∃y,xs.getD j cz=y:=⟨_,rfl⟩
   rw[hy]at M I H V c0 c1 c2 c3 D c5 c6 c7;rw[Nat.mul_comm]at c0 c1 c2 c3 D c5 c6 c7;have G:=uP y.m y.p y.c wr H.1 H.2 (Y.out.below A.out);unfold jB at G;obtain⟨r,N⟩:∃r,cf y.m=r:=⟨_,rfl⟩
   rw[N]at G;have Z:=Qh M;have T:=Qh N;have d:=Qh I;have O:=Qh G;have q:(j:Int)<(n:Int):=by omega
   clear M f hy G N I J H V
   cases r with
   |true=>
    go_wp2_with fail
    refine O.out.mono ?_;rintro e g ⟨rfl,B⟩;have L:=Qh (A.out.trans (B.mono A.out.size));clear B c0 c1 c2 c3 D c5 c6 c7;go_wp2;go_roundw
    case rel=>exact⟨j+1,by omega,by go_num,Qh (fun x hx=>by
     rw[Z.out,List.mem_append]at hx;rcases hx with hx|hx
     ·exact hA.out x hx
     ·rw[List.mem_singleton.1 hx];exact T.out),L⟩
    case measure=>simp[RowKit.intOf];omega
   |false=>
    go_wp2_with fail
    refine O.out.mono ?_;rintro e g ⟨rfl,B⟩;have L:=Qh (A.out.trans (B.mono A.out.size))
    have E:Hid (P5 xs=false):=Qh (by
     rw[Bool.eq_false_iff];intro h;have:=BW.1 h _ d.out;rw[T.out]at this
     cases this)
    clear B c0 c1 c2 c3 D c5 c6 c7;go_wp2;go_ret;exact⟨(j:Int),rfl,by rw[E.out];simp,L.out⟩
  ·have t:¬((j:Int)<(n:Int)):=by omega
   have E:Hid (P5 xs=true):=Qh (BW.2 (fun x hx=>hA.out x (by rw[List.take_of_length_le (by rw[R.out];omega)];exact hx)));go_wp2;go_ret;exact⟨-1,rfl,by rw[E.out];decide,A.out⟩
theorem qo (p:Option Addr) (n c:Nat) (xs:List MP) (w:World) (h:jI w p n xs) (hn:n≤100000) (hF:Fit xs) (hN:Need w):
 Calls Tryz.prog 50 #[.slice p n c,.func (.func 51) #[] #[]] w fun e w'=>e=.returned (.bool (!P5 xs))∧Below w.heap.size w w':=by
 have D:=Qh (zn p n c xs w h hn hF hN);clear h hF hN
 go_enter Tryz.func50,Tryz.ntmps50
 go_wp2_with fail
 refine D.out.mono ?_;rintro e E ⟨k,rfl,hk,A⟩;have B:=Qh A;clear A;go_wp2;go_ret;exact⟨by first|rw[hk]|rfl,B.out⟩
structure Et (w:World) (g:Nat) (xs:List MP) (j:Nat) (wr:World):Prop where
 AJ:∃v,Bi wr g w.heap.size v (jE ((xs.take j).map MP.m))
 bel:Below w.heap.size w wr
theorem Et.below {wr:World} {j:Nat} (h:Et w g xs j wr) (hb:Below wr.heap.size wr w'):Et w g xs j w':=by
 obtain⟨v,A⟩:=h.AJ;exact⟨⟨v,A.kept (Kept.bj hb ag) id (fun _ _=>id)⟩,h.bel.trans (hb.mono h.bel.size)⟩
theorem SB (p:Option Addr) (n c:Nat) (xs:List MP) (w:World) (h:jI w p n xs) (hn:n≤4096) (hA:∀x∈xs,cf x.m=true) (hN:Need w):
 Calls Tryz.prog 23 #[.slice p n c] w (Eu w (EC (xs.map MP.m))):=by
 have N:∀x∈xs,kS x.m:=fun x B=>qT (hA x B)
 have l:=qo p n c xs w h (by omega) (fun x B=>⟨by have:=(N x B).Fx;omega,by have:=(N x B).Ku;omega⟩) hN;rw[BW.2 hA]at l
 have hlen:∀j,(jE ((xs.take j).map MP.m)).length≤12288000000:=fun j=>by
  have:=Ax ((xs.take j).map MP.m) (fun m hm=>by
   obtain⟨x,B,rfl⟩:=List.mem_map.1 hm
   exact N x (List.mem_of_mem_take B))
  rw[Qi,Qg]at this;have h1:=h.1;omega
 have hm:¬(4096:Int)<(n:Int):=by omega
 have HC:=Qh l;have HM:=Qh h;have HL:=Qh h.1;have U:=Qh N;have ue:=Qh hlen;have HN:=Qh hN;clear h hA hN l N hlen
 go_enter Tryz.func23,Tryz.ntmps23
 go_wp2_with fail
 refine HC.out.mono ?_;rintro e G ⟨rfl,ch⟩;have t:=Qh ch;clear ch;go_wp2_with fail;obtain⟨w2,R⟩:∃w2,G.alloc (.cells #[.slice none 0 0] 105)=w2:=⟨_,rfl⟩
 have Bw:Bi w2 G.heap.size w.heap.size (.slice none 0 0) []:=by rw[←R];exact Wa G _
 have QO:Below G.heap.size G w2:=by rw[←R];exact(Below.refl _ _).alloc (Qk _) _
 have Ww:Hid (Et w G.heap.size xs 0 w2):=Qh ⟨⟨_,by simpa [jE]using Bw⟩,t.out.trans (QO.mono t.out.size)⟩;have u:Hid (w.heap.size≤G.heap.size):=Qh t.out.size;obtain⟨g,hg⟩:∃g,G.heap.size=g:=⟨_,rfl⟩
 rw[hg]at Ww u⊢;rw[R];clear Bw QO R hg
 go_loopw [6,15] (fun _ i wr=>∃(j:Nat),j≤n∧i=.int .i64 (j:Int)∧Hid (Et w g xs j wr)) (fun _ i _=>n - (RowKit.intOf i).toNat)
 case atStart=>exact⟨0,Nat.zero_le _,rfl,Ww⟩
 case round=>
  obtain⟨j,hj,rfl,L⟩:=hrel
  by_cases Z:j<n
  ·have X:j<xs.length:=by rw[HL.out];exact Z
   have H:=U.out _ (qS xs j X);have q:=xr xs j X;obtain⟨b,o,rfl,hb,xz,c0,c1,c2,c3,d,c5,c6,c7⟩:=(HM.out.below L.out.bel).cells Z
   have T:∀x,0<(xs.getD j cz).m.body.length→(xs.getD j cz).p=some x→x.block<w.heap.size:=fun x f B=>by
    obtain⟨b',o',he,pL,_⟩:=(HM.out.cells Z).choose_spec.choose_spec.2.2.1.nB.cell f;rw[B]at he
    cases he
    exact pL
   obtain⟨y,hy⟩:∃y,xs.getD j cz=y:=⟨_,rfl⟩
   rw[hy]at q H xz c0 c1 c2 c3 d c5 c6 c7 T;rw[Nat.mul_comm]at c0 c1 c2 c3 d c5 c6 c7;obtain⟨W,r⟩:∃W,wr.alloc (.cells #[.string (str y.m.path),.string (str y.m.target),.int .u8 (y.m.kind.toNat:Int),.int .i64 y.m.mode,.int .i64 y.m.uid,.int .i64 y.m.gid,.int .i64 y.m.time,.slice y.p y.m.body.length y.c] 48)=W:=⟨_,rfl⟩
   have J:Below wr.heap.size wr W:=by rw[←r];exact(Below.refl _ _).alloc (Qk _) _
   have A:=L.out.below J;obtain⟨v,E⟩:=A.AJ
   have I:=GY W g w.heap.size v _ E A.bel.size y.m y.p y.c H (xz.nB.below J) (fun f x B e=>by
    have h1:=T x f B;have h2:=(E.own.lt _ e).1
    omega) (by have:=ue.out j;omega) (HN.out.below A.bel)
   unfold jB at I;have Wz:=Qh I;have HT:=Qh q;have D:=Qh r;have M:=Qh A;have V:=Qh E;have qX:(j:Int)<(n:Int):=by omega
   clear q hb hy I X r J A E T xz H;go_upto_region 9 with fail;rw[D.out];have m0:W.cell? ⟨wr.heap.size,0,none⟩=some (.string (str y.m.path)):=by rw[←D.out];exact(au.new wr _ _).cell 0
   have m1:W.cell? ⟨wr.heap.size,1,none⟩=some (.string (str y.m.target)):=by rw[←D.out];exact(au.new wr _ _).cell 1
   have m2:W.cell? ⟨wr.heap.size,2,none⟩=some (.int .u8 (y.m.kind.toNat:Int)):=by rw[←D.out];exact(au.new wr _ _).cell 2
   have m3:W.cell? ⟨wr.heap.size,3,none⟩=some (.int .i64 y.m.mode):=by rw[←D.out];exact(au.new wr _ _).cell 3
   have m4:W.cell? ⟨wr.heap.size,4,none⟩=some (.int .i64 y.m.uid):=by rw[←D.out];exact(au.new wr _ _).cell 4
   have m5:W.cell? ⟨wr.heap.size,5,none⟩=some (.int .i64 y.m.gid):=by rw[←D.out];exact(au.new wr _ _).cell 5
   have m6:W.cell? ⟨wr.heap.size,6,none⟩=some (.int .i64 y.m.time):=by rw[←D.out];exact(au.new wr _ _).cell 6
   have m7:W.cell? ⟨wr.heap.size,7,none⟩=some (.slice y.p y.m.body.length y.c):=by rw[←D.out];exact(au.new wr _ _).cell 7
   go_wp2_with fail
   refine Wz.out.mono ?_;rintro e w3 ⟨v3,rfl,Cw,jC,Q1⟩
   have NS:Hid (Et w g xs (j+1) w3):=Qh ⟨⟨v3,by
    have e:jE ((xs.take (j+1)).map MP.m)=jE ((xs.take j).map MP.m)++rq y.m:=by
     rw[HT.out,J4,qA];simp[jE]
    rw[e]
    exact Cw⟩,M.out.bel.trans (jC.below M.out.bel.size (fun k hk=>by
     rcases hk with hk|hk
     ·rw[hk];exact u.out
     ·exact(V.out.own.lt _ hk).1))⟩
   clear Cw jC Q1 m0 m1 m2 m3 m4 m5 m6 m7 c0 c1 c2 c3 d c5 c6 c7;go_wp2;go_roundw
   case rel=>exact⟨j+1,by omega,by go_num,NS⟩
   case measure=>simp[RowKit.intOf];omega
  ·have uh:¬((j:Int)<(n:Int)):=by omega
   have e:xs.take j=xs:=List.take_of_length_le (by rw[HL.out];omega);obtain⟨v,E⟩:=L.out.AJ;have hl:=ue.out j;rw[e]at E hl;have HE:=Qh (Gr wr g w.heap.size v _ E L.out.bel.size (by omega));have V:=Qh E;have Te:=Qh hl;clear E hl e;go_wp2_with fail;refine HE.out.mono ?_;rintro e w4 ⟨v4,rfl,Y,tz,_⟩;rw[←xQ]at Y
   have z:Hid (Below w.heap.size w w4):=Qh (L.out.bel.trans (tz.below L.out.bel.size (fun k hk=>by
    rcases hk with hk|hk
    ·rw[hk];exact u.out
    ·exact(V.out.own.lt _ hk).1)))
   have HO:=Qh (YR w4 g w.heap.size v4 _ Y (by rw[xQ,Qf,List.length_replicate];have:=Te.out;omega));clear Y tz;go_wp2_with fail;refine HO.out.mono ?_;rintro e w5 ⟨v5,rfl,O,p7⟩;have KC:Hid (j3 w5 w.heap.size v5 (EC (xs.map MP.m)).length (EC (xs.map MP.m))∧Below w.heap.size w w5):=Qh ⟨O.mono z.out.size,z.out.trans (p7.below z.out.size (fun _ h=>h.elim))⟩;clear O p7;go_wp2;go_ret2;exact⟨v5,rfl,KC.out⟩
end Wr
namespace Attr
open Go.ChangeShapes Go.WideShapes Go.ChangeAt Go.RowKit Go.Shelf Base cb iK Rec Bk Go.Lib
attribute [local go_sem] Oper.semAt_some
abbrev ab9:=Nat × (List UInt8 × List UInt8)
def encI (x:ab9):Array Value:=#[.int .i64 (x.1:Int),.agg #[.string (str x.2.1),.string (str x.2.2)]]
def ju (rs:bW) (m:Nat):List ab9:=(List.range m).map fun t=>(rs.length - 1 - t,rs.getD (rs.length - 1 - t) ([],[]))
theorem IL (rs:bW) (m:Nat):ju rs (m+1)=ju rs m++[(rs.length - 1 - m,rs.getD (rs.length - 1 - m) ([],[]))]:=by simp[ju,List.range_succ]
theorem D0 (rs:bW) (m:Nat):(ju rs m).length=m:=by simp[ju]
theorem B2 (rs:bW):(ju rs rs.length).map (·.2)=rs.reverse:=by
 apply List.ext_getElem
 ·simp[ju]
 ·intro i h1 A
  have hi:i<rs.length:=by simpa using A
  simp[ju,List.getD,show rs.length - 1 - i<rs.length by omega]
theorem Lq (rs:bW) (m:Nat) (hm:m≤rs.length):ju rs m<+:ju rs rs.length:=by
 refine⟨(ju rs rs.length).drop m,?_⟩
 have:ju rs m=(ju rs rs.length).take m:=by
  simp[ju,←List.map_take,List.take_range,Nat.min_eq_left hm]
 rw[this,List.take_append_drop]
theorem XJ (F:Fence) (n:Nat) (hF:F=Fence.wide) (hn:1≤n) (l Bs n₀:Nat) (p:Option Addr) (c:Nat) (rs:bW) (Mg:rs.length≤4611686018427387904) (J Jx:List ab9→World→Prop)
 (hY:∀pre x W,J pre W→pre.length<rs.length→YieldAt F (n - 1) Tryz.prog l (encI x) W fun e W'=>
  (e=.returned (.bool true)∧J (pre++[x]) W'∧Below n₀ W W')∨(e=.returned (.bool false)∧Jx (pre++[x]) W'))
 (W:World) (hBn:Bs<n₀) (hBs:W.cell? ⟨Bs,0,none⟩=some (.slice p rs.length c))
 (hR:0<rs.length→∃b o,p=some ⟨b,o,none⟩∧b<n₀∧∀i,i<rs.length→W.cell? ⟨b,o+2*i,none⟩=some (.string (str (rs.getD i ([],[])).1))∧W.cell? ⟨b,o+2*i+1,none⟩=some (.string (str (rs.getD i ([],[])).2))) (h0:J [] W):
 CallsIn F n Tryz.prog 229 #[.func (.yield l) #[] #[],.pointer (some ⟨Bs,0,none⟩)] W fun e W'=>(∃v,e=.returned v)∧
  ((∃ys,ys=ju rs rs.length∧J ys W')∨(∃pre,pre<+:ju rs rs.length∧Jx pre W')):=by
 subst hF;obtain⟨N,hN⟩:∃N,rs.length=N:=⟨_,rfl⟩
 rw[hN]at hBs Mg;refine callsIn_of_wp Tryz.func229 rfl trivial ?_ rfl;simp only[Tryz.ntmps229,List.size_toArray,List.length_cons,List.length_nil,Nat.reduceAdd,Nat.reduceSub,Array.replicate_succ,Array.replicate_zero,List.push_toArray,List.append_toArray,List.nil_append,List.cons_append]
 gi_wp2
 gi_loopw [3] (fun i wr=>∃k:Nat,k≤N∧i=.int .i64 ((k:Int) - 1)∧J (ju rs (N - k)) wr∧Below n₀ W wr)
  (fun i _=>(RowKit.intOf i+1).toNat)
 case atStart=>exact⟨N,Qk _,rfl,by rw[Nat.sub_self];exact h0,Below.refl _ _⟩
 case round=>
  obtain⟨k,hk,rfl,A,B⟩:=hrel
  cases k with
  |zero=>
   have E:J (ju rs rs.length) wr:=by rw[hN];exact A
   clear A hY
   gi_wp2
   go_end0
   exact⟨⟨_,rfl⟩,.inl ⟨_,rfl,E⟩⟩
  |succ j=>
   rw[show(((j+1:Nat):Int) - 1)=(j:Int) by omega];obtain⟨b,o,rfl,M,hc⟩:=hR (by omega);obtain⟨c0,c1⟩:=hc j (by omega);have V:=(B.cell (p:=⟨Bs,0,none⟩) hBn).trans hBs;have d0:=(B.cell (p:=⟨b,o+2*j,none⟩) M).trans c0;have d1:=(B.cell (p:=⟨b,o+2*j+1,none⟩) M).trans c1;rw[Nat.mul_comm]at d0 d1;obtain⟨r,H⟩:∃r,rs.getD j ([],[])=r:=⟨_,rfl⟩
   rw[H]at d0 d1
   have hs:ju rs (N - j)=ju rs (N - (j+1))++[(j,r)]:=by
    have:N - j=N - (j+1)+1:=by omega
    rw[this,IL,show rs.length - 1 - (N - (j+1))=j by omega,H]
   obtain⟨fn,tmps,assign,body,hy,L⟩:=hY (ju rs (N - (j+1))) (j,r) wr A (by rw[D0];omega);simp only[encI]at hy;have T:=Qh hs;have I:=Lq rs (N - j) (by omega);have O:=Qh I;rw[←hs]at L;clear hs hY hR A c0 c1 hc I hBs H
   gi_wp2
   refine L.mono ?_;rintro e U (⟨rfl,G,R⟩|⟨rfl,D⟩)
   ·gi_wp2
    go_roundw
    case rel=>exact⟨j,by omega,rfl,G,B.trans R⟩
    case measure=>simp[RowKit.intOf]
   ·gi_wp2
    refine bodyPost_ret (results_none rfl _ _ _) rfl ?_;exact⟨⟨_,rfl⟩,.inr ⟨_,O.out,D⟩⟩
theorem Lr (n:Nat) (hn:1≤n) (Bs:Nat) (p:Option Addr) (c:Nat) (rs:bW) (Mg:rs.length≤4611686018427387904) (w:World) (hBn:Bs<w.heap.size) (hc:w.cell? ⟨Bs,0,none⟩=some (.slice p rs.length c)) (hR:bG w p rs.length rs):
 SeqStopsK Fence.wide n Tryz.prog 229 #[.pointer (some ⟨Bs,0,none⟩)] encI (Below w.heap.size) (fun ys=>ys=ju rs rs.length) (fun pre=>pre<+:ju rs rs.length) rs.length w:=fun l J E W B _ _ G A=>
 XJ Fence.wide n rfl hn l Bs w.heap.size p c rs Mg J E G W hBn ((B.cell (p:=⟨Bs,0,none⟩) hBn).trans hc)
  (fun A=>by
   obtain⟨b,o,H,D,hc⟩:=hR.2 A
   exact⟨b,o,H,D,fun i hi=>⟨(B.cell (p:=⟨b,o+2*i,none⟩) D).trans (hc i hi).1,(B.cell (p:=⟨b,o+2*i+1,none⟩) D).trans (hc i hi).2⟩⟩) A
theorem Gg (p:Option Addr) (n c:Nat) (w:World):
 Calls Tryz.prog 209 #[.slice p n c] w fun e w'=>e=.returned (.func (.func 229) #[] #[.pointer (some ⟨w.heap.size,0,none⟩)])∧w'=w.alloc (.cells #[.slice p n c] 64):=by
 go_enter Tryz.func209,Tryz.ntmps209
 go_wp2;go_ret;exact⟨rfl,rfl⟩
end Attr
namespace Attr
open Go.ChangeShapes Go.WideShapes Go.ChangeAt Go.RowKit Go.Shelf Base cb iK Rec Bk Go.Lib
attribute [local go_sem] Oper.semAt_some
def recC (k v:List UInt8):Array Value:=#[.string (str k),.string (str v)]
def yh (rs:bW) (k:List UInt8):Value:=match aD rs k with
 |some v=>.tuple #[.agg (recC k v),.bool true]
 |none=>.tuple #[.agg (recC [] []),.bool false]
theorem Q9 {rs pre:bW} {x:List UInt8 × List UInt8} {rest:bW} {k:List UInt8} (h:rs.reverse=pre++x::rest) (hp:∀r∈pre,r.1≠k) (hx:x.1=k):aD rs k=some x.2:=by
 have e:rs=rest.reverse++x::pre.reverse:=by
  have:=congrArg List.reverse h;rw[List.reverse_reverse,List.reverse_append,List.reverse_cons,List.append_assoc]at this;exact this
 rw[e,sF,aD,tC (rs:=pre.reverse) fun r A=>hp r (List.mem_reverse.1 A)];simp[hx]
theorem Pc (tmps:Array Value) (w:World) (b0 b1:Nat) (a b:ByteArray) (o:Bool) (h0:tmps[4]? =some (.pointer (some ⟨b0,0,none⟩))) (h1:tmps[5]? =some (.pointer (some ⟨b1,0,none⟩)))
 (c0:au w b0 121 #[.string a,.string b]) (c1:au w b1 4 #[.bool o]):
 (results Tryz.f182 tmps).run Tryz.prog w=.ok (.tuple #[.agg #[.string a,.string b],.bool o]) w:=by
 have d0:=c0.cell 0;have d1:=c0.cell 1;have d2:=c1.cell 0;simp at d0 d1 d2;simp[results,Tryz.f182,go_sem,h0,h1,d0,d1,d2]
theorem U3 (k:List UInt8) (p:Option Addr) (n c:Nat) (rs:bW) (w:World) (hn:n≤4611686018427387904) (h:bG w p n rs):
 Calls Tryz.prog 182 #[.string (str k),.slice p n c] w fun e w'=>e=.returned (yh rs k)∧Below w.heap.size w w':=by
 obtain rfl:rs.length=n:=h.1;have H:=Qh h;clear h;refine(callsIn_wide (n:=3)).1 ?_;refine callsIn_of_wp_marks Tryz.func182 rfl trivial ?_ rfl;simp only[Tryz.ntmps182,List.size_toArray,List.length_cons,List.length_nil,Nat.reduceAdd,Nat.reduceSub,Array.replicate_succ,Array.replicate_zero,List.push_toArray,List.append_toArray,List.nil_append,List.cons_append]
 gi_wp2_with fail
 refine⟨trivial,(callsIn_wide.2 (Gg _ _ _ _)).mono ?_⟩;rintro e w' ⟨rfl,rfl⟩
 gi_wp2_with fail
 have g:au _ w.heap.size 9 #[.string (str k)]:=(((au.new w 9 #[.string (str k)]).alloc (.cells #[.string ⟨#[]⟩,.string ⟨#[]⟩] 121)).alloc (.cells #[.bool false] 4)).alloc (.cells #[.slice p rs.length c] 64);have Z:=((au.new (w.alloc (.cells #[.string (str k)] 9)) 121 #[.string ⟨#[]⟩,.string ⟨#[]⟩]).alloc (.cells #[.bool false] 4)).alloc (.cells #[.slice p rs.length c] 64);have V:=(au.new ((w.alloc (.cells #[.string (str k)] 9)).alloc (.cells #[.string ⟨#[]⟩,.string ⟨#[]⟩] 121)) 4 #[.bool false]).alloc (.cells #[.slice p rs.length c] 64);have b:=au.new (((w.alloc (.cells #[.string (str k)] 9)).alloc (.cells #[.string ⟨#[]⟩,.string ⟨#[]⟩] 121)).alloc (.cells #[.bool false] 4)) 64 #[.slice p rs.length c]
 have o:Below w.heap.size w ((((w.alloc (.cells #[.string (str k)] 9)).alloc (.cells #[.string ⟨#[]⟩,.string ⟨#[]⟩] 121)).alloc (.cells #[.bool false] 4)).alloc (.cells #[.slice p rs.length c] 64)):=
  ((((Below.refl _ w).alloc (Qk _) _).alloc (by simp) _).alloc (by simp;omega) _).alloc (by simp;omega) _
 have m:((((w.alloc (.cells #[.string (str k)] 9)).alloc (.cells #[.string ⟨#[]⟩,.string ⟨#[]⟩] 121)).alloc (.cells #[.bool false] 4)).alloc (.cells #[.slice p rs.length c] 64)).heap.size=w.heap.size+4:=by simp
 simp only[World.size_alloc]at Z V b;obtain⟨W0,Ck⟩:∃W0,(((w.alloc (.cells #[.string (str k)] 9)).alloc (.cells #[.string ⟨#[]⟩,.string ⟨#[]⟩] 121)).alloc (.cells #[.bool false] 4)).alloc (.cells #[.slice p rs.length c] 64)=W0:=⟨_,rfl⟩
 rw[Ck]at g Z V b o m⊢;clear Ck;have u:=Qh m;have nG:=Qh o;have N:=H.out.below o
 refine wpIn_rangeFunc_ownH rfl (by omega) (gf:=229) (lb:=#[.pointer (some ⟨w.heap.size+1+1+1,0,none⟩)]) rfl trivial (enters_of Tryz.func229 (by kernel_rfl) rfl)
  (Lr _ (by omega) (w.heap.size+1+1+1) p c rs hn W0 (by omega) (b.cell 0) N) belowK_t (belowK_b (Qk _)) (Below.refl _ _) (fun _=>rfl)
  (fun pre W=>(au W w.heap.size 9 #[.string (str k)]∧au W (w.heap.size+1) 121 #[.string ⟨#[]⟩,.string ⟨#[]⟩]∧au W (w.heap.size+1+1) 4 #[.bool false]∧∀x∈pre,x.2.1≠k)∧Below W0.heap.size W0 W)
  (fun c pre W=>(c=.ret∧∃f x,pre=f++[x]∧(∀y∈f,y.2.1≠k)∧x.2.1=k∧au W (w.heap.size+1) 121 #[.string (str x.2.1),.string (str x.2.2)]∧au W (w.heap.size+1+1) 4 #[.bool true])∧Below w.heap.size w W)
  (OwnFrom.and (Own.from (fun s A B row hs R L=>⟨hs.1.kept R L,hs.2.1.kept R L,hs.2.2.1.kept R L,hs.2.2.2⟩) _) (ownFrom_below (Qk _) (Qk _)))
  (fun c=>OwnFrom.and (Own.from (fun s A B row hs R L=>by obtain⟨h0,f,x,h1,d,h3,h4,h5⟩:=hs;exact⟨h0,f,x,h1,d,h3,h4.kept R L,h5.kept R L⟩) _) (ownFrom_below (Qk _) (by omega)))
  ⟨⟨g,Z,V,by simp⟩,Below.refl _ _⟩
  (fun x a' W=>∃U,W0.heap.size≤U∧au W U 121 #[.string (str x.2.1),.string (str x.2.2)]∧a'={tmps:=#[.string (str k),.slice p rs.length c,.pointer (some ⟨w.heap.size,0,none⟩),undef,.pointer (some ⟨w.heap.size+1,0,none⟩),.pointer (some ⟨w.heap.size+1+1,0,none⟩),undef,.pointer (some ⟨U,0,none⟩),.slice p rs.length c,.func (.func 229) #[] #[.pointer (some ⟨w.heap.size+1+1+1,0,none⟩)],.int .i64 (x.1:Int),.agg #[.string (str x.2.1),.string (str x.2.2)],undef,undef,undef,undef,undef,undef],defers:=[]})
  (fun x a' _ X Y row hs R L=>by obtain⟨U,h1,d,h3⟩:=hs;exact⟨U,h1,d.kept R (fun r e=>(L r e).2),h3⟩)
  ?assign ?body ?done ?stop
 case assign=>
  rintro l pre x W K ⟨⟨b1,E,G,J⟩,I⟩ O;have hs:=I.size;have z:=Qh O;have M:=Qh (And.intro (And.intro b1 (And.intro E (And.intro G J))) I);clear O b1 E G J I;simp only[encI]
  gi_wp2
  obtain⟨⟨b1,E,G,J⟩,I⟩:=M.out;exact z.out _ _ ((KeepsOthers.alloc _ _).from _) ((Below.refl _ W).alloc hs _) ⟨⟨b1.alloc _,E.alloc _,G.alloc _,J⟩,I.alloc hs _⟩ ⟨W.heap.size,hs,au.new _ _ _,rfl⟩
 case body=>
  rintro l pre x a' W hl L ⟨⟨b1,E,G,J⟩,I⟩ ⟨U,hBx,q,rfl⟩ ay;have hs:=I.size;have c0:=b1.cell 0;have d0:=q.cell 0;have d1:=q.cell 1;simp only[Qc,Qa,Qb]at c0 d0 d1
  by_cases hk:x.2.1=k
  ·have e1:((str x.2.1).toList==(str k).toList)=true:=by rw[ak,ak];simpa using hk
   have f0:=E.frozen 0;have f1:=E.frozen 1;have r0:=E.cell 0;have r1:=E.cell 1;have f2:=G.frozen 0;have r2:=G.cell 0;simp only[Qc,Qa,Qb]at r0 r1 r2;have M:=Qh (And.intro (And.intro b1 (And.intro E (And.intro G J))) I);have T:=Qh hk;clear hk b1 E G J I q N g Z V b o
   gi_wp2
   obtain⟨⟨b1,E,G,J⟩,I⟩:=M.out;have Uf:Below w.heap.size w W:=nG.out.trans (I.mono (by have:=u.out;omega))
   exact⟨(((KeepsOthers.setCell _ _ _).trans (KeepsOthers.setCell _ _ _)).trans (KeepsOthers.setCell _ _ _)).from _,
    ⟨rfl,pre,x,rfl,J,T.out,((E.set 0 _ (by decide)).set 1 _ (by simp)).other (by omega) _,((G.other (by omega) _).other (by omega) _).set 0 _ (by decide)⟩,
    ((Uf.setCell (p:=⟨w.heap.size+1,0,none⟩) (by simp) _).setCell (p:=⟨w.heap.size+1,1,none⟩) (by simp) _).setCell (p:=⟨w.heap.size+1+1,0,none⟩) (by simp;omega) _⟩
  ·have e1:((str x.2.1).toList==(str k).toList)=false:=by rw[ak,ak];simpa using hk
   have M:=Qh (And.intro (And.intro b1 (And.intro E (And.intro G J))) I);have T:=Qh hk;clear hk b1 E G J I q N g Z V b o
   gi_wp2
   obtain⟨⟨b1,E,G,J⟩,I⟩:=M.out
   exact⟨KeepsFrom.refl _ _,Below.refl _ _,⟨b1,E,G,fun y hy=>by
    rcases List.mem_append.1 hy with hy|hy
    ·exact J y hy
    ·rw[List.mem_singleton.1 hy];exact T.out⟩,I⟩
 case done=>
  rintro D ys W hD rfl ⟨⟨b1,E,G,J⟩,I⟩ O;have f0:=E.frozen 0;have f1:=E.frozen 1;have r0:=E.cell 0;have r1:=E.cell 1;have f2:=G.frozen 0;have r2:=G.cell 0;simp only[Qc,Qa,Qb]at r0 r1 r2;have M:=Qh (And.intro (And.intro b1 (And.intro E (And.intro G J))) I);have T:=Qh O;clear O b1 E G J I N g Z V b
  gi_wp2
  obtain⟨⟨b1,E,G,J⟩,I⟩:=M.out;have Uf:Below w.heap.size w W:=nG.out.trans (I.mono (by have:=u.out;omega));have hK':=(((KeepsOthers.setCell W ⟨w.heap.size+1,0,none⟩ (.string ⟨#[]⟩)).trans (KeepsOthers.setCell _ ⟨w.heap.size+1,1,none⟩ (.string ⟨#[]⟩))).trans (KeepsOthers.setCell _ ⟨w.heap.size+1+1,0,none⟩ (.bool false))).same D _ T.out rfl;refine⟨by simp,.inl ⟨_,_,rfl,run_takeDeferred hK',?_⟩⟩;have k0:=(((E.set 0 (.string ⟨#[]⟩) (by decide)).set 1 (.string ⟨#[]⟩) (by decide)).other (b':=w.heap.size+1+1) (i:=0) (by omega) (.bool false)).kept (grownBy_putObj' _ D (.deferred none)) (fun r e=>by cases e;exact⟨_,hK',rfl⟩);have k1:=(((G.other (b':=w.heap.size+1) (i:=0) (by omega) (.string ⟨#[]⟩)).other (b':=w.heap.size+1) (i:=1) (by omega) (.string ⟨#[]⟩)).set 0 (.bool false) (by decide)).kept (grownBy_putObj' _ D (.deferred none)) (fun r e=>by cases e;exact⟨_,hK',rfl⟩)
  have hv:yh rs k=.tuple #[.agg #[.string ⟨#[]⟩,.string ⟨#[]⟩],.bool false]:=by
   unfold yh;rw[tC fun r L=>?_]
   ·rfl
   ·have:r∈(ju rs rs.length).map (·.2):=by rw[B2];exact List.mem_reverse.2 L
    obtain⟨y,hy,rfl⟩:=List.mem_map.1 this;exact J y hy
  rw[hv]
  exact⟨_,Pc _ _ (w.heap.size+1) (w.heap.size+1+1) ⟨#[]⟩ ⟨#[]⟩ false rfl rfl k0 k1,rfl,
   (((Uf.setCell (p:=⟨w.heap.size+1,0,none⟩) (by simp) _).setCell (p:=⟨w.heap.size+1,1,none⟩) (by simp) _).setCell (p:=⟨w.heap.size+1+1,0,none⟩) (by simp;omega) _).trans (belowK_b (w:=w) (Qk _) _ D _ _ (by have:=u.out;omega) hK' rfl rfl)⟩
 case stop=>
  rintro D c pre W hD af5 ⟨⟨rfl,f,x,rfl,h1,d,E,G⟩,t⟩ O;have M:=Qh (And.intro E (And.intro G t));have T:=Qh O;clear E G t O
  gi_wp2
  obtain⟨E,G,t⟩:=M.out;have hK':=T.out;refine⟨by simp,.inl ⟨_,_,rfl,run_takeDeferred hK',?_⟩⟩;have k0:=E.kept (grownBy_putObj' _ D (.deferred none)) (fun r e=>by cases e;exact⟨_,hK',rfl⟩);have k1:=G.kept (grownBy_putObj' _ D (.deferred none)) (fun r e=>by cases e;exact⟨_,hK',rfl⟩)
  have hv:yh rs k=.tuple #[.agg #[.string (str x.2.1),.string (str x.2.2)],.bool true]:=by
   obtain⟨rest,uH⟩:=af5;have e:=B2 rs;rw[←uH,List.map_append,List.map_append,List.map_singleton,List.append_assoc,List.singleton_append]at e;unfold yh;rw[Q9 e.symm (fun r L=>by obtain⟨y,hy,rfl⟩:=List.mem_map.1 L;exact h1 y hy) d,←d];rfl
  rw[hv];exact⟨_,Pc _ _ (w.heap.size+1) (w.heap.size+1+1) _ _ true rfl rfl k0 k1,rfl,t.trans (belowK_b (w:=w) (Qk _) _ D _ _ (by have:=u.out;omega) hK' rfl rfl)⟩
end Attr
namespace Attr
open Go.ChangeShapes Go.WideShapes Go.ChangeAt Go.RowKit Go.Shelf Base cb iK Rec Bk Mk Go.Lib
variable {S:Nat→Prop} {rs:bW}
abbrev BN:=List UInt8→Option (List UInt8)
def Kd (F:BN):List UInt8→Option Value:=fun k=>(F k).map fun v=>.agg (recC k v)
def St (w:World) (g:Nat) (mb:Option Nat) (F:BN):Prop:=
 au w g 128 #[.map mb]∧(mb=none→F=yr)∧∀B,mb=some B→jj p8 w B (Kd F)
def Zr (w:World) (p:Option Addr) (F:BN):Prop:=(p=none∧F=yr)∨∃g mb,p=some ⟨g,0,none⟩∧St w g mb F
def Em (g:Nat) (mb:Option Nat):Nat→Prop:=fun k=>k=g∨mb=some k
section
variable {w w':World} {g:Nat} {mb:Option Nat} {F:BN} {p:Option Addr}
theorem St.lt (h:St w g mb F):g<w.heap.size:=h.1.lt
theorem St.j1 (h:St w g mb F) (hB:mb=some B):B<w.heap.size:=(h.2.2 B hB).lt
theorem St.kept (h:St w g mb F) (hk:Kept S w w') (hn:∀k,Em g mb k→¬S k):St w' g mb F:=
 ⟨h.1.iH hk (hn g (.inl rfl)),h.2.1,fun B A=>(h.2.2 B A).kept hk (hn B (.inr A))⟩
theorem St.below (h:St w g mb F) (hb:Below w.heap.size w w'):St w' g mb F:=h.kept (Kept.bj hb ag) (fun _ _=>id)
theorem Zr.below (h:Zr w p F) (hb:Below w.heap.size w w'):Zr w' p F:=h.imp id fun⟨g,mb,hp,hs⟩=>⟨g,mb,hp,hs.below hb⟩
theorem St.new (w:World):St (w.alloc (.cells #[.map none] 128)) w.heap.size none yr:=⟨au.new w _ _,fun _=>rfl,fun _ h=>by cases h⟩
theorem St.ptr (h:St w g mb F):Zr w (some ⟨g,0,none⟩) F:=.inr ⟨g,mb,rfl,h⟩
theorem Zr.nil (w:World):Zr w none yr:=.inl ⟨rfl,rfl⟩
theorem yE {p:Option Addr} (h:St w g mb F) (hr:bG w p n rs) (h0:0<n) {a:Addr} (ha:p=some a):¬Em g mb a.block:=by
 obtain⟨b,o,rfl,A,hc⟩:=hr.2 h0
 cases ha
 have c0:=(hc 0 h0).1;rintro(e|e)
 ·subst e
  rw[h.1.cell]at c0;rcases Nat.eq_zero_or_pos o with rfl|ho
  ·simp at c0
  ·rw[Array.getElem?_eq_none (by simp;omega)]at c0;cases c0
 ·obtain⟨es,clock,hm,_⟩:=h.2.2 _ e
  simp[World.cell?,hm]at c0
theorem jQ {p:Option Addr} (hr:bG w p n rs) (hk:Kept S w w') (hn:0<n→∀a,p=some a→¬S a.block):bG w' p n rs:=by
 refine⟨hr.1,fun A=>?_⟩;obtain⟨b,o,rfl,B,hc⟩:=hr.2 A;have e:=hk.block b B (hn A _ rfl);exact⟨b,o,rfl,Nat.lt_of_lt_of_le B hk.size,fun i hi=>⟨by rw[World.cell?_of_block e];exact(hc i hi).1,by rw[World.cell?_of_block e];exact(hc i hi).2⟩⟩
theorem Pa (w:World):(zeroValue 121).run Tryz.prog w=.ok (.agg #[.string ⟨#[]⟩,.string ⟨#[]⟩]) w:=Tryz.zeroValue121 w
theorem VT (w:World) (a b:ByteArray):(Instr.field 121 (.agg #[.string a,.string b]) 1).run Tryz.prog w=.ok (.string b) w:=by
 kernel_rfl
theorem Y6 (h:St w g mb F) (k:List UInt8):
 ∃x:ByteArray,(Instr.lookup 126 (.map mb) (.string (str k)) false).run Tryz.prog w=.ok (.agg #[.string x,.string (str ((F k).getD []))]) w:=by
 cases mb with
 |none=>
  refine⟨⟨#[]⟩,?_⟩;rw[h.2.1 rfl];exact look_nil (K:=p8) Tryz.underlying126 Tryz.underlying9 Pa k w
 |some B=>
  have hl:=(h.2.2 B rfl).look Tryz.underlying126 Tryz.underlying9 Pa k
  cases hf:F k with
  |none=>
   refine⟨⟨#[]⟩,?_⟩;rw[show Kd F k=none by unfold Kd;rw[hf];rfl]at hl;exact hl
  |some v=>
   refine⟨str k,?_⟩;rw[show Kd F k=some (.agg (recC k v)) by unfold Kd;rw[hf];rfl]at hl;exact hl
end
theorem SA (s:Option Addr) (F:BN) (k:List UInt8) (p:Option Addr) (n c:Nat) (rs:bW) (w:World) (hs:Zr w s F) (hn:n≤4611686018427387904) (h:bG w p n rs):
 Calls Tryz.prog 144 #[.pointer s,.string (str k),.slice p n c] w fun e w'=>e=.returned (.string (str (jw F rs k)))∧Below w.heap.size w w':=by
 have hl:=U3 k p n c rs w hn h;have I:=Qh hs;clear hs h hn;unfold jw
 cases D:aD rs k with
 |some v=>
  rw[show yh rs k=.tuple #[.agg #[.string (str k),.string (str v)],.bool true] by unfold yh;rw[D];rfl]at hl;clear D
  go_enter Tryz.func144,Tryz.ntmps144
  go_wp2_with fail
  refine hl.mono ?_;rintro e G ⟨rfl,A⟩;have B:=Qh A;clear A hl;go_wp2;go_ret;exact⟨rfl,B.out.alloc B.out.size _⟩
 |none=>
  rw[show yh rs k=.tuple #[.agg #[.string ⟨#[]⟩,.string ⟨#[]⟩],.bool false] by unfold yh;rw[D];rfl]at hl;clear D;rcases I.out with⟨rfl,rfl⟩|⟨g,mb,rfl,jY⟩
  ·go_enter Tryz.func144,Tryz.ntmps144
   go_wp2_with fail
   refine hl.mono ?_;rintro e G ⟨rfl,A⟩;have B:=Qh A;clear A hl;go_wp2;go_ret;exact⟨rfl,B.out.alloc B.out.size _⟩
  ·have H:=Qh jY
   clear jY
   go_enter Tryz.func144,Tryz.ntmps144
   go_wp2_with fail
   refine hl.mono ?_;rintro e G ⟨rfl,A⟩;have E:=H.out.below (A.alloc A.size (.cells #[.string ⟨#[]⟩,.string ⟨#[]⟩] 121));obtain⟨a,J⟩:=Y6 E k;have c0:=E.1.cell 0;simp only[Qc,Qa]at c0;have B:=Qh A;have L:=fun w=>VT w a (str ((F k).getD []))
   clear A hl E;go_wp2;go_ret;exact⟨rfl,B.out.alloc B.out.size _⟩
def xF (w:World) (g:Nat) (mb:Option Nat) (F:BN) (rs:bW) (e:Ending) (w':World):Prop:=
 e=.returned (.tuple #[])∧∃B,St w' g (some B) (oO F rs)∧Kept (Em g mb) w w'∧(mb=some B∨w.heap.size≤B)
theorem FC (F:BN) (rs:bW) (k v:List UInt8):(fun y=>if y=k then some (Value.agg (recC k v))else Kd (oO F rs) y)=Kd (oO F (rs++[(k,v)])):=by
 funext y
 rw[MK];unfold Kd
 by_cases h:y=k
 ·subst h;simp
 ·simp[h]
theorem take_one (rs:bW) (j:Nat) (hj:j<rs.length):rs.take (j+1)=rs.take j++[rs.getD j ([],[])]:=by
 rw[List.take_add_one];simp[List.getD,hj]
theorem St.ne {w:World} {g:Nat} {F:BN} (h:St w g (some B) F):¬aA B g:=fun e=>by
 obtain⟨es,clock,hm,_⟩:=h.2.2 B rfl;have e:g=B:=e;have h1:=h.1;unfold au at h1;rw[e,hm]at h1
 cases h1
theorem LX (g B:Nat) (F:BN) (p:Option Addr) (n c:Nat) (rs:bW) (w:World) (hs:St w g (some B) F) (hn:n≤4611686018427387904) (h:bG w p n rs):
 Calls Tryz.prog 111 #[.pointer (some ⟨g,0,none⟩),.slice p n c] w (xF w g (some B) F rs):=by
 have m:=Qh hs;have l:=Qh h;have T:=Qh h.1;have c0:=hs.1.cell 0;simp only[Qc,Qa]at c0;have d:Hid (∀wr,Kept (Em g (some B)) w wr→Kept (Em g (some B)) w wr):=Qh (fun _ h=>h);have xG:Hid (some B=some B∨w.heap.size≤B):=Qh (.inl rfl);clear hs h;have V:=fun w=>run_eql_map_nil (P:=Tryz.prog) w 126 _ _ (some B) Tryz.underlying126
 simp only[Option.isNone_some]at V
 go_enter Tryz.func111,Tryz.ntmps111
 go_wp2_with fail
 clear c0 V
 go_loopw [19] (fun i wr=>∃(j:Nat),j≤n∧i=.int .i64 (j:Int)∧Hid (St wr g (some B) (oO F (rs.take j))∧bG wr p n rs∧Kept (Em g (some B)) w wr)) (fun i _=>n - (RowKit.intOf i).toNat)
 case atStart=>exact⟨0,Nat.zero_le _,rfl,Qh ⟨by rw[List.take_zero,Fh];exact m.out,l.out,Kept.refl _ _⟩⟩
 case round=>
  obtain⟨j,hj,rfl,A⟩:=hrel
  by_cases W:j<n
  ·obtain⟨E,G,hk⟩:=A.out
   have t:(j:Int)<(n:Int):=by omega
   obtain⟨b,o,rfl,r,hc⟩:=G.2 (by omega);obtain⟨x0,O⟩:=hc j W;obtain⟨⟨D,H⟩,M⟩:∃u,rs.getD j ([],[])=u:=⟨_,rfl⟩
   rw[M,Nat.mul_comm]at x0 O;simp only at x0 O;have I:=E.below ((Below.refl _ wr).alloc (Qk _) (.cells #[.string (str D),.string (str H)] 121));have U:=G.below ((Below.refl _ wr).alloc (Qk _) (.cells #[.string (str D),.string (str H)] 121));have X:=hk.alloc (.cells #[.string (str D),.string (str H)] 121);have d0:=I.1.cell 0;simp only[Qc,Qa]at d0;obtain⟨y,z⟩:=wY wr 121 (.string (str D)) (.string (str H));have J:=Qh (And.intro I (And.intro U X));have L:=Qh M;clear E G hk r hc M I U X A;go_wp2_with fail;obtain⟨w4,Z⟩:∃w4,wr.alloc (.cells #[.string (str D),.string (str H)] 121)=w4:=⟨_,rfl⟩
   rw[Z]at d0 J y z⊢;clear Z x0 O
   go_still_tail 7,(by kernel_rfl)
   refine jA (K:=p8) rfl (.tmp 26) (.tmp 28) (.tmp 29) rfl Tryz.underlying126 Tryz.underlying9 B ((J.out.1.2.2 B rfl).kept (Kept.refl ag w4).drew id) rfl D rfl (.agg (recC D H)) rfl ?_;intro w5 R Y yM
   have f:Hid (St w5 g (some B) (oO F (rs.take (j+1)))∧bG w5 (some ⟨b,o,none⟩) n rs∧Kept (Em g (some B)) w w5):=by
    obtain⟨E,G,hk⟩:=J.out;have N:Kept (aA B) w4 w5:=((Kept.refl (aA B) w4).drew).trans Y.out;refine Qh ⟨⟨E.1.iH N E.ne,(fun h=>by cases h),fun B' h=>?_⟩,jQ G N (fun q a ha e=>yE E G q ha (.inr (by rw[show a.block=B from e]))),hk.then N (fun i hi=>.inr (.inr (by rw[show i=B from hi])))⟩
    cases h
    rw[take_one rs j (by rw[T.out];exact W),L.out,←FC];exact R.out
   clear R Y yM;go_wp2;go_roundw
   case rel=>exact⟨j+1,by omega,by go_num,f⟩
   case measure=>simp[RowKit.intOf];omega
  ·obtain rfl:j=n:=by omega
   have t:¬((j:Int)<(j:Int)):=by omega
   go_wp2
   go_end0
   have A:=A.out;rw[List.take_of_length_le (by rw[T.out];exact Qk _)]at A;exact⟨rfl,B,A.1,d.out _ A.2.2,by first|exact xG.out|exact .inl rfl⟩
theorem I9 (g:Nat) (p:Option Addr) (n c:Nat) (rs:bW) (w:World) (hs:St w g none yr) (hn:n≤4611686018427387904) (h:bG w p n rs):
 Calls Tryz.prog 111 #[.pointer (some ⟨g,0,none⟩),.slice p n c] w (xF w g none yr rs):=by
 have c0:=hs.1.cell 0;simp only[Qc,Qa]at c0;have f0:=hs.1.frozen 0;have f1:=(hs.1.alloc (.map #[] 0)).frozen 0;have c1:=(hs.1.alloc (.map #[] 0)).cell 0;simp only[Qc,Qa]at c1;have SU:=@run_makeMap Tryz.prog;have r:=fun w=>run_eql_map_nil (P:=Tryz.prog) w 126 _ _ none Tryz.underlying126
 simp only[Option.isNone_none]at r;have X7:g<w.heap.size:=hs.lt;obtain⟨F,hF⟩:∃F,F=yr:=⟨_,rfl⟩
 have R:Kept (Em g none) w ((w.alloc (.map #[] 0)).setCell ⟨g,0,none⟩ (.map (some w.heap.size))):=((Kept.refl (Em g none) w).alloc _).setCell (a:=⟨g,0,none⟩) (.inr (.inl rfl)) _;have m:=jQ h R (fun T a ha=>yE hs h T ha)
 have J:St ((w.alloc (.map #[] 0)).setCell ⟨g,0,none⟩ (.map (some w.heap.size))) g (some w.heap.size) F:=by
  refine⟨(hs.1.alloc (.map #[] 0)).set 0 _ (by decide),(fun h=>by cases h),fun B' I=>?_⟩
  cases I
  have hm:=(qG p8 w).kept (((Kept.refl (aA g) (w.alloc (.map #[] 0)))).setCell (a:=⟨g,0,none⟩) (.inr rfl) (.map (some w.heap.size))) (fun e=>by have:w.heap.size=g:=e;omega);rw[hF];exact hm
 have Z:Hid (∀wr,Kept (Em g (some w.heap.size)) ((w.alloc (.map #[] 0)).setCell ⟨g,0,none⟩ (.map (some w.heap.size))) wr→Kept (Em g none) w wr):=Qh (fun wr h=>R.then h (fun i hi=>by
  rcases hi with hi|hi
  ·exact .inr (.inl hi)
  ·cases hi;exact .inl (Qk _)))
 have X:Hid ((none:Option Nat)=some w.heap.size∨w.heap.size≤w.heap.size):=Qh (.inr (Qk _));have d:=Qh h.1;have l:=Qh J;have f:=Qh m;rw[←hF];clear J m R h hs X7 hF
 go_enter Tryz.func111,Tryz.ntmps111
 go_wp2_with fail
 obtain⟨W0,L⟩:∃W0,(w.alloc (.map #[] 0)).setCell ⟨g,0,none⟩ (.map (some w.heap.size))=W0:=⟨_,rfl⟩
 obtain⟨B,I⟩:∃B,w.heap.size=B:=⟨_,rfl⟩
 rw[L,I]at l Z;rw[L]at f⊢;rw[I];clear X;have X:Hid ((none:Option Nat)=some B∨w.heap.size≤B):=Qh (.inr (by omega));clear c0 f0 c1 f1 r SU L I
 go_loopw [19] (fun i wr=>∃(j:Nat),j≤n∧i=.int .i64 (j:Int)∧Hid (St wr g (some B) (oO F (rs.take j))∧bG wr p n rs∧Kept (Em g (some B)) W0 wr)) (fun i _=>n - (RowKit.intOf i).toNat)
 case atStart=>exact⟨0,Nat.zero_le _,rfl,Qh ⟨by rw[List.take_zero,Fh];exact l.out,f.out,Kept.refl _ _⟩⟩
 case round=>
  obtain⟨j,hj,rfl,A⟩:=hrel
  by_cases t:j<n
  ·obtain⟨E,G,hk⟩:=A.out
   have qX:(j:Int)<(n:Int):=by omega
   obtain⟨b,o,rfl,hb,hc⟩:=G.2 (by omega);obtain⟨x0,W⟩:=hc j t;obtain⟨⟨D,H⟩,U⟩:∃u,rs.getD j ([],[])=u:=⟨_,rfl⟩
   rw[U,Nat.mul_comm]at x0 W;simp only at x0 W;have M:=E.below ((Below.refl _ wr).alloc (Qk _) (.cells #[.string (str D),.string (str H)] 121));have q:=G.below ((Below.refl _ wr).alloc (Qk _) (.cells #[.string (str D),.string (str H)] 121));have y:=hk.alloc (.cells #[.string (str D),.string (str H)] 121);have d0:=M.1.cell 0;simp only[Qc,Qa]at d0;obtain⟨r0,r1⟩:=wY wr 121 (.string (str D)) (.string (str H));have N:=Qh (And.intro M (And.intro q y));have O:=Qh U;clear E G hk hb hc U M q y A;go_wp2_with fail;obtain⟨w4,xh⟩:∃w4,wr.alloc (.cells #[.string (str D),.string (str H)] 121)=w4:=⟨_,rfl⟩
   rw[xh]at d0 N r0 r1⊢;clear xh x0 W
   go_still_tail 7,(by kernel_rfl)
   refine jA (K:=p8) rfl (.tmp 26) (.tmp 28) (.tmp 29) rfl Tryz.underlying126 Tryz.underlying9 B ((N.out.1.2.2 B rfl).kept (Kept.refl ag w4).drew id) rfl D rfl (.agg (recC D H)) rfl ?_;intro w5 Y z yM
   have HN:Hid (St w5 g (some B) (oO F (rs.take (j+1)))∧bG w5 (some ⟨b,o,none⟩) n rs∧Kept (Em g (some B)) W0 w5):=by
    obtain⟨E,G,hk⟩:=N.out;have V:Kept (aA B) w4 w5:=((Kept.refl (aA B) w4).drew).trans z.out;refine Qh ⟨⟨E.1.iH V E.ne,(fun h=>by cases h),fun B' h=>?_⟩,jQ G V (fun T a ha e=>yE E G T ha (.inr (by rw[show a.block=B from e]))),hk.then V (fun i hi=>.inr (.inr (by rw[show i=B from hi])))⟩
    cases h
    rw[take_one rs j (by rw[d.out];exact t),O.out,←FC];exact Y.out
   clear Y z yM;go_wp2;go_roundw
   case rel=>exact⟨j+1,by omega,by go_num,HN⟩
   case measure=>simp[RowKit.intOf];omega
  ·obtain rfl:j=n:=by omega
   have qX:¬((j:Int)<(j:Int)):=by omega
   go_wp2
   go_end0
   have A:=A.out;rw[List.take_of_length_le (by rw[d.out];exact Qk _)]at A;exact⟨rfl,B,A.1,Z.out _ A.2.2,by first|exact X.out|exact .inl rfl⟩
theorem LW (g:Nat) (mb:Option Nat) (F:BN) (p:Option Addr) (n c:Nat) (rs:bW) (w:World) (hs:St w g mb F) (hn:n≤4611686018427387904) (h:bG w p n rs):
 Calls Tryz.prog 111 #[.pointer (some ⟨g,0,none⟩),.slice p n c] w (xF w g mb F rs):=by
 cases mb with
 |some B=>exact LX g B F p n c rs w hs hn h
 |none=>
  obtain rfl:=hs.2.1 rfl;exact I9 g p n c rs w hs hn h
end Attr
end Go.Proofs.YtdhibldkldlfpaaGreatDoor
