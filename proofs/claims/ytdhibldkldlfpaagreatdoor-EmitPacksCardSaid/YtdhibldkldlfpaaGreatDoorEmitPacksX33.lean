/- Merged. -/
import Derived.RangeFuncNested
import Derived.RangeFuncBound
import Derived.Shelf.Abstract
import Derived.Shelf.RegionOpen
import Derived.WalkKit
import Derived.OwnWalkIn
import Derived.LoopNIn
import Derived.LoopIn
import Derived.Test.YtdhibldkldlfpaaGreatDoorEmitPacksX32
import Derived.Test.YtdhibldkldlfpaaGreatDoorEmitPacksX23
import Derived.Test.YtdhibldkldlfpaaGreatDoorEmitPacksX28
namespace Go.Proofs.YtdhibldkldlfpaaGreatDoor
set_option linter.unusedVariables false
set_option maxHeartbeats 16000000
set_option maxRecDepth 100000
variable {M:Array Value} {B g i k n:Nat} {W w W' w':World}
namespace Path
open Go.ChangeShapes Go.WideShapes Go.ChangeAt Go.RowKit Go.Shelf Base cf cN Go.Lib rr
attribute [local go_sem] Oper.semAt_some
theorem qa {β:Type} {B:Nat} {J:β→World→Prop} (h:AbidesFrom B J) {s:β} {w:World} (hs:J s w) (n:Nat):J s (w.drewN n):=
 match n with
 |0=>hs
 |n+1=>h s (w.drewN n) _ none (qa h hs n) ⟨rfl,rfl,rfl,Qk _,fun _ _ _=>rfl⟩ (fun r e=>by cases e)
def IJ (m:Bool) (l:List UInt8):List (List UInt8):=if m then aF l else[]
theorem O2 (l:List UInt8):IJ true l=(oV l).1::IJ (oV l).2.2 (oV l).2.1:=by
 unfold IJ oV;rw[if_pos rfl];obtain⟨h1,A⟩:=za l
 by_cases h:0≤Lib.indexByte l 47
 ·rw[if_pos h,h1 h]
  simp
 ·rw[if_neg h,A h]
  simp
theorem ND (l:List UInt8):(oV l).2.1.length+(if(oV l).2.2 then 1 else 0)<l.length+1:=by
 unfold oV
 by_cases h:0≤Lib.indexByte l 47
 ·rw[if_pos h]
  obtain⟨k,hk⟩:∃k:Nat,Lib.indexByte l 47=k:=⟨(Lib.indexByte l 47).toNat,by omega⟩
  have A:=(List.getElem?_eq_some_iff.1 (Lib.indexByte_some hk).1).1;simp only[Qe,hk,Int.toNat_natCast,if_true];omega
 ·rw[if_neg h]
  simp
def Uf (r m:Value):Nat:=(match r with|.string s=>s.size|_=>0)+(match m with|.bool true=>1|_=>0)
abbrev Part:={x:List UInt8 // x.length≤140737488351232}
theorem Ly (l:List UInt8):∀p∈aF l,p.length≤l.length:=by
 induction l with
 |nil=>simp[aF]
 |cons b l ih=>
  unfold aF
  by_cases A:b=47
  ·rw[if_pos A]
   intro p hp;rcases List.mem_cons.1 hp with rfl|hp
   ·simp
   ·have:=ih p hp;rw[List.length_cons];omega
  ·rw[if_neg A]
   cases B:aF l with
   |nil=>exact absurd B (wI l)
   |cons q qs=>
    rw[B]at ih;intro p hp;rcases List.mem_cons.1 hp with rfl|hp
    ·have:=ih q (by simp)
     simp only[List.headD_cons,List.length_cons];omega
    ·have:=ih p (List.mem_cons_of_mem _ hp);rw[List.length_cons];omega
theorem GY (s:List UInt8) (hm:s.length≤140737488351232):∃ps:List Part,ps.map (·.1)=aF s:=by
 refine⟨(aF s).attachWith _ (fun p A=>Nat.le_trans (Ly s p A) hm),?_⟩;simp
theorem WA (F:Fence) (n:Nat) (hF:F=Fence.wide) (hn:1≤n) (l Bn:Nat) (s:List UInt8) (hm:s.length≤140737488351232) (ps:List Part) (Ag:ps.map (·.1)=aF s) (J Jx:List Part→World→Prop) (B:Nat) (hJ:AbidesFrom B J)
 (hY:∀pre x W,J pre W→pre.length<ps.length→YieldAt F (n - 1) Tryz.prog l #[.string (str x.1)] W fun e W'=>
  (e=.returned (.bool true)∧J (pre++[x]) W'∧True)∨(e=.returned (.bool false)∧Jx (pre++[x]) W'))
 (W:World) (Vo:W.cell? ⟨Bn,0,none⟩=some (.string (str s))) (h0:J [] W):
 CallsIn F n Tryz.prog 187 #[.func (.yield l) #[] #[],.pointer (some ⟨Bn,0,none⟩)] W fun e W'=>(∃v,e=.returned v)∧
  ((∃ys,ys=ps∧J ys W')∨(∃pre,pre<+:ps∧Jx pre W')):=by
 subst hF;refine callsIn_of_wp Tryz.func187 rfl trivial ?_ rfl;simp only[Tryz.ntmps187,List.size_toArray,List.length_cons,List.length_nil,Nat.reduceAdd,Nat.reduceSub,Array.replicate_succ,Array.replicate_zero,List.push_toArray,List.append_toArray,List.nil_append,List.cons_append]
 gi_wp2
 gi_loopw [3,4] (fun r m wr=>∃(pre D:List Part) (rest:List UInt8) (b:Bool),r=.string (str rest)∧m=.bool b∧Hid (ps=pre++D∧D.map (·.1)=IJ b rest)∧rest.length≤140737488351232∧J pre wr)
  (fun r m wr=>Uf r m)
 case atStart=>exact⟨[],ps,s,true,rfl,rfl,⟨rfl,Ag⟩,hm,h0⟩
 case round=>
  obtain⟨pre,D,rest,b,rfl,rfl,R,f,V⟩:=hrel
  cases b with
  |false=>
   gi_wp2
   go_end0
   exact⟨⟨_,rfl⟩,.inl ⟨pre,by obtain⟨h1,M⟩:=R.out;obtain rfl:D=[]:=List.map_eq_nil_iff.1 M;simp[h1],V⟩⟩
  |true=>
   obtain⟨I,A⟩:=R.out;rw[O2]at A
   obtain⟨x,XJ,T⟩:∃x XJ,D=x::XJ:=by
    cases D with
    |nil=>simp at A
    |cons x XJ=>exact⟨x,XJ,rfl⟩
   rw[T,List.map_cons,List.cons.injEq]at A;have hc:=zP rest wr f;have hl:=ND rest;have E:(str rest).size=rest.length:=ak rest;obtain⟨p,O⟩:∃p:List UInt8,p=x.1:=⟨_,rfl⟩
   obtain⟨q,H⟩:∃q,q=(oV rest).2.1:=⟨_,rfl⟩
   obtain⟨b,G⟩:∃b,b=(oV rest).2.2:=⟨_,rfl⟩
   rw[←A.1,←O,←H,←G]at hc;rw[←H,←G]at A;rw[T]at I;rw[←H,←G]at hl;have L:=Qh (And.intro I A.2);have U:=Qh hl;have Y:=Qh E
   have X:∀k,YieldAt Fence.wide (n - 1) Tryz.prog l #[.string (str x.1)] (wr.drewN k) fun e W'=>
    (e=.returned (.bool true)∧J (pre++[x]) W'∧True)∨(e=.returned (.bool false)∧Jx (pre++[x]) W'):=
    fun k=>hY pre x _ (qa hJ V k) (by rw[I];simp)
   rw[←O]at X;clear O H G I A hl E R T hY
   gi_wp2_with (refine⟨trivial,?_⟩;gi_at_call 141;refine(callsIn_wide.2 hc).mono ?_;rintro e w' ⟨rfl,k,rfl⟩;obtain⟨fn,tmps,assign,body,hy,d⟩:=X k)
   refine d.mono ?_;rintro e g (⟨rfl,N,-⟩|⟨rfl,Z⟩)
   ·gi_wp2
    go_roundw
    case rel=>exact⟨pre++[x],XJ,q,b,rfl,rfl,⟨by rw[L.out.1];simp,L.out.2⟩,by have:=U.out;omega,N⟩
    case measure=>
     have h1:=U.out;have M:=Y.out;have c:(str q).size=q.length:=ak q
     cases b<;>simp[Uf,M,c]at h1⊢<;>omega
   ·gi_wp2
    refine bodyPost_ret (results_none rfl _ _ _) rfl ?_;exact⟨⟨_,rfl⟩,.inr ⟨pre++[x],by rw[L.out.1];exact⟨XJ,by simp⟩,Z⟩⟩
theorem Md (n:Nat) (hn:1≤n) (Bn:Nat) (s:List UInt8) (hm:s.length≤140737488351232) (ps:List Part) (Ag:ps.map (·.1)=aF s) (w:World) (Vo:Bn<w.heap.size) (hc:w.cell? ⟨Bn,0,none⟩=some (.string (str s))):
 SeqStopsK Fence.wide n Tryz.prog 187 #[.pointer (some ⟨Bn,0,none⟩)] (fun x:Part=>#[Value.string (str x.1)]) (fun _ _=>True) (fun ys=>ys=ps) (fun pre=>pre<+:ps) ps.length w:=fun l J A W E D _ G B=>
 WA Fence.wide n rfl hn l Bn s hm ps Ag J A _ D G W ((E.cell (p:=⟨Bn,0,none⟩) Vo).trans hc) B
theorem Lw (s:List UInt8) (w:World):
 Calls Tryz.prog 150 #[.string (str s)] w fun e w'=>e=.returned (.func (.func 187) #[] #[.pointer (some ⟨w.heap.size,0,none⟩)])∧w'=w.alloc (.cells #[.string (str s)] 9):=by
 go_enter Tryz.func150,Tryz.ntmps150
 go_wp2;go_ret;exact⟨rfl,rfl⟩
end Path
namespace Path
open Go.ChangeShapes Go.WideShapes Go.ChangeAt Go.RowKit Go.Shelf Base cf cN Go.Lib rr
variable {b:Nat} {v:Value}
attribute [local go_sem] Oper.semAt_some
theorem Ik (a b:List (List UInt8)):∀c,ue c (a++b)=(ue c a).bind fun d=>ue d b:=by
 induction a with
 |nil=>intro c;rfl
 |cons p a ih=>
  intro c;rw[List.cons_append,ue,ue];split
  ·rfl
  ·exact ih _
theorem NU (pre:List (List UInt8)) (p c d:List UInt8) (h:ue c pre=some d):ue c (pre++[p])=if p=[46,46]∨200<(cg d p).length then none else some (cg d p):=by
 rw[Ik,h,Option.bind_some];unfold ue;split<;>rfl
theorem Vl (ps:List (List UInt8)):∀c d,c.length≤200→ue c ps=some d→d.length≤200:=by
 induction ps with
 |nil=>intro c d hc h;cases h;exact hc
 |cons p ps ih=>
  intro c d hc h;unfold ue at h;split at h
  ·cases h
  ·next A=>exact ih _ _ (by rcases Nat.lt_or_ge 200 (cg c p).length with h'|h';exact absurd (.inr h') A;exact h') h
theorem NT (a b:List (List UInt8)) (h:ue [] a=none):ue [] (a++b)=none:=by rw[Ik,h];rfl
theorem vB (l:List UInt8):Lib.hasPrefix l [47]=decide (l.head? =some 47):=by
 cases l with
 |nil=>simp[Lib.hasPrefix]
 |cons b t=>
  by_cases h:b=47
  ·subst h;simp[Lib.hasPrefix]
  ·have A:¬(47:UInt8)=b:=fun e=>h e.symm
   simp[Lib.hasPrefix,List.isPrefixOf,h,A]
def Cell (W:World) (b:Nat) (v:Value):Prop:=W.cell? ⟨b,0,none⟩=some v∧W.frozen? ⟨b,0,none⟩=false
theorem Cell.kept (h:Cell W b v) {row:Option Nat} (hg:W.grownBy W' row) (hr:∀r,row=some r→∃o:Obj,W.heap[r]? =some o∧o.isCells=false):Cell W' b v:=
 ⟨cell_kept h.1 hg hr,(frozen_kept h.1 hg hr).trans h.2⟩
theorem Cell.below (h:Cell W b v) (hb:Below n W W') (hn:b<n):Cell W' b v:=
 ⟨(hb.cell (p:=⟨b,0,none⟩) hn).trans h.1,(hb.frozen (p:=⟨b,0,none⟩) hn).trans h.2⟩
theorem Cell.new (W:World) (v:Value) (t:TypeId):Cell (W.alloc (.cells #[v] t)) W.heap.size v:=by
 have h:=World.alloc_heap_new W (.cells #[v] t);unfold Cell World.cell? World.frozen?;rw[h];exact⟨rfl,rfl⟩
theorem Cell.alloc (h:Cell W b v) (o:Obj):Cell (W.alloc o) b v:=h.kept (World.grownBy_alloc W o none) (fun r e=>by cases e)
theorem Cell.set (h:Cell W b v) (u:Value):Cell (W.setCell ⟨b,0,none⟩ u) b u:=
 ⟨World.cell?_setCell_same' _ _ _ (by rw[h.1];rfl),by rw[World.frozen?_setCell];exact h.2⟩
theorem Cell.other {b':Nat} (h:Cell W b v) (u:Value) (cX:b'≠b):Cell (W.setCell ⟨b',0,none⟩ u) b v:=
 ⟨(World.cell?_setCell_other _ _ _ _ (fun e=>cX (congrArg Addr.block e))).trans h.1,by rw[World.frozen?_setCell];exact h.2⟩
def cZ (P:Int) (l:List UInt8):List UInt8 × Int:=
 if l.head? =some 47 then([],P)else match ue [] (aF l)with|none=>([],P)|some a=>if a=[]then([],P)else(a,0)
theorem E6 (T P:Int) (l:List UInt8):bU T P l=if aZ l=false then([],T)else cZ P l:=Kb T P l
theorem lL (W:World) (tm:Array Value) (b0 b1:Nat) (s:ByteArray) (e:Int) (h0:tm[2]? =some (.pointer (some ⟨b0,0,none⟩))) (h1:tm[3]? =some (.pointer (some ⟨b1,0,none⟩)))
 (c0:Cell W b0 (.string s)) (c1:Cell W b1 (.int .i64 e)):(results Tryz.f116 tm).run Tryz.prog W=.ok (.tuple #[.string s,.int .i64 e]) W:=by
 obtain⟨A,B⟩:=c0;obtain⟨RG,D⟩:=c1;simp[results,Tryz.f116,go_sem,h0,h1,A,RG]
theorem yq (l:List UInt8) (w:World) (hm:l.length≤140737488351232) (hT:Tabs w):
 Calls Tryz.prog 116 #[.string (str l)] w fun e w'=>e=.returned (.tuple #[.string (str (bU 9 6 l).1),.int .i64 (bU 9 6 l).2])∧Below w.heap.size w w':=by
 have hR:=fun w hT=>zi l w hm hT
 have hP:=fun w=>Any.strings_HasPrefix Tryz.FQ (str l) ⟨#[47]⟩ w
 rw[E6];simp only[aU,vB]at hP;refine(callsIn_wide (n:=3)).1 ?_;refine callsIn_of_wp_marks Tryz.func116 rfl trivial ?_ rfl;simp only[Tryz.ntmps116,List.size_toArray,List.length_cons,List.length_nil,Nat.reduceAdd,Nat.reduceSub,Array.replicate_succ,Array.replicate_zero,List.push_toArray,List.append_toArray,List.nil_append,List.cons_append];have rf:Below w.heap.size w ((w.alloc (.cells #[.string ⟨#[]⟩] 9)).alloc (.cells #[.int .i64 0] 27)):=((Below.refl _ _).alloc (Qk _) _).alloc (by simp) _;have R:=hT.below rf;have c0:Cell ((w.alloc (.cells #[.string ⟨#[]⟩] 9)).alloc (.cells #[.int .i64 0] 27)) w.heap.size (.string ⟨#[]⟩):=(Cell.new w _ _).alloc _
 have c1:Cell ((w.alloc (.cells #[.string ⟨#[]⟩] 9)).alloc (.cells #[.int .i64 0] 27)) (w.heap.size+1) (.int .i64 0):=by
  have:=Cell.new (w.alloc (.cells #[.string ⟨#[]⟩] 9)) (.int .i64 0) 27
  rwa [World.size_alloc]at this
 have HC:=Qh (And.intro c0 c1);have HB:=Qh rf;clear c0 c1 rf hT
 cases ht:aZ l with
 |false=>
  rw[if_pos rfl];have V:=hR _ R;rw[ht]at V
  gi_wp2_with fail
  refine⟨trivial,(callsIn_wide.2 V).mono ?_⟩;rintro e w1 ⟨rfl,J⟩;simp only[World.size_alloc]at J;obtain⟨X,Y⟩:=HC.out.1.below J (by omega);obtain⟨d10,d11⟩:=HC.out.2.below J (by omega);have u:=Qh (HB.out.trans (J.mono (by omega)));clear J V R hR hP
  gi_wp2_with fail
  refine⟨_,lL _ _ w.heap.size (w.heap.size+1) ⟨#[]⟩ 9 rfl rfl (((show Cell w1 w.heap.size _ from⟨X,Y⟩).set _).other _ (by omega)) (((show Cell w1 (w.heap.size+1) _ from⟨d10,d11⟩).other _ (by omega)).set _),rfl,?_⟩;exact(u.out.setCell (p:=⟨w.heap.size,0,none⟩) (Qk _) _).setCell (p:=⟨w.heap.size+1,0,none⟩) (by simp) _
 |true=>
  rw[if_neg (by simp)];have V:=hR _ R;rw[ht]at V;obtain⟨G,H⟩:∃G,cZ 6 l=G:=⟨_,rfl⟩
  rw[H];unfold cZ at H;have HG:=Qh H;clear H
  gi_wp2_with fail
  refine⟨trivial,(callsIn_wide.2 V).mono ?_⟩;rintro e w1 ⟨rfl,J⟩;simp only[World.size_alloc]at J;have d0:=HC.out.1.below J (by omega);have d1:=HC.out.2.below J (by omega);have oT:Hid (w.heap.size+2≤w1.heap.size):=Qh (by have:=J.size;rw[World.size_alloc,World.size_alloc]at this;omega);have u:=Qh (HB.out.trans (J.mono (by omega)));clear J V R hR;have O:=hP w1;clear hP
  by_cases m:l.head? =some 47
  ·obtain rfl:([],6)=G:=by rw[←HG.out,if_pos m]
   rw[decide_eq_true m]at O;clear m;obtain⟨X,Y⟩:=d0;obtain⟨d10,d11⟩:=d1
   gi_wp2_with fail
   refine⟨trivial,(callsIn_wide.2 O).mono ?_⟩;rintro e w' ⟨rfl,rfl⟩
   gi_wp2_with fail
   refine⟨_,lL _ _ w.heap.size (w.heap.size+1) ⟨#[]⟩ 6 rfl rfl (((show Cell w' w.heap.size _ from⟨X,Y⟩).set _).other _ (by omega)) (((show Cell w' (w.heap.size+1) _ from⟨d10,d11⟩).other _ (by omega)).set _),rfl,?_⟩;exact(u.out.setCell (p:=⟨w.heap.size,0,none⟩) (Qk _) _).setCell (p:=⟨w.heap.size+1,0,none⟩) (by simp) _
  ·have H:=HG.out
   rw[if_neg m]at H;rw[decide_eq_false m]at O;have eh:=Qh H;clear m HG H;have HD:=Qh (And.intro d0 d1);clear d0 d1
   gi_wp2_with fail
   refine⟨trivial,(callsIn_wide.2 O).mono ?_⟩;rintro e w' ⟨rfl,rfl⟩
   gi_wp2_with fail
   have bT:Hid (Below w.heap.size w ((w'.alloc (.cells #[.string ⟨#[]⟩] 9)).alloc (.cells #[.string (str l)] 9))):=
    Qh ((u.out.alloc (by have:=oT.out;omega) _).alloc (by have:=oT.out;rw[World.size_alloc];omega) _)
   have HX:=Qh (((Cell.new w' (.string ⟨#[]⟩) 9)).alloc (.cells #[.string (str l)] 9));have HY:=Qh (And.intro ((HD.out.1.alloc (.cells #[.string ⟨#[]⟩] 9)).alloc (.cells #[.string (str l)] 9)) ((HD.out.2.alloc (.cells #[.string ⟨#[]⟩] 9)).alloc (.cells #[.string (str l)] 9)));have HZ:=Qh (Cell.new (w'.alloc (.cells #[.string ⟨#[]⟩] 9)) (.string (str l)) 9);clear u HD HC;obtain⟨ps,Ag⟩:=GY l hm;refine⟨trivial,(callsIn_wide.2 (Lw l _)).mono ?_⟩;rintro e w2 ⟨rfl,rfl⟩
   gi_wp2_with fail
   obtain⟨n1,Bh⟩:∃n1,w'.heap.size=n1:=⟨_,rfl⟩
   obtain⟨W0,vw⟩:∃W0,(w'.alloc (.cells #[.string ⟨#[]⟩] 9)).alloc (.cells #[.string (str l)] 9)=W0:=⟨_,rfl⟩
   have M:Hid (W0.heap.size=n1+2∧w.heap.size+2≤n1):=Qh (by rw[←vw,World.size_alloc,World.size_alloc];exact⟨by omega,by have:=oT.out;omega⟩);rw[vw]at bT HX HY HZ⊢;rw[World.size_alloc]at HZ;rw[Bh]at HX HZ⊢;clear vw oT Bh HB
   refine wpIn_rangeFunc_ownF rfl (by omega) (gf:=187) (lb:=#[.pointer (some ⟨n1+1,0,none⟩)]) rfl trivial (enters_of Tryz.func187 (by kernel_rfl) rfl)
    (Md _ (by omega) (n1+1) l hm ps Ag W0 (by rw[M.out.1];omega) HZ.out.1) (fun _ _=>trivial) (fun _ _ _ _ _ _ _ _=>trivial) (Below.refl _ _) (fun _=>rfl)
    (fun pre W=>(∃c,ue [] (pre.map (·.1))=some c∧Cell W n1 (.string (str c))∧Cell W w.heap.size (.string ⟨#[]⟩)∧Cell W (w.heap.size+1) (.int .i64 0))∧Below w.heap.size w W)
    (fun c pre W=>(c=.ret∧ue [] (pre.map (·.1))=none∧Cell W w.heap.size (.string ⟨#[]⟩)∧Cell W (w.heap.size+1) (.int .i64 6))∧Below w.heap.size w W)
    (OwnFrom.and (Own.from (fun s A B row hs I q=>by obtain⟨c,h1,o,h3,h4⟩:=hs;exact⟨c,h1,o.kept I q,h3.kept I q,h4.kept I q⟩) _) (ownFrom_below (Qk _) (by rw[M.out.1];have:=M.out.2;omega)))
    (fun c=>OwnFrom.and (Own.from (fun s A B row hs I q=>⟨hs.1,hs.2.1,hs.2.2.1.kept I q,hs.2.2.2.kept I q⟩) _) (ownFrom_below (Qk _) (by rw[M.out.1];have:=M.out.2;omega)))
    ⟨⟨[],rfl,HX.out,HY.out.1,HY.out.2⟩,bT.out⟩
    (fun x=>{tmps:=#[.string (str l),undef,.pointer (some ⟨w.heap.size,0,none⟩),.pointer (some ⟨w.heap.size+1,0,none⟩),.pointer (some ⟨n1,0,none⟩),.string (str x.1),.string (str l),.bool true,.bool false,.string (str l),.bool false,.string (str l),.func (.func 187) #[] #[.pointer (some ⟨n1+1,0,none⟩)],.string (str x.1),undef,undef,undef,undef,undef,undef,undef,undef,undef,undef,undef,undef,undef],defers:=[]}) ?assign ?body ?done ?stop
   case assign=>
    intro l x W K T
    gi_wp2
    exact T
   case body=>
    rintro l' pre x W ⟨⟨c,I,c0,c1,c2⟩,L⟩ _;have hc:=Vl _ _ _ (by simp) I;have hj:=OO c x.1 W (by have:=x.2;omega);have hs:=NU _ x.1 _ _ I;obtain⟨d,hd⟩:∃d,cg c x.1=d:=⟨_,rfl⟩
    rw[hd]at hj hs;have e0:=(c0.set (.string (str d)))
    have e1:=(c1.other (.string (str d)) (show n1≠_ by have:=M.out.2;omega))
    have e2:=(c2.other (.string (str d)) (show n1≠_ by have:=M.out.2;omega))
    have cF:=L.setCell (p:=⟨n1,0,none⟩) (show w.heap.size≤n1 by have:=M.out.2;omega) (.string (str d));have E:=Qh (And.intro e1 (And.intro e2 cF));have f:((str d).size:Int)=d.length:=by rw[ak]
    obtain⟨f0,f1⟩:=c0;have HP:=Qh hd
    by_cases g:x.1=[46,46]
    ·have b1:((str x.1).toList==[46,46])=true:=by rw[jq];simpa using g
     rw[if_pos (.inl g)]at hs;have U:ue [] ((pre++[x]).map (·.1))=none:=by rw[List.map_append];exact hs
     have t:=Qh U;clear hs U g hd I hc e1 e2 c1 c2 L cF f
     gi_wp2_with fail
     refine⟨trivial,(CallsIn.inRound l' (callsIn_wide.2 hj)).mono ?_⟩;rintro e w3 ⟨rfl,rfl⟩;obtain⟨y,z⟩:=e0;obtain⟨Z,b⟩:=E.out.1;obtain⟨g10,g11⟩:=E.out.2.1
     gi_wp2
     exact⟨((KeepsOthers.setCell _ _ _).trans (KeepsOthers.setCell _ _ _)).trans (KeepsOthers.setCell _ _ _),⟨rfl,t.out,(E.out.1.set _).other _ (by omega),(E.out.2.1.other _ (by omega)).set _⟩,(E.out.2.2.setCell (p:=⟨w.heap.size,0,none⟩) (Qk _) _).setCell (p:=⟨w.heap.size+1,0,none⟩) (by simp) _⟩
    ·have b1:((str x.1).toList==[46,46])=false:=by rw[jq];simpa using g
     obtain⟨n,hn⟩:∃n,(str d).size=n:=⟨_,rfl⟩
     by_cases o:200<d.length
     ·have b2:(200:Int)<(n:Int):=by omega
      rw[if_pos (.inr o)]at hs;have U:ue [] ((pre++[x]).map (·.1))=none:=by rw[List.map_append];exact hs
      have t:=Qh U;clear hs U g hd I hc e1 e2 c1 c2 L cF f o
      gi_wp2_with fail
      refine⟨trivial,(CallsIn.inRound l' (callsIn_wide.2 hj)).mono ?_⟩;rintro e w3 ⟨rfl,rfl⟩;obtain⟨y,z⟩:=e0;obtain⟨Z,b⟩:=E.out.1;obtain⟨g10,g11⟩:=E.out.2.1
      gi_wp2
      exact⟨((KeepsOthers.setCell _ _ _).trans (KeepsOthers.setCell _ _ _)).trans (KeepsOthers.setCell _ _ _),⟨rfl,t.out,(E.out.1.set _).other _ (by omega),(E.out.2.1.other _ (by omega)).set _⟩,(E.out.2.2.setCell (p:=⟨w.heap.size,0,none⟩) (Qk _) _).setCell (p:=⟨w.heap.size+1,0,none⟩) (by simp) _⟩
     ·have b2:¬(200:Int)<(n:Int):=by omega
      rw[if_neg (fun h=>h.elim g o)]at hs;have U:ue [] ((pre++[x]).map (·.1))=some d:=by rw[List.map_append];exact hs
      have t:=Qh U;clear hs U g hd I hc e1 e2 c1 c2 L cF f o
      gi_wp2_with fail
      refine⟨trivial,(CallsIn.inRound l' (callsIn_wide.2 hj)).mono ?_⟩;rintro e w3 ⟨rfl,rfl⟩;obtain⟨y,z⟩:=id e0;obtain⟨Z,b⟩:=E.out.1;obtain⟨g10,g11⟩:=E.out.2.1
      gi_wp2
      exact⟨KeepsOthers.setCell _ _ _,trivial,⟨d,t.out,e0,E.out.1,E.out.2.1⟩,E.out.2.2⟩
   case done=>
    rintro D ys W hD rfl ⟨⟨c,I,c0,c1,c2⟩,L⟩ T;rw[Ag]at I;have H:=eh.out;rw[I]at H;simp only at H;have N:w.heap.size≤D:=by have:=M.out;omega
    obtain⟨f0,f1⟩:=id c0;obtain⟨Z,b⟩:=id c1;obtain⟨g10,g11⟩:=id c2;have E:=Qh (And.intro c1 (And.intro c2 L));have HK:=Qh T
    by_cases hc:c=[]
    ·have b1:(str c).toList.isEmpty=true:=by rw[bk];simpa using hc
     obtain rfl:([],6)=G:=by rw[←H,if_pos hc]
     clear H hc I eh c0 c1 c2 L T
     gi_wp2
     have hK':=((KeepsOthers.setCell W ⟨w.heap.size,0,none⟩ (.string ⟨#[]⟩)).trans (KeepsOthers.setCell _ ⟨w.heap.size+1,0,none⟩ (.int .i64 6))).same D _ HK.out rfl;refine⟨by simp,.inl ⟨_,_,rfl,run_takeDeferred hK',?_⟩⟩;have k0:=((E.out.1.set (.string ⟨#[]⟩)).other (.int .i64 6) (show w.heap.size+1≠_ by omega)).kept (grownBy_putObj' _ D (.deferred none)) (fun r e=>by cases e;exact⟨_,hK',rfl⟩);have k1:=((E.out.2.1.other (.string ⟨#[]⟩) (show w.heap.size≠_ by omega)).set (.int .i64 6)).kept (grownBy_putObj' _ D (.deferred none)) (fun r e=>by cases e;exact⟨_,hK',rfl⟩);exact⟨_,lL _ _ w.heap.size (w.heap.size+1) ⟨#[]⟩ 6 rfl rfl k0 k1,rfl,((E.out.2.2.setCell (p:=⟨w.heap.size,0,none⟩) (Qk _) _).setCell (p:=⟨w.heap.size+1,0,none⟩) (by simp) _).trans (belowK_b (w:=w) (Qk _) _ D _ _ N hK' rfl rfl)⟩
    ·have b1:(str c).toList.isEmpty=false:=by rw[bk];simpa using hc
     obtain rfl:(c,0)=G:=by rw[←H,if_neg hc]
     clear H hc I eh c0 c1 c2 L T
     gi_wp2
     have hK':=((KeepsOthers.setCell W ⟨w.heap.size,0,none⟩ (.string (str c))).trans (KeepsOthers.setCell _ ⟨w.heap.size+1,0,none⟩ (.int .i64 0))).same D _ HK.out rfl;refine⟨by simp,.inl ⟨_,_,rfl,run_takeDeferred hK',?_⟩⟩;have k0:=((E.out.1.set (.string (str c))).other (.int .i64 0) (show w.heap.size+1≠_ by omega)).kept (grownBy_putObj' _ D (.deferred none)) (fun r e=>by cases e;exact⟨_,hK',rfl⟩);have k1:=((E.out.2.1.other (.string (str c)) (show w.heap.size≠_ by omega)).set (.int .i64 0)).kept (grownBy_putObj' _ D (.deferred none)) (fun r e=>by cases e;exact⟨_,hK',rfl⟩);exact⟨_,lL _ _ w.heap.size (w.heap.size+1) (str c) 0 rfl rfl k0 k1,rfl,((E.out.2.2.setCell (p:=⟨w.heap.size,0,none⟩) (Qk _) _).setCell (p:=⟨w.heap.size+1,0,none⟩) (by simp) _).trans (belowK_b (w:=w) (Qk _) _ D _ _ N hK' rfl rfl)⟩
   case stop=>
    rintro D c pre W hD V0 ⟨⟨rfl,hn,c1,c2⟩,L⟩ T;have H:=eh.out;obtain⟨tl,yK⟩:=V0;rw[←Ag,←yK,List.map_append,NT _ _ hn]at H;obtain rfl:([],6)=G:=H;have N:w.heap.size≤D:=by have:=M.out;omega
    have E:=Qh (And.intro c1 (And.intro c2 L));have HK:=Qh T;clear yK hn eh c1 c2 L T
    gi_wp2
    have hK':=HK.out;refine⟨by simp,.inl ⟨_,_,rfl,run_takeDeferred hK',?_⟩⟩;have k0:=E.out.1.kept (grownBy_putObj' _ D (.deferred none)) (fun r e=>by cases e;exact⟨_,hK',rfl⟩);have k1:=E.out.2.1.kept (grownBy_putObj' _ D (.deferred none)) (fun r e=>by cases e;exact⟨_,hK',rfl⟩);exact⟨_,lL _ _ w.heap.size (w.heap.size+1) ⟨#[]⟩ 6 rfl rfl k0 k1,rfl,E.out.2.2.trans (belowK_b (w:=w) (Qk _) _ D _ _ N hK' rfl rfl)⟩
end Path
namespace Mem
open Go.ChangeShapes Go.WideShapes Go.ChangeAt Go.RowKit Base cf cN Bk Hp Head rr Path Go.Lib
theorem km (k:UInt8) (n:Nat) (hn:n<256):((k.toNat:Int)=(n:Int))↔k=UInt8.ofNat n:=by
 constructor
 ·intro h
  apply UInt8.toNat.inj;rw[UInt8.toNat_ofNat'];omega
 ·rintro rfl
  rw[UInt8.toNat_ofNat'];omega
theorem jS (k:UInt8) (w:World):
 Calls Tryz.prog 79 #[.int .u8 (k.toNat:Int)] w fun e w'=>e=.returned (.bool (gO k))∧w=w':=by
 have I:=k.toNat_lt;have B:(k.toNat:Int)=48↔k=48:=km k 48 (by decide);have D:(k.toNat:Int)=49↔k=49:=km k 49 (by decide);have E:(k.toNat:Int)=50↔k=50:=km k 50 (by decide);have G:(k.toNat:Int)=53↔k=53:=km k 53 (by decide);obtain⟨r,A⟩:∃r,gO k=r:=⟨_,rfl⟩
 rw[A];unfold gO at A;obtain⟨x,H⟩:∃x:Int,x=(k.toNat:Int):=⟨_,rfl⟩
 rw[←H]at B D E G⊢
 by_cases J:x=48
 ·obtain rfl:r=true:=by rw[←A];simp[B.1 J]
  clear B D E G A H I;subst J
  go_enter Tryz.func79,Tryz.ntmps79
  go_wp2;go_ret;exact⟨rfl,rfl⟩
 ·by_cases h1:x=49
  ·obtain rfl:r=true:=by rw[←A];simp[D.1 h1]
   clear B D E G A H I;subst h1
   go_enter Tryz.func79,Tryz.ntmps79
   go_wp2;go_ret;exact⟨rfl,rfl⟩
  ·by_cases L:x=50
   ·obtain rfl:r=true:=by rw[←A];simp[E.1 L]
    clear B D E G A H I;subst L
    go_enter Tryz.func79,Tryz.ntmps79
    go_wp2;go_ret;exact⟨rfl,rfl⟩
   ·by_cases M:x=53
    ·obtain rfl:r=true:=by rw[←A];simp[G.1 M]
     clear B D E G A H I;subst M
     go_enter Tryz.func79,Tryz.ntmps79
     go_wp2;go_ret;exact⟨rfl,rfl⟩
    ·obtain rfl:r=false:=by
      rw[←A];have a0:¬k=48:=fun h=>J (B.2 h)
      have N:¬k=49:=fun h=>h1 (D.2 h)
      have a2:¬k=50:=fun h=>L (E.2 h)
      have a3:¬k=53:=fun h=>M (G.2 h)
      simp[a0,N,a2,a3]
     clear B D E G A H I
     go_enter Tryz.func79,Tryz.ntmps79
     go_wp2;go_ret;exact⟨rfl,rfl⟩
theorem P2 (k:UInt8) (n:Int) (w:World):
 Calls Tryz.prog 119 #[.int .u8 (k.toNat:Int),.int .i64 n] w fun e w'=>e=.returned (.int .i64 (qY k n))∧w=w':=by
 have G:=k.toNat_lt;have B:(k.toNat:Int)=48↔k=48:=km k 48 (by decide);obtain⟨r,A⟩:∃r,qY k n=r:=⟨_,rfl⟩
 rw[A];unfold qY at A;obtain⟨x,E⟩:∃x:Int,x=(k.toNat:Int):=⟨_,rfl⟩
 rw[←E]at B⊢
 by_cases D:x=48
 ·have hk:k=48:=B.1 D
  rw[if_neg (by simp[hk])]at A
  by_cases h1:1048576<n
  ·rw[if_pos h1]at A
   subst A;clear B E G;subst D
   go_enter Tryz.func119,Tryz.ntmps119
   go_wp2;go_ret;exact⟨rfl,rfl⟩
  ·rw[if_neg h1]at A
   subst A;clear B E G;subst D
   go_enter Tryz.func119,Tryz.ntmps119
   go_wp2;go_ret;exact⟨rfl,rfl⟩
 ·have hk:¬k=48:=fun h=>D (B.2 h)
  by_cases H:n=0
  ·subst H
   rw[if_neg (by simp),if_neg (by omega)]at A;subst A;clear B E G
   go_enter Tryz.func119,Tryz.ntmps119
   go_wp2;go_ret;exact⟨rfl,rfl⟩
  ·rw[if_pos ⟨hk,H⟩]at A
   subst A;clear B E G;have I:(x != 48)=true:=by simpa using D
   have J:(n != 0)=true:=by simpa using H
   go_enter Tryz.func119,Tryz.ntmps119
   go_wp2;go_ret;exact⟨rfl,rfl⟩
theorem Am (a b c d:Int) (w:World):
 Calls Tryz.prog 117 #[.agg #[.int .i64 a,.int .i64 b,.int .i64 c,.int .i64 d]] w fun e w'=>e=.returned (.bool (fp a b c d))∧Below w.heap.size w w':=by
 obtain⟨r,A⟩:∃r,fp a b c d=r:=⟨_,rfl⟩
 rw[A];unfold fp at A;have D:=(Below.refl w.heap.size w).alloc (Qk _) (.cells #[.int .i64 a,.int .i64 b,.int .i64 c,.int .i64 d] 46);have B:=Qh D;clear D
 by_cases h1:0≤a∧a≤4095
 ·by_cases E:0≤b∧b≤2147483647
  ·by_cases G:0≤c∧c≤2147483647
   ·by_cases H:0≤d∧d≤1099511627776
    ·obtain rfl:r=true:=by rw[←A];simp only[decide_eq_true_eq];omega
     clear A
     go_enter Tryz.func117,Tryz.ntmps117
     go_wp2_with (go_at_call 152;refine(eW _ _ _ _ (by omega) (by omega)).mono ?_;rintro e w' ⟨rfl,rfl⟩)
     go_ret;exact⟨rfl,B.out⟩
    ·obtain rfl:r=false:=by rw[←A];simp only[decide_eq_false_iff_not];omega
     clear A
     go_enter Tryz.func117,Tryz.ntmps117
     go_wp2_with (go_at_call 152;first|(refine(eW _ _ _ _ (by omega) (by omega)).mono ?_;rintro e w' ⟨rfl,rfl⟩)|(refine(j6 _ _ _ _ (by omega)).mono ?_;rintro e w' ⟨rfl,rfl⟩))
     go_ret;exact⟨rfl,B.out⟩
   ·obtain rfl:r=false:=by rw[←A];simp only[decide_eq_false_iff_not];omega
    clear A
    go_enter Tryz.func117,Tryz.ntmps117
    go_wp2_with (go_at_call 152;first|(refine(eW _ _ _ _ (by omega) (by omega)).mono ?_;rintro e w' ⟨rfl,rfl⟩)|(refine(j6 _ _ _ _ (by omega)).mono ?_;rintro e w' ⟨rfl,rfl⟩))
    go_ret;exact⟨rfl,B.out⟩
  ·obtain rfl:r=false:=by rw[←A];simp only[decide_eq_false_iff_not];omega
   clear A
   go_enter Tryz.func117,Tryz.ntmps117
   go_wp2_with (go_at_call 152;first|(refine(eW _ _ _ _ (by omega) (by omega)).mono ?_;rintro e w' ⟨rfl,rfl⟩)|(refine(j6 _ _ _ _ (by omega)).mono ?_;rintro e w' ⟨rfl,rfl⟩))
   go_ret;exact⟨rfl,B.out⟩
 ·obtain rfl:r=false:=by rw[←A];simp only[decide_eq_false_iff_not];omega
  clear A
  go_enter Tryz.func117,Tryz.ntmps117
  go_wp2_with (go_at_call 152;first|(refine(eW _ _ _ _ (by omega) (by omega)).mono ?_;rintro e w' ⟨rfl,rfl⟩)|(refine(j6 _ _ _ _ (by omega)).mono ?_;rintro e w' ⟨rfl,rfl⟩))
  go_ret;exact⟨rfl,B.out⟩
theorem NV (k:UInt8) (l:List UInt8) (w:World) (hm:l.length≤140737488351232) (hT:Tabs w):
 Calls Tryz.prog 118 #[.int .u8 (k.toNat:Int),.string (str l)] w fun e w'=>e=.returned (.tuple #[.string (str (qm k l).1),.int .i64 (qm k l).2])∧Below w.heap.size w w':=by
 have H:=yq l w hm hT;have I:=xk l w hm hT;have A:(k.toNat:Int)=49↔k=49:=km k 49 (by decide);have B:(k.toNat:Int)=50↔k=50:=km k 50 (by decide);unfold qm;obtain⟨x,D⟩:∃x:Int,x=(k.toNat:Int):=⟨_,rfl⟩
 rw[←D]at A B⊢
 by_cases h1:x=49
 ·rw[if_pos (A.1 h1)]
  clear A B D;subst h1
  go_enter Tryz.func118,Tryz.ntmps118
  go_wp2_with (go_at_call 116;refine H.mono ?_;rintro e J ⟨rfl,G⟩)
  go_ret2;exact⟨rfl,G⟩
 ·rw[if_neg (fun h=>h1 (A.2 h))]
  by_cases E:x=50
  ·rw[if_pos (B.1 E)]
   clear A B D;subst E
   go_enter Tryz.func118,Tryz.ntmps118
   go_wp2_with (go_at_call 153;refine I.mono ?_;rintro e J ⟨rfl,G⟩)
   go_ret2;exact⟨rfl,G⟩
  ·rw[if_neg (fun h=>E (B.2 h))]
   clear A B D
   go_enter Tryz.func118,Tryz.ntmps118
   go_wp2;go_ret2;exact⟨rfl,Below.refl _ _⟩
theorem O4 (w:World) (g:Nat) (a b:ByteArray) (k m u i t:Int) (p:Option Addr) (n c:Nat) (h:au w g 48 #[.string a,.string b,.int .u8 k,.int .i64 m,.int .i64 u,.int .i64 i,.int .i64 t,.slice p n c]):
 (loadVar 48 ⟨g,0,none⟩).run Tryz.prog w=.ok (.agg #[.string a,.string b,.int .u8 k,.int .i64 m,.int .i64 u,.int .i64 i,.int .i64 t,.slice p n c]) w:=by
 have c0:=h.cell 0;have c1:=h.cell 1;have c2:=h.cell 2;have c3:=h.cell 3;have c4:=h.cell 4;have c5:=h.cell 5;have c6:=h.cell 6;have c7:=h.cell 7;clear h
 go_simp
theorem nQ {fn:Func} (hf:fn.results=#[.cell 2 48,.tmp 3]) (tmps:Array Value) (w:World) (g:Nat) (v:Value) (ht:tmps.getD 2 undef=.pointer (some ⟨g,0,none⟩)) (hv:tmps.getD 3 undef=v)
 (m:aw) (p:Option Addr) (c:Nat) (hb:au w g 48 (dj m p c)):(results fn tmps).run Tryz.prog w=.ok (.tuple #[.agg (dj m p c),v]) w:=by
 rw[results_cell_tmp hf,ht,hv];have hl:=O4 w g _ _ _ _ _ _ _ _ _ _ hb;simp only[asAddr,Sem.run_pure,hl,Result.andThen];rfl
theorem Nw {m:aw} {p:Option Addr} {c:Nat} (hb:au w g 48 (dj m p c)) (a0 a1 a2 a3 a4 a5 a6 a7:Value):
 au ((((((((w.setCell ⟨g,0,none⟩ a0).setCell ⟨g,1,none⟩ a1).setCell ⟨g,2,none⟩ a2).setCell ⟨g,3,none⟩ a3).setCell ⟨g,4,none⟩ a4).setCell ⟨g,5,none⟩ a5).setCell ⟨g,6,none⟩ a6).setCell ⟨g,7,none⟩ a7) g 48 #[a0,a1,a2,a3,a4,a5,a6,a7]:=
 (((((((hb.set 0 a0 (by show 0<8;decide)).set 1 a1 (by show 1<8;decide)).set 2 a2 (by show 2<8;decide)).set 3 a3 (by show 3<8;decide)).set 4 a4 (by show 4<8;decide)).set 5 a5 (by show 5<8;decide)).set 6 a6 (by show 6<8;decide)).set 7 a7 (by show 7<8;decide)
theorem uP (hk:Below w.heap.size w w') (hg:w.heap.size≤g) (a0 a1 a2 a3 a4 a5 a6 a7:Value):
 Below w.heap.size w ((((((((w'.setCell ⟨g,0,none⟩ a0).setCell ⟨g,1,none⟩ a1).setCell ⟨g,2,none⟩ a2).setCell ⟨g,3,none⟩ a3).setCell ⟨g,4,none⟩ a4).setCell ⟨g,5,none⟩ a5).setCell ⟨g,6,none⟩ a6).setCell ⟨g,7,none⟩ a7):=
 ((((((((hk.setCell (p:=⟨g,0,none⟩) hg a0).setCell (p:=⟨g,1,none⟩) hg a1).setCell (p:=⟨g,2,none⟩) hg a2).setCell (p:=⟨g,3,none⟩) hg a3).setCell (p:=⟨g,4,none⟩) hg a4).setCell (p:=⟨g,5,none⟩) hg a5).setCell (p:=⟨g,6,none⟩) hg a6).setCell (p:=⟨g,7,none⟩) hg a7)
def Q2 (w wi:World) (h:aq):Prop:=Below w.heap.size w wi∧au wi w.heap.size 66 (af h)∧au wi (w.heap.size+1) 48 (dj tR none 0)
theorem Q2.below {wi wj:World} {h:aq} (hm:Q2 w wi h) (hb:Below wi.heap.size wi wj):Q2 w wj h:=
 ⟨hm.1.trans (hb.mono hm.1.size),hm.2.1.below hb hm.2.1.lt,hm.2.2.below hb hm.2.2.lt⟩
theorem jD (h:aq) (w:World) (h1:h.name.length≤140737488351232) (h2:h.link.length≤140737488351232) (hT:Tabs w):
 Calls Tryz.prog 80 #[.agg (af h)] w fun e w'=>e=.returned (.tuple #[.agg (dj (eF h).1 none 0),.int .i64 (eF h).2])∧Below w.heap.size w w':=by
 obtain⟨⟨u,ce⟩,hc⟩:∃x,bU 9 6 h.name=x:=⟨_,rfl⟩
 obtain⟨⟨z,ge⟩,hg⟩:∃x,qm h.kind h.link=x:=⟨_,rfl⟩
 obtain⟨mo,g⟩:∃x,fp h.mode h.uid h.gid h.time=x:=⟨_,rfl⟩
 obtain⟨p,l⟩:∃x,qY h.kind h.size=x:=⟨_,rfl⟩
 have m:Hid (∀wi,Below w.heap.size w wi→Calls Tryz.prog 116 #[.string (str h.name)] wi fun e w'=>e=.returned (.tuple #[.string (str u),.int .i64 ce])∧Below wi.heap.size wi w'):=
  Qh (fun wi D=>by have:=yq h.name wi h1 (hT.below D);rwa [hc]at this)
 have t:Hid (∀wi,Calls Tryz.prog 117 #[.agg #[.int .i64 h.mode,.int .i64 h.uid,.int .i64 h.gid,.int .i64 h.time]] wi fun e w'=>e=.returned (.bool mo)∧Below wi.heap.size wi w'):=
  Qh (fun wi=>by have:=Am h.mode h.uid h.gid h.time wi;rwa [g]at this)
 have r:Hid (∀wi,Below w.heap.size w wi→Calls Tryz.prog 118 #[.int .u8 (h.kind.toNat:Int),.string (str h.link)] wi fun e w'=>e=.returned (.tuple #[.string (str z),.int .i64 ge])∧Below wi.heap.size wi w'):=
  Qh (fun wi D=>by have:=NV h.kind h.link wi h2 (hT.below D);rwa [hg]at this)
 have CS:Hid (∀wi,Calls Tryz.prog 119 #[.int .u8 (h.kind.toNat:Int),.int .i64 h.size] wi fun e w'=>e=.returned (.int .i64 p)∧wi=w'):=
  Qh (fun wi=>by have:=P2 h.kind h.size wi;rwa [l]at this)
 obtain⟨U,hU⟩:∃U,eF h=U:=⟨_,rfl⟩
 rw[hU]
 have o:Hid (U=if ce≠0 then(tR,ce)else if mo=false then(tR,4)else if ge≠0 then(tR,ge)else if p≠0 then(tR,p)else(⟨u,z,h.kind,h.mode,h.uid,h.gid,h.time,[]⟩,0)):=
  Qh (by rw[←hU];unfold eF;rw[hc,hg,g,l])
 clear h1 h2 hT hU hc hg g l
 have I:Hid (Q2 w ((w.alloc (.cells (af h) 66)).alloc (.cells (dj tR none 0) 48)) h):=by
  have B:=au.new (w.alloc (.cells (af h) 66)) 48 (dj tR none 0);rw[World.size_alloc]at B;exact Qh ⟨((Below.refl _ w).alloc (Qk _) _).alloc (by simp) _,(au.new w 66 (af h)).alloc _,B⟩
 obtain⟨kn,y⟩:∃kn:Int,(h.kind.toNat:Int)=kn:=⟨_,rfl⟩
 have f:=Qh y;simp only[af,y]at I⊢;rw[y]at r CS;clear y
 by_cases a1:ce=0
 ·subst a1
  cases mo with
  |false=>
   have E:Hid (U=(tR,4)):=Qh (by rw[o.out];simp)
   go_enter Tryz.func80,Tryz.ntmps80
   go_wp2_with fail
   refine(m.out _ I.out.1).mono ?_;rintro e w1 ⟨rfl,D⟩;have G:=Qh (I.out.below D);clear D I;have B:=G.out.2.1;have M:=B.cell 3;have N:=B.cell 4;have O:=B.cell 5;have R:=B.cell 6;simp only[af,Qc,Qa,Qb]at M N O R;clear B;go_wp2_with fail;refine(t.out _).mono ?_;rintro e w2 ⟨rfl,D⟩;have H:=Qh (G.out.below D);clear D G M N O R;have A:=H.out.2.2;have T:=A.cell 0;have f0:=A.frozen 0;have V:=A.cell 1;have f1:=A.frozen 1;have W:=A.cell 2;have f2:=A.frozen 2;have X:=A.cell 3;have f3:=A.frozen 3;have Y:=A.cell 4;have f4:=A.frozen 4;have Z:=A.cell 5;have f5:=A.frozen 5;have b:=A.cell 6;have f6:=A.frozen 6;have c:=A.cell 7;have f7:=A.frozen 7;simp only[dj,tR,Qc,Qa,Qb]at T V W X Y Z b c;clear A;go_wp2;refine bodyPost_ret (nQ rfl _ _ (w.heap.size+1) _ rfl rfl tR none 0 (Nw H.out.2.2 _ _ _ _ _ _ _ _)) rfl ?_;exact⟨by rw[E.out];rfl,uP H.out.1 (by omega) _ _ _ _ _ _ _ _⟩
  |true=>
   by_cases a2:ge=0
   ·subst a2
    by_cases a3:p=0
    ·subst a3
     have E:Hid (U=(⟨u,z,h.kind,h.mode,h.uid,h.gid,h.time,[]⟩,0)):=Qh (by rw[o.out];simp)
     go_enter Tryz.func80,Tryz.ntmps80
     go_wp2_with fail
     refine(m.out _ I.out.1).mono ?_;rintro e w1 ⟨rfl,D⟩;have G:=Qh (I.out.below D);clear D I;have B:=G.out.2.1;have M:=B.cell 3;have N:=B.cell 4;have O:=B.cell 5;have R:=B.cell 6;simp only[af,Qc,Qa,Qb]at M N O R;clear B;go_wp2_with fail;refine(t.out _).mono ?_;rintro e w2 ⟨rfl,D⟩;have H:=Qh (G.out.below D);clear D G M N O R;have B:=H.out.2.1;have d:=B.cell 1;have J:=B.cell 2;simp only[af,Qc,Qa,Qb,f.out]at d J;clear B;go_wp2_with fail;refine(r.out _ H.out.1).mono ?_;rintro e w3 ⟨rfl,D⟩;have L:=Qh (H.out.below D);clear D H d J;have B:=L.out.2.1;have J:=B.cell 2;have q:=B.cell 7;simp only[af,Qc,Qa,Qb,f.out]at J q;clear B;go_wp2_with fail;refine(CS.out _).mono ?_;rintro e w4 ⟨rfl,rfl⟩;clear J q;have B:=L.out.2.1;have J:=B.cell 2;have M:=B.cell 3;have N:=B.cell 4;have O:=B.cell 5;have R:=B.cell 6;simp only[af,Qc,Qa,Qb,f.out]at J M N O R;clear B;have D4:=f.out;subst D4;have A:=L.out.2.2;have T:=A.cell 0;have f0:=A.frozen 0;have V:=A.cell 1;have f1:=A.frozen 1;have W:=A.cell 2;have f2:=A.frozen 2;have X:=A.cell 3;have f3:=A.frozen 3;have Y:=A.cell 4;have f4:=A.frozen 4;have Z:=A.cell 5;have f5:=A.frozen 5;have b:=A.cell 6;have f6:=A.frozen 6;have c:=A.cell 7;have f7:=A.frozen 7;simp only[dj,tR,Qc,Qa,Qb]at T V W X Y Z b c;clear A;go_wp2;refine bodyPost_ret (nQ rfl _ _ (w.heap.size+1) _ rfl rfl ⟨u,z,h.kind,h.mode,h.uid,h.gid,h.time,[]⟩ none 0 (Nw L.out.2.2 _ _ _ _ _ _ _ _)) rfl ?_;exact⟨by rw[E.out];rfl,uP L.out.1 (by omega) _ _ _ _ _ _ _ _⟩
    ·have E:Hid (U=(tR,p)):=Qh (by rw[o.out];simp[a3])
     go_enter Tryz.func80,Tryz.ntmps80
     go_wp2_with fail
     refine(m.out _ I.out.1).mono ?_;rintro e w1 ⟨rfl,D⟩;have G:=Qh (I.out.below D);clear D I;have B:=G.out.2.1;have M:=B.cell 3;have N:=B.cell 4;have O:=B.cell 5;have R:=B.cell 6;simp only[af,Qc,Qa,Qb]at M N O R;clear B;go_wp2_with fail;refine(t.out _).mono ?_;rintro e w2 ⟨rfl,D⟩;have H:=Qh (G.out.below D);clear D G M N O R;have B:=H.out.2.1;have d:=B.cell 1;have J:=B.cell 2;simp only[af,Qc,Qa,Qb,f.out]at d J;clear B;go_wp2_with fail;refine(r.out _ H.out.1).mono ?_;rintro e w3 ⟨rfl,D⟩;have L:=Qh (H.out.below D);clear D H d J;have B:=L.out.2.1;have J:=B.cell 2;have q:=B.cell 7;simp only[af,Qc,Qa,Qb,f.out]at J q;clear B;go_wp2_with fail;refine(CS.out _).mono ?_;rintro e w4 ⟨rfl,rfl⟩;clear J q;have A:=L.out.2.2;have T:=A.cell 0;have f0:=A.frozen 0;have V:=A.cell 1;have f1:=A.frozen 1;have W:=A.cell 2;have f2:=A.frozen 2;have X:=A.cell 3;have f3:=A.frozen 3;have Y:=A.cell 4;have f4:=A.frozen 4;have Z:=A.cell 5;have f5:=A.frozen 5;have b:=A.cell 6;have f6:=A.frozen 6;have c:=A.cell 7;have f7:=A.frozen 7;simp only[dj,tR,Qc,Qa,Qb]at T V W X Y Z b c;clear A;go_wp2;refine bodyPost_ret (nQ rfl _ _ (w.heap.size+1) _ rfl rfl tR none 0 (Nw L.out.2.2 _ _ _ _ _ _ _ _)) rfl ?_;exact⟨by rw[E.out];rfl,uP L.out.1 (by omega) _ _ _ _ _ _ _ _⟩
   ·have E:Hid (U=(tR,ge)):=Qh (by rw[o.out];simp[a2])
    go_enter Tryz.func80,Tryz.ntmps80
    go_wp2_with fail
    refine(m.out _ I.out.1).mono ?_;rintro e w1 ⟨rfl,D⟩;have G:=Qh (I.out.below D);clear D I;have B:=G.out.2.1;have M:=B.cell 3;have N:=B.cell 4;have O:=B.cell 5;have R:=B.cell 6;simp only[af,Qc,Qa,Qb]at M N O R;clear B;go_wp2_with fail;refine(t.out _).mono ?_;rintro e w2 ⟨rfl,D⟩;have H:=Qh (G.out.below D);clear D G M N O R;have B:=H.out.2.1;have d:=B.cell 1;have J:=B.cell 2;simp only[af,Qc,Qa,Qb,f.out]at d J;clear B;go_wp2_with fail;refine(r.out _ H.out.1).mono ?_;rintro e w3 ⟨rfl,D⟩;have L:=Qh (H.out.below D);clear D H d J;have A:=L.out.2.2;have T:=A.cell 0;have f0:=A.frozen 0;have V:=A.cell 1;have f1:=A.frozen 1;have W:=A.cell 2;have f2:=A.frozen 2;have X:=A.cell 3;have f3:=A.frozen 3;have Y:=A.cell 4;have f4:=A.frozen 4;have Z:=A.cell 5;have f5:=A.frozen 5;have b:=A.cell 6;have f6:=A.frozen 6;have c:=A.cell 7;have f7:=A.frozen 7;simp only[dj,tR,Qc,Qa,Qb]at T V W X Y Z b c;clear A;go_wp2;refine bodyPost_ret (nQ rfl _ _ (w.heap.size+1) _ rfl rfl tR none 0 (Nw L.out.2.2 _ _ _ _ _ _ _ _)) rfl ?_;exact⟨by rw[E.out];rfl,uP L.out.1 (by omega) _ _ _ _ _ _ _ _⟩
 ·have E:Hid (U=(tR,ce)):=Qh (by rw[o.out];simp[a1])
  go_enter Tryz.func80,Tryz.ntmps80
  go_wp2_with fail
  refine(m.out _ I.out.1).mono ?_;rintro e w1 ⟨rfl,D⟩;have G:=Qh (I.out.below D);clear D I;have A:=G.out.2.2;have T:=A.cell 0;have f0:=A.frozen 0;have V:=A.cell 1;have f1:=A.frozen 1;have W:=A.cell 2;have f2:=A.frozen 2;have X:=A.cell 3;have f3:=A.frozen 3;have Y:=A.cell 4;have f4:=A.frozen 4;have Z:=A.cell 5;have f5:=A.frozen 5;have b:=A.cell 6;have f6:=A.frozen 6;have c:=A.cell 7;have f7:=A.frozen 7;simp only[dj,tR,Qc,Qa,Qb]at T V W X Y Z b c;clear A;go_wp2;refine bodyPost_ret (nQ rfl _ _ (w.heap.size+1) _ rfl rfl tR none 0 (Nw G.out.2.2 _ _ _ _ _ _ _ _)) rfl ?_;exact⟨by rw[E.out];rfl,uP G.out.1 (by omega) _ _ _ _ _ _ _ _⟩
theorem l9 (h:aq):(eF h).1.body=[]:=by
 unfold eF;split
 ·rfl
 ·split
  ·rfl
  ·split
   ·rfl
   ·split<;>rfl
theorem L6 (a b c d:Int) (w:World):
 Calls Tryz.prog 38 #[.agg #[.int .i64 a,.int .i64 b,.int .i64 c,.int .i64 d]] w fun e w'=>e=.returned (.bool (fp a b c d))∧Below w.heap.size w w':=by
 obtain⟨r,A⟩:∃r,fp a b c d=r:=⟨_,rfl⟩
 rw[A];unfold fp at A;have B:=Qh ((Below.refl w.heap.size w).alloc (Qk _) (.cells #[.int .i64 a,.int .i64 b,.int .i64 c,.int .i64 d] 46))
 by_cases D:0≤a
 ·by_cases h1:a≤4095
  ·by_cases E:0≤b
   ·by_cases G:b<2147483648
    ·by_cases H:0≤c
     ·by_cases I:c<2147483648
      ·by_cases J:0≤d
       ·by_cases L:d≤1099511627776
        ·obtain rfl:r=true:=by rw[←A];simp only[decide_eq_true_eq];omega
         clear A
         go_enter Tryz.func38,Tryz.ntmps38
         go_wp2;go_ret;exact⟨rfl,B.out⟩
        ·obtain rfl:r=false:=by rw[←A];simp only[decide_eq_false_iff_not];omega
         have hd:decide (d≤1099511627776)=false:=by simpa using L
         clear A
         go_enter Tryz.func38,Tryz.ntmps38
         go_wp2;go_ret;exact⟨rfl,B.out⟩
       ·obtain rfl:r=false:=by rw[←A];simp only[decide_eq_false_iff_not];omega
        have hd:decide (0≤d)=false:=by simpa using J
        clear A
        go_enter Tryz.func38,Tryz.ntmps38
        go_wp2;go_ret;exact⟨rfl,B.out⟩
      ·obtain rfl:r=false:=by rw[←A];simp only[decide_eq_false_iff_not];omega
       have hd:decide (c<2147483648)=false:=by simpa using I
       clear A
       go_enter Tryz.func38,Tryz.ntmps38
       go_wp2;go_ret;exact⟨rfl,B.out⟩
     ·obtain rfl:r=false:=by rw[←A];simp only[decide_eq_false_iff_not];omega
      have hd:decide (0≤c)=false:=by simpa using H
      clear A
      go_enter Tryz.func38,Tryz.ntmps38
      go_wp2;go_ret;exact⟨rfl,B.out⟩
    ·obtain rfl:r=false:=by rw[←A];simp only[decide_eq_false_iff_not];omega
     have hd:decide (b<2147483648)=false:=by simpa using G
     clear A
     go_enter Tryz.func38,Tryz.ntmps38
     go_wp2;go_ret;exact⟨rfl,B.out⟩
   ·obtain rfl:r=false:=by rw[←A];simp only[decide_eq_false_iff_not];omega
    have hd:decide (0≤b)=false:=by simpa using E
    clear A
    go_enter Tryz.func38,Tryz.ntmps38
    go_wp2;go_ret;exact⟨rfl,B.out⟩
  ·obtain rfl:r=false:=by rw[←A];simp only[decide_eq_false_iff_not];omega
   have hd:decide (a≤4095)=false:=by simpa using h1
   clear A
   go_enter Tryz.func38,Tryz.ntmps38
   go_wp2;go_ret;exact⟨rfl,B.out⟩
 ·obtain rfl:r=false:=by rw[←A];simp only[decide_eq_false_iff_not];omega
  have hd:decide (0≤a)=false:=by simpa using D
  clear A
  go_enter Tryz.func38,Tryz.ntmps38
  go_wp2;go_ret;exact⟨rfl,B.out⟩
theorem DF (l:List UInt8) (w:World) (hm:l.length≤140737488351232):
 Calls Tryz.prog 39 #[.string (str l)] w fun e w'=>e=.returned (.int .i64 (dL 9 6 l))∧w=w':=by
 have B:=zk (str l) w (by rw[ak];omega);rw[aU]at B;have hs:(str l).size=l.length:=ak l;obtain⟨r,A⟩:∃r,dL 9 6 l=r:=⟨_,rfl⟩
 rw[A];unfold dL at A
 cases G:aZ l with
 |false=>
  rw[G]at A B;simp only[if_true]at A;subst A
  go_enter Tryz.func39,Tryz.ntmps39
  go_wp2_with fail
  refine B.mono ?_;rintro e E ⟨rfl,rfl⟩;go_wp2;go_ret;exact⟨rfl,rfl⟩
 |true=>
  rw[G]at A B
  by_cases D:l=[]
  ·subst D
   simp at A;subst A
   go_enter Tryz.func39,Tryz.ntmps39
   go_wp2_with fail
   refine B.mono ?_;rintro e E ⟨rfl,rfl⟩;have H:(str []).toList.isEmpty=true:=by rw[bk];rfl
   go_wp2;go_ret;exact⟨rfl,rfl⟩
  ·have H:(str l).toList.isEmpty=false:=by rw[bk];simpa using D
   by_cases h1:200<l.length
   ·have I:(200:Int)<(l.length:Int):=by omega
    simp[D,h1]at A;subst A
    go_enter Tryz.func39,Tryz.ntmps39
    go_wp2_with fail
    refine B.mono ?_;rintro e E ⟨rfl,rfl⟩;go_wp2;go_ret;exact⟨rfl,rfl⟩
   ·have I:¬(200:Int)<(l.length:Int):=by omega
    simp[D,h1]at A;subst A
    go_enter Tryz.func39,Tryz.ntmps39
    go_wp2_with fail
    refine B.mono ?_;rintro e E ⟨rfl,rfl⟩;go_wp2;go_ret;exact⟨rfl,rfl⟩
theorem I7 (l:List UInt8) (w:World) (hm:l.length≤140737488351232):
 Calls Tryz.prog 56 #[.string (str l)] w fun e w'=>e=.returned (.bool (dW l))∧w=w':=by
 have E:=GA (str l) w (by rw[ak];omega);rw[aU]at E;obtain⟨r,A⟩:∃r,dW l=r:=⟨_,rfl⟩
 rw[A];unfold dW at A;obtain⟨⟨G,ce⟩,hc⟩:∃x,bU 9 6 l=x:=⟨_,rfl⟩
 rw[hc]at E A;clear hc;simp only[Prod.mk.injEq]at A
 by_cases D:ce=0
 ·by_cases h1:l=G
  ·have H:((str l).toList==(str G).toList)=true:=by rw[av,av];simpa using h1
   have B:r=true:=by rw[←A];simp[D,h1]
   subst D B;clear A h1
   go_enter Tryz.func56,Tryz.ntmps56
   go_wp2_with fail
   refine E.mono ?_;rintro e I ⟨rfl,rfl⟩;go_wp2;go_ret;exact⟨rfl,rfl⟩
  ·have H:((str l).toList==(str G).toList)=false:=by rw[av,av];simpa using h1
   have B:r=false:=by rw[←A];simp;exact fun h=>absurd h.symm h1
   subst D B;clear A h1
   go_enter Tryz.func56,Tryz.ntmps56
   go_wp2_with fail
   refine E.mono ?_;rintro e I ⟨rfl,rfl⟩;go_wp2;go_ret;exact⟨rfl,rfl⟩
 ·have H:(ce==0)=false:=by simpa using D
  have B:r=false:=by rw[←A];simp[D]
  subst B;clear A
  go_enter Tryz.func56,Tryz.ntmps56
  go_wp2_with fail
  refine E.mono ?_;rintro e I ⟨rfl,rfl⟩;go_wp2;go_ret;exact⟨rfl,rfl⟩
theorem L1 (m:aw) (p:Option Addr) (c:Nat) (w:World) (h1:m.path.length≤140737488351232) (h2:m.target.length≤140737488351232):
 Calls Tryz.prog 24 #[.agg (dj m p c)] w fun e w'=>e=.returned (.bool (bZ m))∧Below w.heap.size w w':=by
 have hu:=fun k hk=>km m.kind k hk
 obtain⟨kn,cu⟩:∃kn:Int,(m.kind.toNat:Int)=kn:=⟨_,rfl⟩
 unfold dj;rw[cu]at hu⊢;have O:=fun w=>I7 m.path w h1
 have o:=fun w=>I7 m.target w h2
 have q:=fun w=>DF m.target w h2
 have R:=fun w=>L6 m.mode m.uid m.gid m.time w
 obtain⟨r,W⟩:∃r,bZ m=r:=⟨_,rfl⟩
 rw[W];unfold bZ at W;obtain⟨t,z⟩:∃b,dW m.path=b:=⟨_,rfl⟩
 obtain⟨b2,y⟩:∃b,dW m.target=b:=⟨_,rfl⟩
 obtain⟨Y,eN⟩:∃b,dL 9 6 m.target=b:=⟨_,rfl⟩
 obtain⟨u,gY⟩:∃b,fp m.mode m.uid m.gid m.time=b:=⟨_,rfl⟩
 simp only[z,y,eN,gY]at W O o q R;clear z y eN gY h1 h2;have d:m.kind=48↔kn=48:=(hu 48 (by decide)).symm;have ej:m.kind=49↔kn=49:=(hu 49 (by decide)).symm;have dr:m.kind=50↔kn=50:=(hu 50 (by decide)).symm;have dt:m.kind=53↔kn=53:=(hu 53 (by decide)).symm;obtain⟨bl,Z⟩:∃bl,m.body.length=bl:=⟨_,rfl⟩
 have hte:(str m.target).toList.isEmpty=decide (m.target=[]):=bk m.target
 have iO:(t&&u&&decide (bl≤1048576)&&(decide (kn=48)||decide (bl=0))&&(if kn=48∨kn=53 then decide (m.target=[])else if kn=49 then b2 else if kn=50 then(Y==0)else false))=r:=by
  rw[←W];have e1:(m.kind==48)=decide (kn=48):=by rw[Bool.eq_iff_iff];simp[d]
  have e2:(m.body==[])=decide (bl=0):=by rw[Bool.eq_iff_iff,←Z];simp
  have e3:(m.target==[])=decide (m.target=[]):=by rw[Bool.eq_iff_iff];simp
  have e4:(Y==0)=decide (Y=0):=by rw[Bool.eq_iff_iff];simp
  rw[e1,e2,e3,e4,Z];simp only[d,ej,dr,dt]
 rw[Z];clear W d ej dr dt Z hu;have H:=Qh ((Below.refl w.heap.size w).alloc (Qk _) (.cells #[.string (str m.path),.string (str m.target),.int .u8 kn,.int .i64 m.mode,.int .i64 m.uid,.int .i64 m.gid,.int .i64 m.time,.slice p bl c] 48));have D:=Qh (au.new w 48 #[.string (str m.path),.string (str m.target),.int .u8 kn,.int .i64 m.mode,.int .i64 m.uid,.int .i64 m.gid,.int .i64 m.time,.slice p bl c]);have T:=Qh iO;clear iO cu
 cases t with
 |false=>
  have G:r=false:=by rw[←T.out];simp
  subst G
  go_enter Tryz.func24,Tryz.ntmps24
  go_wp2_with fail
  refine(O _).mono ?_;rintro e U ⟨rfl,rfl⟩;go_wp2;go_ret;exact⟨rfl,H.out⟩
 |true=>
  cases u with
  |false=>
   have G:r=false:=by rw[←T.out];simp
   subst G
   go_enter Tryz.func24,Tryz.ntmps24
   go_wp2_with fail
   refine(O _).mono ?_;rintro e U ⟨rfl,rfl⟩;have A:=D.out;have y3:=A.cell 3;have y4:=A.cell 4;have E:=A.cell 5;have y6:=A.cell 6;simp only[Qc,Qa,Qb]at y3 y4 E y6;clear A;go_wp2_with fail;refine(R _).mono ?_;rintro e V ⟨rfl,B⟩;have I:=Qh (H.out.trans (B.mono H.out.size));have J:=Qh (D.out.below B D.out.lt);clear B y3 y4 E y6;have A:=J.out;have L:=A.cell 1;have M:=A.cell 2;have N:=A.cell 7;simp only[Qc,Qa,Qb]at L M N;clear A;go_wp2;go_ret;exact⟨rfl,I.out⟩
  |true=>
   by_cases l1:1048576<bl
   ·have l2:(1048576:Int)<(bl:Int):=by omega
    have G:r=false:=by rw[←T.out];simp;omega
    subst G
    go_enter Tryz.func24,Tryz.ntmps24
    go_wp2_with fail
    refine(O _).mono ?_;rintro e U ⟨rfl,rfl⟩;have A:=D.out;have y3:=A.cell 3;have y4:=A.cell 4;have E:=A.cell 5;have y6:=A.cell 6;simp only[Qc,Qa,Qb]at y3 y4 E y6;clear A;go_wp2_with fail;refine(R _).mono ?_;rintro e V ⟨rfl,B⟩;have I:=Qh (H.out.trans (B.mono H.out.size));have J:=Qh (D.out.below B D.out.lt);clear B y3 y4 E y6;have A:=J.out;have L:=A.cell 1;have M:=A.cell 2;have N:=A.cell 7;simp only[Qc,Qa,Qb]at L M N;clear A;go_wp2;go_ret;exact⟨rfl,I.out⟩
   ·have l2:¬(1048576:Int)<(bl:Int):=by omega
    have l3:bl≤1048576:=by omega
    by_cases X:kn=48
    ·subst X
     have G:r=decide (m.target=[]):=by rw[←T.out];simp[l3]
     subst G
     go_enter Tryz.func24,Tryz.ntmps24
     go_wp2_with fail
     refine(O _).mono ?_;rintro e U ⟨rfl,rfl⟩;have A:=D.out;have y3:=A.cell 3;have y4:=A.cell 4;have E:=A.cell 5;have y6:=A.cell 6;simp only[Qc,Qa,Qb]at y3 y4 E y6;clear A;go_wp2_with fail;refine(R _).mono ?_;rintro e V ⟨rfl,B⟩;have I:=Qh (H.out.trans (B.mono H.out.size));have J:=Qh (D.out.below B D.out.lt);clear B y3 y4 E y6;have A:=J.out;have L:=A.cell 1;have M:=A.cell 2;have N:=A.cell 7;simp only[Qc,Qa,Qb]at L M N;clear A;go_wp2;go_ret;exact⟨rfl,I.out⟩
    ·have e0:(kn != 48)=true:=by simpa using X
     have f0:(kn==48)=false:=by simpa using X
     by_cases l4:bl=0
     ·subst l4
      by_cases l:kn=53
      ·subst l
       have G:r=decide (m.target=[]):=by rw[←T.out];simp
       subst G
       go_enter Tryz.func24,Tryz.ntmps24
       go_wp2_with fail
       refine(O _).mono ?_;rintro e U ⟨rfl,rfl⟩;have A:=D.out;have y3:=A.cell 3;have y4:=A.cell 4;have E:=A.cell 5;have y6:=A.cell 6;simp only[Qc,Qa,Qb]at y3 y4 E y6;clear A;go_wp2_with fail;refine(R _).mono ?_;rintro e V ⟨rfl,B⟩;have I:=Qh (H.out.trans (B.mono H.out.size));have J:=Qh (D.out.below B D.out.lt);clear B y3 y4 E y6;have A:=J.out;have L:=A.cell 1;have M:=A.cell 2;have N:=A.cell 7;simp only[Qc,Qa,Qb]at L M N;clear A;go_wp2;go_ret;exact⟨rfl,I.out⟩
      ·have f3:(kn==53)=false:=by simpa using l
       by_cases f:kn=49
       ·subst f
        have G:r=b2:=by rw[←T.out];simp
        subst G
        go_enter Tryz.func24,Tryz.ntmps24
        go_wp2_with fail
        refine(O _).mono ?_;rintro e U ⟨rfl,rfl⟩;have A:=D.out;have y3:=A.cell 3;have y4:=A.cell 4;have E:=A.cell 5;have y6:=A.cell 6;simp only[Qc,Qa,Qb]at y3 y4 E y6;clear A;go_wp2_with fail;refine(R _).mono ?_;rintro e V ⟨rfl,B⟩;have I:=Qh (H.out.trans (B.mono H.out.size));have J:=Qh (D.out.below B D.out.lt);clear B y3 y4 E y6;have A:=J.out;have L:=A.cell 1;have M:=A.cell 2;have N:=A.cell 7;simp only[Qc,Qa,Qb]at L M N;clear A;go_wp2_with fail;refine(o _).mono ?_;rintro e w3 ⟨rfl,rfl⟩;go_wp2;go_ret;exact⟨rfl,I.out⟩
       ·have f1:(kn==49)=false:=by simpa using f
        by_cases g:kn=50
        ·subst g
         have G:r=(Y==0):=by rw[←T.out];simp
         subst G
         go_enter Tryz.func24,Tryz.ntmps24
         go_wp2_with fail
         refine(O _).mono ?_;rintro e U ⟨rfl,rfl⟩;have A:=D.out;have y3:=A.cell 3;have y4:=A.cell 4;have E:=A.cell 5;have y6:=A.cell 6;simp only[Qc,Qa,Qb]at y3 y4 E y6;clear A;go_wp2_with fail;refine(R _).mono ?_;rintro e V ⟨rfl,B⟩;have I:=Qh (H.out.trans (B.mono H.out.size));have J:=Qh (D.out.below B D.out.lt);clear B y3 y4 E y6;have A:=J.out;have L:=A.cell 1;have M:=A.cell 2;have N:=A.cell 7;simp only[Qc,Qa,Qb]at L M N;clear A;go_wp2_with fail;refine(q _).mono ?_;rintro e w3 ⟨rfl,rfl⟩;go_wp2;go_ret;exact⟨rfl,I.out⟩
        ·have f2:(kn==50)=false:=by simpa using g
         have G:r=false:=by rw[←T.out];simp[X,f,g,l]
         subst G
         go_enter Tryz.func24,Tryz.ntmps24
         go_wp2_with fail
         refine(O _).mono ?_;rintro e U ⟨rfl,rfl⟩;have A:=D.out;have y3:=A.cell 3;have y4:=A.cell 4;have E:=A.cell 5;have y6:=A.cell 6;simp only[Qc,Qa,Qb]at y3 y4 E y6;clear A;go_wp2_with fail;refine(R _).mono ?_;rintro e V ⟨rfl,B⟩;have I:=Qh (H.out.trans (B.mono H.out.size));have J:=Qh (D.out.below B D.out.lt);clear B y3 y4 E y6;have A:=J.out;have L:=A.cell 1;have M:=A.cell 2;have N:=A.cell 7;simp only[Qc,Qa,Qb]at L M N;clear A;go_wp2;go_ret;exact⟨rfl,I.out⟩
     ·have l5:(0:Int)<(bl:Int):=by omega
      have G:r=false:=by rw[←T.out];simp[X,l4]
      subst G
      go_enter Tryz.func24,Tryz.ntmps24
      go_wp2_with fail
      refine(O _).mono ?_;rintro e U ⟨rfl,rfl⟩;have A:=D.out;have y3:=A.cell 3;have y4:=A.cell 4;have E:=A.cell 5;have y6:=A.cell 6;simp only[Qc,Qa,Qb]at y3 y4 E y6;clear A;go_wp2_with fail;refine(R _).mono ?_;rintro e V ⟨rfl,B⟩;have I:=Qh (H.out.trans (B.mono H.out.size));have J:=Qh (D.out.below B D.out.lt);clear B y3 y4 E y6;have A:=J.out;have L:=A.cell 1;have M:=A.cell 2;have N:=A.cell 7;simp only[Qc,Qa,Qb]at L M N;clear A;go_wp2;go_ret;exact⟨rfl,I.out⟩
theorem nz (m:aw) (p:Option Addr) (c:Nat) (w:World) (h1:m.path.length≤140737488351232) (h2:m.target.length≤140737488351232) (hT:Tabs w):
 Calls Tryz.prog 52 #[.agg (dj m p c)] w fun e w'=>e=.returned (.bool (bZ m))∧Below w.heap.size w w':=by
 rw[NW];obtain⟨⟨A,I⟩,J⟩:∃x,eF (me m)=x:=⟨_,rfl⟩
 have W:A.body=[]:=by have:=l9 (me m);rw[J]at this;exact this
 have U:∀wi,Below w.heap.size w wi→Calls Tryz.prog 80 #[.agg #[.string (str m.path),.string (str m.target),.int .u8 (m.kind.toNat:Int),.int .i64 m.mode,.int .i64 m.uid,.int .i64 m.gid,.int .i64 m.time,.int .i64 (m.body.length:Int),.bool false]] wi fun e w'=>e=.returned (.tuple #[.agg #[.string (str A.path),.string (str A.target),.int .u8 (A.kind.toNat:Int),.int .i64 A.mode,.int .i64 A.uid,.int .i64 A.gid,.int .i64 A.time,.slice none 0 0],.int .i64 I])∧Below wi.heap.size wi w':=fun wi B=>by
  have:=jD (me m) wi h1 h2 (hT.below B);rw[J]at this;unfold dj at this;simp only[W,List.length_nil]at this;exact this
 have E:=Qh U;have G:=jS m.kind;unfold dj;obtain⟨kn,H⟩:∃kn:Int,(m.kind.toNat:Int)=kn:=⟨_,rfl⟩
 obtain⟨bl,O⟩:∃bl,m.body.length=bl:=⟨_,rfl⟩
 rw[H,O]at E;rw[H]at G;rw[H,O]
 have b:((str A.path).toList==(str m.path).toList)=decide (A.path=m.path):=by
  rw[av,av]
  by_cases h:A.path=m.path<;>simp[h]
 have d:((str A.target).toList==(str m.target).toList)=decide (A.target=m.target):=by
  rw[av,av]
  by_cases h:A.target=m.target<;>simp[h]
 rw[J];simp only;obtain⟨x0,L⟩:∃x,gO m.kind=x:=⟨_,rfl⟩
 obtain⟨g,R⟩:∃x,decide (A.path=m.path)=x:=⟨_,rfl⟩
 obtain⟨r,T⟩:∃x,decide (A.target=m.target)=x:=⟨_,rfl⟩
 rw[L]at G;rw[L,R,T];rw[R]at b;rw[T]at d;have D:=Qh ((Below.refl w.heap.size w).alloc (Qk _) (.cells #[.string (str m.path),.string (str m.target),.int .u8 kn,.int .i64 m.mode,.int .i64 m.uid,.int .i64 m.gid,.int .i64 m.time,.slice p bl c] 48));have V:=Qh (au.new w 48 #[.string (str m.path),.string (str m.target),.int .u8 kn,.int .i64 m.mode,.int .i64 m.uid,.int .i64 m.gid,.int .i64 m.time,.slice p bl c]);clear L R T H O J W U h1 h2 hT
 cases x0 with
 |false=>
  go_enter Tryz.func52,Tryz.ntmps52
  go_wp2_with fail
  refine(G _).mono ?_;rintro e Z ⟨rfl,rfl⟩;go_wp2;go_ret;exact⟨rfl,D.out⟩
 |true=>
  have X:∀(wi:World),Below (w.alloc (.cells #[.string (str m.path),.string (str m.target),.int .u8 kn,.int .i64 m.mode,.int .i64 m.uid,.int .i64 m.gid,.int .i64 m.time,.slice p bl c] 48)).heap.size (w.alloc (.cells #[.string (str m.path),.string (str m.target),.int .u8 kn,.int .i64 m.mode,.int .i64 m.uid,.int .i64 m.gid,.int .i64 m.time,.slice p bl c] 48)) wi→Below w.heap.size w (wi.alloc (.cells #[.string (str A.path),.string (str A.target),.int .u8 (A.kind.toNat:Int),.int .i64 A.mode,.int .i64 A.uid,.int .i64 A.gid,.int .i64 A.time,.slice none 0 0] 48))   :=fun wi B=>
   (D.out.trans (B.mono D.out.size)).alloc (D.out.trans (B.mono D.out.size)).size _
  have Y:=Qh X;clear X
  by_cases N:I=0
  ·subst N
   go_enter Tryz.func52,Tryz.ntmps52
   go_wp2_with fail
   refine(G _).mono ?_;rintro e Z ⟨rfl,rfl⟩;go_wp2_with fail;refine(E.out _ D.out).mono ?_;rintro e f ⟨rfl,B⟩;have F:=Qh (Y.out _ B);have M:=V.out.below (B.alloc B.size (.cells #[.string (str A.path),.string (str A.target),.int .u8 (A.kind.toNat:Int),.int .i64 A.mode,.int .i64 A.uid,.int .i64 A.gid,.int .i64 A.time,.slice none 0 0] 48)) V.out.lt;have l:=M.cell 0;have o:=M.cell 1;simp only[Qc,Qa,Qb]at l o;clear B M
   cases g with
   |false=>
    go_wp2;go_ret;exact⟨rfl,F.out⟩
   |true=>
    go_wp2;go_ret;exact⟨rfl,F.out⟩
  ·have q:(I==0)=false:=by simpa using N
   have hd:decide (I=0)=false:=by simpa using N
   rw[hd]
   go_enter Tryz.func52,Tryz.ntmps52
   go_wp2_with fail
   refine(G _).mono ?_;rintro e Z ⟨rfl,rfl⟩;go_wp2_with fail;refine(E.out _ D.out).mono ?_;rintro e f ⟨rfl,B⟩;have F:=Qh (Y.out _ B);clear B;go_wp2;go_ret;exact⟨rfl,F.out⟩
end Mem
namespace Tre
open Go.ChangeShapes Go.WideShapes Go.ChangeAt Go.RowKit Base cf cN Bk Mem Go.Lib
variable {ms:List aw}
def Tp (xs:List MP):Prop:=∀x∈xs,x.m.path.length≤140737488351232∧x.m.target.length≤140737488351232
def kA (ms:List aw):Option Nat:=ms.findIdx? fun m=>!bZ m
def Wf (o:Option Nat):Int:=match o with|some i=>(i:Int)|none=>-1
theorem uN (h:∀m∈ms,bZ m=true):kA ms=none:=by
 rw[kA,List.findIdx?_eq_none_iff];intro m hm;rw[h m hm];rfl
theorem EN (hk:k<ms.length) (h0:∀m∈ms.take k,bZ m=true) (h:bZ (ms.getD k dy)=false):kA ms=some k:=by
 rw[kA,List.findIdx?_eq_some_iff_getElem];refine⟨hk,?_,fun j A=>?_⟩
 ·rw[List.getD,Qd hk]at h
  simpa using h
 ·have:=h0 ms[j] (by
   rw[List.mem_take_iff_getElem]
   exact⟨j,by omega,rfl⟩)
  simpa using this
theorem nC (m:aw) (p:Option Addr) (c:Nat) (w:World) (h1:m.path.length≤140737488351232) (h2:m.target.length≤140737488351232) (hT:Path.Tabs w):
 Calls Tryz.prog 58 #[.agg (dj m p c)] w fun e w'=>e=.returned (.bool (!bZ m))∧Below w.heap.size w w':=by
 obtain⟨W0,D⟩:∃W0,w.alloc (.cells (dj m p c) 48)=W0:=⟨_,rfl⟩
 have B:Below w.heap.size w W0:=by rw[←D];exact(Below.refl _ _).alloc (Qk _) _
 have A:=nz m p c W0 h1 h2 (hT.below B);obtain⟨r,I⟩:∃r,bZ m=r:=⟨_,rfl⟩
 rw[I]at A⊢;have J:=Qh B;have G:=Qh D;have E:=Qh A;unfold dj at G E⊢;clear B D A I
 go_enter Tryz.func58,Tryz.ntmps58
 go_wp2_with fail
 rw[G.out];refine E.out.mono ?_;rintro e M ⟨rfl,H⟩;have L:=Qh (J.out.trans (H.mono J.out.size));clear H;go_wp2;go_ret;exact⟨rfl,L.out⟩
theorem j3 (xs:List MP) (k:Nat):(xs.map MP.m).getD k dy=(xs.getD k cn).m:=by
 rw[List.getD,List.getD,List.getElem?_map]
 cases xs[k]? <;>rfl
theorem rL (p:Option Addr) (n c:Nat) (xs:List MP) (w:World) (h:dD w p n xs) (hn:n≤1000000000) (hF:Tp xs) (hT:Path.Tabs w):
 Calls Tryz.prog 57 #[.slice p n c,.func (.func 58) #[] #[]] w fun e w'=>e=.returned (.int .i64 (Wf (kA (xs.map MP.m))))∧Below w.heap.size w w':=by
 have Z:=Qh h;have H:=Qh h.1;have Y:=Qh hF;have d:=Qh hT;clear h hF hT
 go_enter Tryz.func57,Tryz.ntmps57
 go_wp2_with fail
 go_loopw [5,8] (fun _ i wr=>∃(j:Nat),j≤n∧i=.int .i64 (j:Int)∧Hid (∀m∈(xs.map MP.m).take j,bZ m=true)∧Hid (Below w.heap.size w wr)) (fun _ i _=>n - (RowKit.intOf i).toNat)
 case atStart=>exact⟨0,Nat.zero_le _,rfl,Qh (by simp),Qh (Below.refl _ _)⟩
 case round=>
  obtain⟨j,l,rfl,hA,A⟩:=hrel
  by_cases N:j<n
  ·have J:j<xs.length:=by rw[H.out];exact N
   have T:=lA xs j J;have M:=pO xs j J;have G:=Y.out _ T;obtain⟨b,o,rfl,f,W,c0,c1,c2,c3,c4,c5,c6,c7⟩:=(Z.out.below A.out).cells N;have L:=j3 xs j;obtain⟨y,hy⟩:∃y,xs.getD j cn=y:=⟨_,rfl⟩
   rw[hy]at M T G W c0 c1 c2 c3 c4 c5 c6 c7 L;rw[Nat.mul_comm]at c0 c1 c2 c3 c4 c5 c6 c7;have D:=nC y.m y.p y.c wr G.1 G.2 (d.out.below A.out);unfold dj at D;obtain⟨r,R⟩:∃r,bZ y.m=r:=⟨_,rfl⟩
   rw[R]at D;have I:=Qh M;have V:=Qh R;have X:=Qh L;have U:=Qh D;have q:(j:Int)<(n:Int):=by omega
   clear M f hy D R T J G W L
   cases r with
   |true=>
    go_wp2_with fail
    refine U.out.mono ?_;rintro e g ⟨rfl,B⟩;have O:=Qh (A.out.trans (B.mono A.out.size));clear B c0 c1 c2 c3 c4 c5 c6 c7;go_wp2;go_roundw
    case rel=>exact⟨j+1,by omega,by go_num,Qh (fun x hx=>by
     rw[←List.map_take,I.out,List.mem_append]at hx;rcases hx with hx|hx
     ·exact hA.out x (by rw[←List.map_take];exact hx)
     ·rw[List.mem_singleton.1 hx];exact V.out),O⟩
    case measure=>simp[RowKit.intOf];omega
   |false=>
    go_wp2_with fail
    refine U.out.mono ?_;rintro e g ⟨rfl,B⟩;have O:=Qh (A.out.trans (B.mono A.out.size));have E:Hid (kA (xs.map MP.m)=some j):=Qh (EN (by rw[Qi,H.out];exact N) hA.out (by rw[X.out];exact V.out));clear B c0 c1 c2 c3 c4 c5 c6 c7;go_wp2;go_ret;exact⟨by rw[E.out];rfl,O.out⟩
  ·have t:¬((j:Int)<(n:Int)):=by omega
   have E:Hid (kA (xs.map MP.m)=none):=Qh (uN (fun x hx=>hA.out x (by rw[List.take_of_length_le (by rw[Qi,H.out];omega)];exact hx)));go_wp2;go_ret;exact⟨by rw[E.out];rfl,A.out⟩
end Tre
namespace Tre
open Go.ChangeShapes Go.WideShapes Go.ChangeAt Go.RowKit Base cf cN Bk Mk Mem Go.Lib
variable {N:Nat} {S:St} {α:Type}
theorem qz (k:UInt8) (n:UInt8) (z:Int) (hz:(n.toNat:Int)=z):(((k.toNat:Int))==z)=decide (k=n):=by
 subst hz
 by_cases h:k=n
 ·simp[h]
 ·have:¬k.toNat=n.toNat:=fun A=>h (UInt8.toNat.inj A)
  simp only[h,decide_false,beq_eq_false_iff_ne,ne_eq];omega
theorem CA (k:UInt8) (n:UInt8) (z:Int) (hz:(n.toNat:Int)=z):(((k.toNat:Int)) != z)=!decide (k=n):=by
 rw[←qz k n z hz];rfl
def gr (f:List UInt8→Option Nat):List UInt8→Option Value:=fun x=>(f x).map fun n=>.int .i64 (n:Int)
structure mV (W:World) (g B:Nat) (p:Option Addr) (n c:Nat) (f:List UInt8→Option Nat):Prop where
 obj:au W g 150 #[.slice p n c,.map (some B)]
 map:dd jo W B (gr f)
theorem na {t:TypeId} {cs:Array Value} {K:jh α} {f:α→Option Value} (h:au W g t cs) (hm:dd K W B f):g≠B:=fun e=>by
 obtain⟨es,clock,A,_⟩:=hm;subst e;have D:W.heap[g]? =some (.cells cs t (0,0)):=h;rw[D]at A
 cases A
theorem mV.below {p:Option Addr} {c:Nat} {f:List UInt8→Option Nat} (h:mV W g B p n c f) (hb:Below W.heap.size W W'):mV W' g B p n c f:=
 ⟨h.obj.below hb h.obj.lt,h.map.kept (Kept.aO hb ai) (fun h=>h.elim)⟩
def Ej (w:World) (p:Option Addr) (n c:Nat) (e:Ending) (w':World):Prop:=
 ∃g B,e=.returned (.pointer (some ⟨g,0,none⟩))∧mV w' g B p n c (fun _=>none)∧w.heap.size≤g∧w.heap.size≤B∧Below w.heap.size w w'
theorem F7 (p:Option Addr) (n c:Nat) (w:World):
 Calls Tryz.prog 59 #[.slice p n c] w (Ej w p n c):=by
 have D:=@run_makeMap Tryz.prog
 go_enter Tryz.func59,Tryz.ntmps59
 go_wp2;go_ret;have A:=(jU jo w)
 have B:au ((w.alloc (.map #[] 0)).alloc (.cells #[.slice p n c,.map (some w.heap.size)] 150)) (w.heap.size+1) 150 #[.slice p n c,.map (some w.heap.size)]:=by
  have:=au.new (w.alloc (.map #[] 0)) 150 #[.slice p n c,.map (some w.heap.size)]
  rwa [World.size_alloc]at this
 refine⟨w.heap.size+1,w.heap.size,rfl,⟨B,?_⟩,by omega,Qk _,((Below.refl _ _).alloc (Qk _) _).alloc (by simp) _⟩;exact A.kept ((Kept.refl ai _).alloc _) (fun h=>h.elim)
theorem Ca (q r:α→Bool) (h:∀x,r x=true→q x=true) (l:List α):(l.filter q).find? r=l.find? r:=by
 induction l with
 |nil=>rfl
 |cons a l ih=>
  rw[List.filter_cons]
  by_cases A:q a=true
  ·rw[if_pos A,List.find?_cons,List.find?_cons,ih]
  ·rw[if_neg A,List.find?_cons,ih]
   have:r a=false:=by
    cases B:r a with
    |false=>rfl
    |true=>exact absurd (h a B) A
   rw[this]
theorem O5 (S:St) (p x:List UInt8) (n:Nat):look (ki S p n) x=if x=p then some n else look S x:=by
 unfold look ki;rw[List.find?_append]
 by_cases h:x=p
 ·subst h
  rw[if_pos rfl]
  have:(S.filter fun e=>!(e.1==x)).find? (fun e=>e.1==x)=none:=by
   rw[List.find?_eq_none];intro e he;rw[List.mem_filter]at he
   simpa using he.2
  rw[this];simp
 ·rw[if_neg h,Ca _ _ (fun e he=>by
   have:e.1=x:=by simpa using he
   simpa [this]using h)]
  have A:([(p,n)]:St).find? (fun e=>e.1==x)=none:=by
   have:(p==x)=false:=by simpa using fun e:p=x=>h e.symm
   simp[this]
  rw[A,Option.or_none]
def QE (S:St) (N:Nat):Prop:=∀e∈S,e.2<N
theorem QE.look (h:QE S N) {x:List UInt8} (hl:look S x=some n):n<N:=by
 unfold Tre.look at hl;rw[Option.map_eq_some_iff]at hl;obtain⟨e,he,rfl⟩:=hl;exact h e (List.mem_of_find?_eq_some he)
theorem QE.put (h:QE S N) {p:List UInt8} (hn:n<N):QE (ki S p n) N:=fun e he=>by
 unfold ki at he;rw[List.mem_append,List.mem_filter]at he;rcases he with he|he
 ·exact h e he.1
 ·rw[List.mem_singleton.1 he];exact hn
theorem Sl {ms:List aw} {S':St} (h:kZ ms S i=some S') (hS:QE S ms.length) (hi:i<ms.length):QE S' ms.length:=by
 unfold kZ at h
 dsimp only at h
 split at h
 ·split at h
  ·cases h
  ·next n A=>
   split at h
   ·cases h;exact hS.put (hS.look A)
   ·cases h
 ·cases h;exact hS.put hi
def Hr (W:World) (ms:List aw) (S:St) (i g B:Nat) (p:Option Addr) (n c:Nat) (e:Ending) (w':World):Prop:=
 e=.returned (.bool (kZ ms S i).isSome)∧mV w' g B p n c (look ((kZ ms S i).getD S))∧Kept (ay B) W w'
theorem yV (S:St) (x:List UInt8) (n:Nat):gr (look (ki S x n))=fun y=>if y=x then some (.int .i64 (n:Int))else gr (look S) y:=by
 funext y
 unfold gr;rw[O5]
 by_cases h:y=x<;>simp[h]
theorem Ar (w:World) (g B:Nat) (p:Option Addr) (n c:Nat) (xs:List MP) (S:St) (i:Nat) (W:World) (hM:dD w p n xs) (hb:Below w.heap.size w W) (hB:w.heap.size≤B) (hn:n≤1000000000) (hi:i<n) (hS:QE S n) (hL:mV W g B p n c (look S)):
 Calls Tryz.prog 60 #[.pointer (some ⟨g,0,none⟩),.int .i64 (i:Int)] W (Hr W (xs.map MP.m) S i g B p n c):=by
 have HL:=Qh hM.1;have Oi:=na hL.obj hL.map;have H:=hM.below hb;obtain⟨t,o1,rfl,ck,cF,gw⟩:=H.kU hi;have o:=j3 xs i;obtain⟨y,hy⟩:∃y,xs.getD i cn=y:=⟨_,rfl⟩
 rw[hy]at cF gw o;obtain⟨W1,N⟩:∃W1,W.alloc (.cells y.cs 48)=W1:=⟨_,rfl⟩
 have b:Below W.heap.size W W1:=by rw[←N];exact(Below.refl _ _).alloc (Qk _) _
 have T:au W1 W.heap.size 48 y.cs:=by rw[←N];exact au.new W _ _
 have d:=hL.below b;have HLA:=Qh hL;have A:=Qh d;have Uy:=Qh Oi;have V:=Qh b;have kP:=Qh (H.below b);have HS:=Qh hS;have HY:=Qh T;have uD:=Qh (And.intro hL.obj.lt hL.map.lt);have k0:=hL.obj.cell 0;have g0:=d.obj.cell 0;have g1:=d.obj.cell 1;have f:=T.cell 0;have y1:=T.cell 1;have y2:=T.cell 2;simp only[MP.cs,dj,Qc,Qa,Qb]at k0 g0 g1 f y1 y2;have u:=qz y.m.kind 49 49 rfl;obtain⟨kn,cu⟩:∃k:Int,(y.m.kind.toNat:Int)=k:=⟨_,rfl⟩
 obtain⟨c0,c1,c2,c3,c4,c5,c6,c7⟩:=gw;unfold MP.cs dj at N;rw[cu]at N y2 c2 u;have Y:=Qh o;have hiz:(i:Int)<(n:Int):=by omega
 have QM:(0:Int)≤(i:Int):=by omega
 clear hM hb H ck cF hy b T hL d Oi hS cu o
 go_enter Tryz.func60,Tryz.ntmps60
 go_upto_region 2 with fail
 clear c0 c1 c2 c3 c4 c5 c6 c7 N
 by_cases J:y.m.kind=49
 ·rw[decide_eq_true J]at u
  have MR:=A.out.map.look_ok (P:=Tryz.prog) Tryz.underlying99 Tryz.underlying9 (z:=.int .i64 0) (fun w=>Tryz.zeroValue3 w) y.m.target
  have Z:Hid (∀q:ie W1,(Instr.lookup 99 (.map (some B)) (.string (str y.m.target)) true).run Tryz.prog q.w'=.ok (.tuple #[(gr (look S) y.m.target).getD (.int .i64 0),.bool (gr (look S) y.m.target).isSome]) q.w'):=Qh (fun q=>
   (A.out.map.kept (Kept.aO q.bel ai) (fun h=>h.elim)).look_ok (P:=Tryz.prog) Tryz.underlying99 Tryz.underlying9 (z:=.int .i64 0) (fun w=>Tryz.zeroValue3 w) y.m.target)
  clear MR;obtain⟨fo,xE⟩:∃fo,look S y.m.target=fo:=⟨_,rfl⟩
  have l:=Qh xE;unfold gr at Z;rw[xE]at Z;have r:=Qh J;clear xE J
  cases fo with
  |none=>
   have E:Hid (kZ (xs.map MP.m) S i=none):=Qh (by
    unfold kZ;rw[Y.out]
    dsimp only
    rw[if_pos r.out,l.out])
   have lk:∀m,(Instr.lookup 99 (.map (some B)) (.string (str y.m.target)) true).run Tryz.prog (W1.drewN m)=.ok (.tuple #[.int .i64 0,.bool false]) (W1.drewN m):=fun m=>Z.out ⟨W1.drewN m,below_drewN (Below.refl _ _) m⟩
   go_wp2_with fail
   go_quiet (fail)
   go_wp2;go_ret;exact⟨by rw[E.out];rfl,by rw[E.out];exact A.out.below (below_drewN (Below.refl _ _) _),(Kept.aO V.out (ay B)).drewN _⟩
  |some n0=>
   have Zr:n0<n:=HS.out.look l.out;obtain⟨b2,o2,Cu,bY,O,ju⟩:=kP.out.kU Zr;simp only[Option.some.injEq,Addr.mk.injEq,and_true]at Cu;obtain⟨rfl,rfl⟩:=Cu;have G:=j3 xs n0;obtain⟨v,hv⟩:∃v,xs.getD n0 cn=v:=⟨_,rfl⟩
   rw[hv]at ju G;have z2:=ju.2.2.1;have D:∀m,(W1.drewN m).cell? ⟨t,o1+n0*8+2,none⟩=some (.int .u8 (v.m.kind.toNat:Int)):=fun m=>z2
   have ev:=CA v.m.kind 48 48 rfl;obtain⟨kv,KR⟩:∃k:Int,(v.m.kind.toNat:Int)=k:=⟨_,rfl⟩
   rw[KR]at ev z2 D;have eh:=Qh G;have lk:∀m,(Instr.lookup 99 (.map (some B)) (.string (str y.m.target)) true).run Tryz.prog (W1.drewN m)=.ok (.tuple #[.int .i64 (n0:Int),.bool true]) (W1.drewN m):=fun m=>Z.out ⟨W1.drewN m,below_drewN (Below.refl _ _) m⟩
   have am8:(n0:Int)<(n:Int):=by omega
   have am7:(0:Int)≤(n0:Int):=by omega
   clear bY O ju hv KR G
   by_cases L:v.m.kind=48
   ·rw[decide_eq_true L,Bool.not_true]at ev
    have E:Hid (kZ (xs.map MP.m) S i=some (ki S y.m.path n0)):=Qh (by
     unfold kZ;rw[Y.out]
     dsimp only
     rw[if_pos r.out,l.out]
     dsimp only
     rw[eh.out,if_pos L])
    clear L;go_wp2_with fail
    go_quiet (fail)
    obtain⟨W2,ix⟩:∃W2,W1.drewN nq=W2:=⟨_,rfl⟩
    have M:=A.out.below (below_drewN (Below.refl W1.heap.size W1) nq);have O:=V.out.trans ((below_drewN (Below.refl W1.heap.size W1) nq).mono V.out.size);have I:=HY.out.drewN nq;have z2':=D nq;rw[ix]at M O I z2'⊢;clear ix lk D z2 g0 g1 f y1 y2;have g0:=M.obj.cell 0;have g1:=M.obj.cell 1;have f:=I.cell 0;simp only[MP.cs,dj,Qc,Qa,Qb]at g0 g1 f;have xx:=Qh M;have Uv:=Qh O;clear M O I;go_wp2_with fail
    go_still_tail 7,(by kernel_rfl)
    refine dB (K:=jo) rfl (.tmp 45) (.tmp 47) (.tmp 48) rfl Tryz.underlying99 Tryz.underlying9 B (xx.out.map.kept (Kept.refl ai W2).drew id) rfl y.m.path rfl (.int .i64 (n0:Int)) rfl ?_;intro w5 X R oY
    have F:Hid (mV w5 g B (some ⟨t,o1,none⟩) n c (look (ki S y.m.path n0))∧Kept (ay B) W w5):=by
     have U:Kept (ay B) W2 w5:=((Kept.refl (ay B) W2).drew).trans R.out;refine Qh ⟨⟨xx.out.obj.bV U Uy.out,?_⟩,(Kept.aO Uv.out (ay B)).trans U⟩;rw[yV];exact X.out
    clear X R oY;go_wp2;go_ret;exact⟨by rw[E.out];rfl,by rw[E.out];exact F.out.1,F.out.2⟩
   ·rw[decide_eq_false L,Bool.not_false]at ev
    have E:Hid (kZ (xs.map MP.m) S i=none):=Qh (by
     unfold kZ;rw[Y.out]
     dsimp only
     rw[if_pos r.out,l.out]
     dsimp only
     rw[eh.out,if_neg L])
    clear L;go_wp2_with fail
    go_quiet (fail)
    go_wp2;go_ret;exact⟨by rw[E.out];rfl,by rw[E.out];exact A.out.below (below_drewN (Below.refl _ _) _),(Kept.aO V.out (ay B)).drewN _⟩
 ·rw[decide_eq_false J]at u
  have E:Hid (kZ (xs.map MP.m) S i=some (ki S y.m.path i)):=Qh (by
   unfold kZ;rw[Y.out]
   dsimp only
   rw[if_neg J])
  clear J;go_wp2_with fail
  go_still_tail 7,(by kernel_rfl)
  refine dB (K:=jo) rfl (.tmp 45) (.tmp 47) (.tmp 48) rfl Tryz.underlying99 Tryz.underlying9 B (A.out.map.kept (Kept.refl ai W1).drew id) rfl y.m.path rfl (.int .i64 (i:Int)) rfl ?_;intro w5 X R oY
  have F:Hid (mV w5 g B (some ⟨t,o1,none⟩) n c (look (ki S y.m.path i))∧Kept (ay B) W w5):=by
   have U:Kept (ay B) W1 w5:=((Kept.refl (ay B) W1).drew).trans R.out;refine Qh ⟨⟨A.out.obj.bV U Uy.out,?_⟩,(Kept.aO V.out (ay B)).trans U⟩;rw[yV];exact X.out
  clear X R oY;go_wp2;go_ret;exact⟨by rw[E.out];rfl,by rw[E.out];exact F.out.1,F.out.2⟩
end Tre
namespace Tre
open Mem
variable {ms:List aw} {f:Nat} {S T:St}
def jX (S:St):Prop:=(S.map (·.1)).Nodup
theorem jX.put (h:jX S) (p:List UInt8) (n:Nat):jX (ki S p n):=by
 unfold jX ki at*;rw[List.map_append,List.nodup_append];refine⟨(List.Sublist.nodup (List.Sublist.map _ (List.filter_sublist)) h),by simp,?_⟩;intro a A b B;simp only[List.map_cons,List.map_nil,List.mem_singleton]at B;subst B;rw[List.mem_map]at A;obtain⟨e,he,rfl⟩:=A;rw[List.mem_filter]at he
 simpa using he.2
theorem CO (h:jX S) {e:List UInt8 × Nat} (he:e∈S):look S e.1=some e.2:=by
 unfold look jX at*
 induction S with
 |nil=>cases he
 |cons a S ih=>
  rw[List.map_cons,List.nodup_cons]at h;rw[List.find?_cons]
  by_cases A:a.1=e.1
  ·have:(a.1==e.1)=true:=by simpa using A
   rw[this];rcases List.mem_cons.1 he with rfl|he'
   ·rfl
   ·exact absurd (List.mem_map.2 ⟨e,he',A.symm⟩) h.1
  ·have:(a.1==e.1)=false:=by simpa using A
   rw[this];rcases List.mem_cons.1 he with rfl|he'
   ·exact absurd rfl A
   ·exact ih h.2 he'
theorem ny (x:List UInt8):(look S x).isSome=true↔x∈S.map (·.1):=by
 unfold look;rw[Option.isSome_map,List.find?_isSome,List.mem_map];constructor
 ·rintro⟨e,he,h⟩;exact⟨e,he,by simpa using h⟩
 ·rintro⟨e,he,h⟩;exact⟨e,he,by simpa using h⟩
theorem FO {S':St} (h:kZ ms S i=some S') (hS:jX S):jX S':=by
 unfold kZ at h
 dsimp only at h
 split at h
 ·split at h
  ·cases h
  ·split at h
   ·cases h;exact hS.put _ _
   ·cases h
 ·cases h;exact hS.put _ _
theorem sZ (ms:List aw):∀k S,fA ms k=.ok S→jX S
 |0,S,h=>by cases h;exact List.nodup_nil
 |k+1,S,h=>by
  unfold fA at h;split at h
  ·cases h
  ·next A B=>
   split at h
   ·cases h
   ·next D h1=>cases h;exact FO h1 (sZ ms k A B)
theorem vN (ms:List aw):∀k S,k≤ms.length→fA ms k=.ok S→QE S ms.length
 |0,S,_,h=>by cases h;intro e he;cases he
 |k+1,S,hk,h=>by
  unfold fA at h;split at h
  ·cases h
  ·next A B=>
   split at h
   ·cases h
   ·next D h1=>cases h;exact Sl h1 (vN ms k A (by omega) B) (by omega)
def Hv (T:St):Prop:=T.Pairwise fun a b=>eH a.1 b.1=true
theorem K6 (a b c:List UInt8 × Nat) (h1:O0 a b=true) (h2:O0 b c=true):O0 a c=true:=by
 unfold O0 at*;simp only[Bool.not_eq_true']at*
 cases h:eH c.1 a.1 with
 |false=>rfl
 |true=>rw[AD (a:=b.1) (b:=c.1) (c:=a.1) h2 h]at h1;cases h1
theorem K5 (a b:List UInt8 × Nat):(O0 a b||O0 b a)=true:=by
 unfold O0
 cases h:eH b.1 a.1 with
 |false=>simp
 |true=>rw[qE h];simp
theorem pN (S:St):(mL S).Perm S:=List.mergeSort_perm S O0
theorem wZ (h:jX S):Hv (mL S):=by
 have h1:=List.pairwise_mergeSort K6 K5 S;have A:((mL S).map (·.1)).Nodup:=((pN S).map _).nodup_iff.2 h;have B:(mL S).Pairwise fun a b=>a.1≠b.1:=(List.pairwise_map (f:=fun e:List UInt8 × Nat=>e.1)).1 A
 refine((show(mL S).Pairwise (fun a b=>O0 a b=true)from h1).and B).imp fun⟨h4,h5⟩=>?_
 unfold O0 at h4;exact mq (by simpa using h4) (fun e=>h5 e.symm)
theorem GZ (h:jX S) (hp:T.Perm S) (hr:Hv T):T=mL S:=by
 have A:T.Pairwise fun(a b:List UInt8 × Nat)=>eH a.1 b.1=true:=hr
 have B:(mL S).Pairwise fun(a b:List UInt8 × Nat)=>eH a.1 b.1=true:=wZ h
 refine List.Perm.eq_of_pairwise (fun a b _ _ (h1:eH a.1 b.1=true) (h2:eH b.1 a.1=true)=>?_) A B (hp.trans (pN S).symm);rw[qE h1]at h2;cases h2
theorem K0 (h:jX S) {ts:List (List UInt8)} (hp:ts.Perm (S.map (·.1))) (hr:ts.Pairwise fun a b=>eH a b=true):mL S=ts.map fun x=>(x,(look S x).getD 0):=by
 symm
 refine GZ h ?_ ?_
 ·have:=hp.map fun x=>(x,(look S x).getD 0)
  refine this.trans (List.Perm.of_eq ?_);rw[List.map_map]
  conv=>rhs;rw[←List.map_id S]
  refine List.map_congr_left fun e he=>?_
  simp only[Function.comp,CO h he,Option.getD_some,id]
 ·unfold Hv
  rw[List.pairwise_map];exact hr
theorem FT (hk:k<T.length) (h:∀j,j<k→(T.getD j ([],0)).2≠(T.getD k ([],0)).2):pg T (T.getD k ([],0)).2=(T.getD k ([],0)).1:=by
 unfold pg;have A:T.getD k ([],0)=T[k]:=by rw[List.getD,Qd hk];rfl
 rw[A]at h⊢
 have:T.find? (fun e=>e.2==T[k].2)=some T[k]:=by
  rw[List.find?_eq_some_iff_getElem];refine⟨by simp,k,hk,rfl,fun j B=>?_⟩;have:=h j B;rw[List.getD,Qd (show j<T.length by omega)]at this
  simpa using this
 rw[this];rfl
def fW (T:St) (n:Nat):Option Nat:=T.findIdx? fun e=>e.2==n
theorem CI (h:fW T n=some f):pg T n=(T.getD f ([],0)).1:=by
 unfold fW at h;rw[List.findIdx?_eq_some_iff_getElem]at h;obtain⟨hf,h1,A⟩:=h;unfold pg
 have:T.find? (fun e=>e.2==n)=some T[f]:=by
  rw[List.find?_eq_some_iff_getElem];exact⟨h1,f,hf,rfl,fun j B=>by simpa using A j B⟩
 rw[this,List.getD,Qd hf];rfl
theorem gJ (T:St) (k n:Nat) (hk:k<T.length):fW (T.take (k+1)) n=(fW (T.take k) n).or (if(T.getD k ([],0)).2=n then some k else none):=by
 unfold fW;rw[List.take_succ_eq_append_getElem hk,List.findIdx?_append]
 congr 1
 have A:T.getD k ([],0)=T[k]:=by rw[List.getD,Qd hk];rfl
 rw[A]
 by_cases h:T[k].2=n
 ·simp[h,List.findIdx?_cons]
  omega
 ·have:(T[k].2==n)=false:=by simpa using h
  simp[h,List.findIdx?_cons,this]
theorem zS (h:fW (T.take k) n=some f):fW T n=some f:=by
 unfold fW at*
 conv=>lhs;rw[←List.take_append_drop k T,List.findIdx?_append,h]
 rfl
def leads (ms:List aw) (T:St) (k n:Nat):Option Nat:=if(ms.getD n dy).kind=48 then fW (T.take k) n else none
theorem FU (ms:List aw) (T:St) (n:Nat):leads ms T 0 n=none:=by
 unfold leads;split<;>rfl
theorem CJ (hk:k<T.length) (h:(ms.getD (T.getD k ([],0)).2 dy).kind≠48):leads ms T (k+1)=leads ms T k:=by
 funext n
 unfold leads;split
 ·next A=>
  rw[gJ T k n hk,if_neg (fun e=>h (by rw[e];exact A)),Option.or_none]
 ·rfl
theorem K8 (hk:k<T.length) (h:leads ms T k (T.getD k ([],0)).2=some f):leads ms T (k+1)=leads ms T k:=by
 funext n
 unfold leads at*;split
 ·next A=>
  rw[gJ T k n hk]
  by_cases e:(T.getD k ([],0)).2=n
  ·rw[e,if_pos A]at h
   rw[h];rfl
  ·rw[if_neg e,Option.or_none]
 ·rfl
theorem K7 (hk:k<T.length) (hf:(ms.getD (T.getD k ([],0)).2 dy).kind=48) (h:leads ms T k (T.getD k ([],0)).2=none):leads ms T (k+1)=fun n=>if n=(T.getD k ([],0)).2 then some k else leads ms T k n:=by
 funext n
 unfold leads at*;rw[if_pos hf]at h
 by_cases e:n=(T.getD k ([],0)).2
 ·rw[if_pos e,e,if_pos hf,gJ T k _ hk,h,if_pos rfl];rfl
 ·rw[if_neg e]
  split
  ·rw[gJ T k n hk,if_neg (fun h=>e h.symm),Option.or_none]
  ·rfl
theorem vR (hk:k<T.length) (hf:(ms.getD (T.getD k ([],0)).2 dy).kind=48):pg T (T.getD k ([],0)).2=(T.getD ((leads ms T k (T.getD k ([],0)).2).getD k) ([],0)).1:=by
 have h1:fW (T.take (k+1)) (T.getD k ([],0)).2=some ((leads ms T k (T.getD k ([],0)).2).getD k):=by
  rw[gJ T k _ hk,if_pos rfl];unfold leads;rw[if_pos hf]
  cases fW (T.take k) (T.getD k ([],0)).2<;>rfl
 exact CI (zS h1)
theorem O1 (h:leads ms T k n=some f):f<k∧f<T.length:=by
 unfold leads at h;split at h
 ·unfold fW at h
  rw[List.findIdx?_eq_some_iff_getElem]at h;obtain⟨h1,_⟩:=h;rw[Qg]at h1;omega
 ·cases h
end Tre
namespace Tre
open Go.ChangeShapes Go.WideShapes Go.ChangeAt Go.RowKit Base cf cN Bk Mk Mem Go.Lib
variable {ms:List aw} {S S':St}
theorem wQ {fn:Func} (hf:fn.results=#[.tmp 2,.cell 3 32]) (tmps:Array Value) (w:World) (g:Nat) (v:Value) (ht:tmps.getD 3 undef=.pointer (some ⟨g,0,none⟩)) (hv:tmps.getD 2 undef=v)
 (a b:Int) (hb:au w g 32 #[.int .i64 a,.int .i64 b]):(results fn tmps).run Tryz.prog w=.ok (.tuple #[v,.agg #[.int .i64 a,.int .i64 b]]) w:=by
 have c0:=hb.cell 0;have c1:=hb.cell 1;simp only[Qc,Qa,Qb]at c0 c1;clear hb;have hl:(loadVar 32 ⟨g,0,none⟩).run Tryz.prog w=.ok (.agg #[.int .i64 a,.int .i64 b]) w:=by go_simp
 have B:tmps[3]?.getD undef=.pointer (some ⟨g,0,none⟩):=by simpa using ht
 have A:tmps[2]?.getD undef=v:=by simpa using hv
 simp only[results,hf];simp[Result.andThen,B,A,asAddr,hl]
theorem qe {x y:Value} (h:au w g 32 #[x,y]) (a b:Value):au ((w.setCell ⟨g,0,none⟩ a).setCell ⟨g,1,none⟩ b) g 32 #[a,b]:=
 (h.set 0 a (by show 0<2;decide)).set 1 b (by show 1<2;decide)
theorem PG (S:St) (p:List UInt8) (n:Nat):(ki S p n).length≤S.length+1:=by
 unfold ki;rw[Qf];have:=List.length_filter_le (fun e:List UInt8 × Nat=>!(e.1==p)) S
 simpa using this
structure U0 (ms:List aw) (S:St) (k:Nat):Prop where
 len:S.length≤k
 from_:∀e∈S,∃j,j<k∧e.1=(ms.getD j dy).path
theorem U0.put (h:U0 ms S k) (n:Nat):U0 ms (ki S (ms.getD k dy).path n) (k+1):=by
 refine⟨Nat.le_trans (PG _ _ _) (Nat.succ_le_succ h.len),fun e he=>?_⟩;unfold ki at he;rw[List.mem_append,List.mem_filter]at he;rcases he with he|he
 ·obtain⟨j,B,A⟩:=h.from_ e he.1
  exact⟨j,by omega,A⟩
 ·rw[List.mem_singleton.1 he]
  exact⟨k,by omega,rfl⟩
theorem U0.lay (h:U0 ms S k) (hl:kZ ms S k=some S'):U0 ms S' (k+1):=by
 unfold kZ at hl
 dsimp only at hl
 split at hl
 ·split at hl
  ·cases hl
  ·split at hl
   ·cases hl;exact h.put _
   ·cases hl
 ·cases hl;exact h.put _
theorem CE (ms:List aw):∀k S,fA ms k=.ok S→U0 ms S k
 |0,S,h=>by cases h;exact⟨Qk _,fun e he=>by cases he⟩
 |k+1,S,h=>by
  unfold fA at h;split at h
  ·cases h
  ·next A B=>
   split at h
   ·cases h
   ·next D h1=>cases h;exact(CE ms k A B).lay h1
theorem vP (h:fA ms k=.ok S) (hl:kZ ms S k=some S'):fA ms (k+1)=.ok S':=by
 unfold fA;rw[h]
 dsimp only
 rw[hl]
theorem FP (h:fA ms k=.ok S) (hl:kZ ms S k=none):fA ms (k+1)=.error k:=by
 unfold fA;rw[h]
 dsimp only
 rw[hl]
theorem vO {ms:List aw} {k:Nat} {i:Nat} (h:fA ms k=.error i):∀d,fA ms (k+d)=.error i
 |0=>h
 |d+1=>by
  show fA ms ((k+d)+1)=_;unfold fA;rw[vO h d]
theorem KB (h:kA ms=some i):iX ms=([],1,i):=by
 unfold kA at h;unfold iX;rw[h]
theorem Fj (h:kA ms=none) (h2:fA ms ms.length=.error i):iX ms=([],7,i):=by
 unfold kA at h;unfold iX;rw[h]
 dsimp only
 rw[h2]
theorem Cd (h:kA ms=none) (h2:fA ms ms.length=.ok S):iX ms=(nX ms S,0,0):=by
 unfold kA at h;unfold iX;rw[h]
 dsimp only
 rw[h2]
end Tre
namespace Mem
open Go.ChangeShapes Go.WideShapes Go.ChangeAt Go.RowKit Base cf cN Bk Hp Head rr Path Go.Lib
theorem Kl (p q:Option Addr) (n c m d:Nat) (a b:List UInt8) (w:World) (ha:a.length=n) (hb:b.length=m) (h1:cK w p n a) (h2:cK w q m b):
 Calls Tryz.prog 78 #[.slice p n c,.slice q m d] w fun e w'=>e=.returned (.bool (decide (a=b)))∧w=w':=by
 have c1:(convert 26 9 (.slice p n c)).run Tryz.prog w=.ok (.string (str a)) w:=cw h1 ha _ _ _ Tryz.underlying26 Tryz.underlying5 Tryz.underlying9 _;have c2:(convert 26 9 (.slice q m d)).run Tryz.prog w=.ok (.string (str b)) w:=cw h2 hb _ _ _ Tryz.underlying26 Tryz.underlying5 Tryz.underlying9 _
 have A:((str a).toList==(str b).toList)=decide (a=b):=by
  rw[av,av]
  by_cases h:a=b<;>simp[h]
 clear h1 h2
 go_enter Tryz.func78,Tryz.ntmps78
 go_wp2;go_ret;exact⟨rfl,rfl⟩
theorem sL (a b c d a' b' c' d':Int) (n:Nat) (w:World):(Op.equalIn (n+1+1) 46 (.agg #[.int .i64 a,.int .i64 b,.int .i64 c,.int .i64 d]) (.agg #[.int .i64 a',.int .i64 b',.int .i64 c',.int .i64 d'])).run Tryz.prog w=.ok (decide (a=a'∧b=b'∧c=c'∧d=d')) w:=by
 have A:Tryz.prog.underlying 46=some (.struct (Tryz.prog.fieldsOf 46)):=by kernel_rfl
 have B:Tryz.prog.stoodInHeld 46=false:=by kernel_rfl
 rw[run_equalIn_agg (P:=Tryz.prog) w (n+1) 46 _ _ A B];clear A B;simp only[Program.fieldsOf,Tryz.underlying46]
 go_simp
 by_cases D:a=a'<;>by_cases E:b=b'<;>by_cases G:c=c'<;>by_cases H:d=d'<;>simp[D,E,G,H]
theorem NJ (a b c d a' b' c' d':Int) (w:World):(binOp .eql 46 (.agg #[.int .i64 a,.int .i64 b,.int .i64 c,.int .i64 d]) (.agg #[.int .i64 a',.int .i64 b',.int .i64 c',.int .i64 d'])).run Tryz.prog w=.ok (.bool (decide (a=a'∧b=b'∧c=c'∧d=d'))) w:=by
 rw[run_eql_struct,show(10000:Nat)=9998+1+1 from rfl,sL];rfl
theorem Ta (a b:aw):decide (a=b)=(decide (a.path=b.path)&&(decide (a.target=b.target)&&((((a.kind.toNat:Int))==(b.kind.toNat:Int))&&(decide (a.mode=b.mode∧a.uid=b.uid∧a.gid=b.gid∧a.time=b.time)&&decide (a.body=b.body))))):=by
 have s2:(((a.kind.toNat:Int))==(b.kind.toNat:Int))=decide (a.kind=b.kind):=by
  by_cases h:a.kind=b.kind
  ·simp[h]
  ·have:¬a.kind.toNat=b.kind.toNat:=fun A=>h (UInt8.toNat.inj A)
   simp only[h,decide_false,beq_eq_false_iff_ne,ne_eq];omega
 rw[s2,Bool.eq_iff_iff];simp only[decide_eq_true_eq,Bool.and_eq_true];constructor
 ·rintro rfl;simp
 ·rintro⟨h1,h2,h3,⟨h4,h5,h6,h7⟩,h8⟩
  cases a;cases b;simp_all
end Mem
namespace Tre
open Go.ChangeShapes Go.WideShapes Go.ChangeAt Go.RowKit Base cf cN Bk Mem Go.Lib
theorem Vd (a b:aC):Xl a b=(decide (a.path=b.path)&&(decide (a.target=b.target)&&((((a.kind.toNat:Int))==(b.kind.toNat:Int))&&(decide (a.mode=b.mode∧a.uid=b.uid∧a.gid=b.gid∧a.time=b.time)&&decide (a.body=b.body))))):=Ta a.mem b.mem
theorem Ve (a b:aC):Xl a b=(decide (a.path=b.path)&&((((a.kind.toNat:Int))==(b.kind.toNat:Int))&&(decide (a.mode=b.mode∧a.uid=b.uid∧a.gid=b.gid∧a.time=b.time)&&(decide (a.target=b.target)&&decide (a.body=b.body))))):=by
 rw[Vd]
 cases decide (a.path=b.path)<;>cases decide (a.target=b.target)<;>cases (((a.kind.toNat:Int))==(b.kind.toNat:Int))<;>cases decide (a.mode=b.mode∧a.uid=b.uid∧a.gid=b.gid∧a.time=b.time)<;>cases decide (a.body=b.body)<;>rfl
theorem Dz (a b:NP) (w:World) (h1:cY w a) (h2:cY w b):
 Calls Tryz.prog 30 #[.agg a.cs,.agg b.cs] w fun e w'=>e=.returned (.bool (Xl a.m b.m))∧Below w.heap.size w w':=by
 rw[Ve];have h1:=h1.gC;have h2:=h2.gC;unfold NP.cs gB;obtain⟨n,L⟩:∃n,a.m.body.length=n:=⟨_,rfl⟩
 obtain⟨m,hm⟩:∃m,b.m.body.length=m:=⟨_,rfl⟩
 obtain⟨M,T⟩:∃k:Int,(a.m.kind.toNat:Int)=k:=⟨_,rfl⟩
 obtain⟨N,H⟩:∃k:Int,(b.m.kind.toNat:Int)=k:=⟨_,rfl⟩
 rw[L]at h1;rw[hm]at h2;rw[L,hm,T,H]
 have Y:((str a.m.path).toList==(str b.m.path).toList)=decide (a.m.path=b.m.path):=by
  rw[av,av]
  by_cases h:a.m.path=b.m.path<;>simp[h]
 have Z:((str a.m.target).toList==(str b.m.target).toList)=decide (a.m.target=b.m.target):=by
  rw[av,av]
  by_cases h:a.m.target=b.m.target<;>simp[h]
 have f:=fun w=>NJ a.m.mode a.m.uid a.m.gid a.m.time b.m.mode b.m.uid b.m.gid b.m.time w
 have g:((str a.m.body).toList==(str b.m.body).toList)=decide (a.m.body=b.m.body):=by
  rw[av,av]
  by_cases h:a.m.body=b.m.body<;>simp[h]
 obtain⟨l,O⟩:∃x,decide (a.m.path=b.m.path)=x:=⟨_,rfl⟩
 obtain⟨o,R⟩:∃x,decide (a.m.target=b.m.target)=x:=⟨_,rfl⟩
 obtain⟨q,d⟩:∃x,(M==N)=x:=⟨_,rfl⟩
 obtain⟨r,E⟩:∃x,decide (a.m.mode=b.m.mode∧a.m.uid=b.m.uid∧a.m.gid=b.m.gid∧a.m.time=b.m.time)=x:=⟨_,rfl⟩
 obtain⟨u,I⟩:∃x,decide (a.m.body=b.m.body)=x:=⟨_,rfl⟩
 rw[O]at Y;rw[R]at Z;simp only[E]at f;rw[I]at g;rw[O,R,d,E,I];have t:=Qh I;have U:=Qh (And.intro L hm);clear O R E I L hm T H;obtain⟨W2,D⟩:∃W2,(w.alloc (.cells #[.string (str a.m.path),.string (str a.m.target),.string (str a.m.ag),.int .u8 M,.int .i64 a.m.mode,.int .i64 a.m.uid,.int .i64 a.m.gid,.int .i64 a.m.time,.slice a.p n a.c] 52)).alloc (.cells #[.string (str b.m.path),.string (str b.m.target),.string (str b.m.ag),.int .u8 N,.int .i64 b.m.mode,.int .i64 b.m.uid,.int .i64 b.m.gid,.int .i64 b.m.time,.slice b.p m b.c] 52)=W2:=⟨_,rfl⟩
 have J:Below w.heap.size w W2:=by rw[←D];exact((Below.refl w.heap.size w).alloc (Qk _) _).alloc (by simp) _
 have G:=Qh J;have V:=Qh (h1.below J);have X:=Qh (h2.below J);have A:au W2 w.heap.size 52 #[.string (str a.m.path),.string (str a.m.target),.string (str a.m.ag),.int .u8 M,.int .i64 a.m.mode,.int .i64 a.m.uid,.int .i64 a.m.gid,.int .i64 a.m.time,.slice a.p n a.c]:=by rw[←D];exact(au.new w _ _).alloc _
 have B:au W2 (w.heap.size+1) 52 #[.string (str b.m.path),.string (str b.m.target),.string (str b.m.ag),.int .u8 N,.int .i64 b.m.mode,.int .i64 b.m.uid,.int .i64 b.m.gid,.int .i64 b.m.time,.slice b.p m b.c]:=by
  have:=au.new (w.alloc (.cells #[.string (str a.m.path),.string (str a.m.target),.string (str a.m.ag),.int .u8 M,.int .i64 a.m.mode,.int .i64 a.m.uid,.int .i64 a.m.gid,.int .i64 a.m.time,.slice a.p n a.c] 52)) 52 #[.string (str b.m.path),.string (str b.m.target),.string (str b.m.ag),.int .u8 N,.int .i64 b.m.mode,.int .i64 b.m.uid,.int .i64 b.m.gid,.int .i64 b.m.time,.slice b.p m b.c];rw[World.size_alloc]at this;rw[←D];exact this
 have c0:=A.cell 0;have d0:=B.cell 0;have c1:=A.cell 1;have d1:=B.cell 1;have c3:=A.cell 3;have d3:=B.cell 3;have c4:=A.cell 4;have d4:=B.cell 4;have c5:=A.cell 5;have d5:=B.cell 5;have c6:=A.cell 6;have d6:=B.cell 6;have c7:=A.cell 7;have d7:=B.cell 7;have W:=A.cell 8;have d8:=B.cell 8;simp only[Qc,Qa,Qb]at c0 d0 c1 d1 c3 d3 c4 d4 c5 d5 c6 d6 c7 d7 W d8;have v1:(convert 26 9 (.slice a.p n a.c)).run Tryz.prog W2=.ok (.string (str a.m.body)) W2:=cw V.out U.out.1 _ _ _ Tryz.underlying26 Tryz.underlying5 Tryz.underlying9 _;have v2:(convert 26 9 (.slice b.p m b.c)).run Tryz.prog W2=.ok (.string (str b.m.body)) W2:=cw X.out U.out.2 _ _ _ Tryz.underlying26 Tryz.underlying5 Tryz.underlying9 _;clear A B J h1 h2
 cases l with
 |false=>
  go_enter Tryz.func30,Tryz.ntmps30
  go_upto_region 1 with fail
  clear D;go_wp2;go_ret;exact⟨rfl,G.out⟩
 |true=>
  cases q with
  |false=>
   go_enter Tryz.func30,Tryz.ntmps30
   go_upto_region 1 with fail
   clear D;go_wp2;go_ret;exact⟨rfl,G.out⟩
  |true=>
   cases r with
   |false=>
    go_enter Tryz.func30,Tryz.ntmps30
    go_upto_region 1 with fail
    clear D;go_wp2;go_ret;exact⟨rfl,G.out⟩
   |true=>
    cases o with
    |false=>
     go_enter Tryz.func30,Tryz.ntmps30
     go_upto_region 1 with fail
     clear D;go_wp2;go_ret;exact⟨rfl,G.out⟩
    |true=>
     go_enter Tryz.func30,Tryz.ntmps30
     go_upto_region 1 with fail
     clear D;go_wp2;go_ret;exact⟨rfl,G.out⟩
theorem Ln {t:TypeId} {a b:Int} {q:Option Addr} {zs:List NP} (hb:au w g t #[.int .i64 a,.int .i64 b]) (h:aV w q n zs) (hk:Kept (ay g) w w'):aV w' q n zs:=by
 have E:∀{i:Nat} {v:Value},w.cell? ⟨g,i,none⟩=some v→v=.int .i64 a∨v=.int .i64 b:=fun {i v} hv=>by
  rw[hb.cell]at hv
  match i,hv with
  |0,hv=>cases hv;exact .inl rfl
  |1,hv=>cases hv;exact .inr rfl
 refine⟨h.1,fun y hy=>(h.2.1 y hy).kept hk (fun B z J H=>?_),fun B=>?_⟩
 ·obtain⟨A,o,he,_,hc⟩:=(h.2.1 y hy).gC.cell B
  rw[J]at he
  cases he
  have e:A=g:=H;have c0:=hc 0 B;rw[e]at c0;rcases E c0 with h|h<;>cases h
 ·obtain⟨A,o,he,G,hc⟩:=h.2.2 B
  refine⟨A,o,he,Nat.lt_of_lt_of_le G hk.size,fun i hi j I=>?_⟩
  have D:A≠g:=fun e=>by
   have c0:=hc 0 B 0 (by omega);rw[e]at c0;rcases E c0 with h|h<;>cases h
  rw[World.cell?_of_block (hk.block A G (fun h=>D h))];exact hc i hi j I
theorem ah9 (a b:List UInt8):((str a).toList==(str b).toList)=decide (a=b):=by
 rw[av,av]
 by_cases h:a=b<;>simp[h]
end Tre
namespace Wr
open Go.ChangeShapes Go.WideShapes Go.ChangeAt Go.RowKit Base cf cN Bk Hp Head Rec Attr Mem Block Go.Lib
theorem P3 (w:World) (B:Nat):tX (w.alloc (.cells #[.slice none 0 0] 105)) w.heap.size B (.slice none 0 0) []:=
 ⟨au.new w _ _,World.ownsRow_nil _ _ _ _⟩
def yd (w:World) (bs:List UInt8) (e:Ending) (w':World):Prop:=∃v,e=.returned (.tuple #[v,.int .i64 0])∧cR w' w.heap.size v bs.length bs∧Below w.heap.size w w'
end Wr
namespace Mem
open Go.ChangeShapes Go.WideShapes Go.ChangeAt Go.RowKit Base cf cN Bk Hp Head rr Path Block Go.Lib
theorem Mn (l:List UInt8) (k:Nat) (h:k<l.length):l.take (k+1)=l.take k++[l.getD k 0]:=by
 rw[List.take_succ_eq_append_getElem h];simp[List.getD,h]
theorem Pj (l:List UInt8) (k:Nat) (h:k<l.length):l.getD k 0∈l:=by
 rw[List.getD,Qd h];exact List.getElem_mem h
theorem zh (s:ByteArray) (w:World) (hm:s.size≤140737488351232):
 Calls Tryz.prog 90 #[.string s] w fun e w'=>e=.returned (.bool (gm s.data.toList))∧w=w':=by
 have G:Hid (s.data.toList.length=s.size):=Qh (by simp)
 go_enter Tryz.func90,Tryz.ntmps90
 go_wp2
 go_loop [3] (fun i=>∃(k:Nat),k≤s.size∧i=.int .i64 k∧Hid (∀x∈s.data.toList.take k,x.toNat≤127)) (fun i=>s.size - (RowKit.intOf i).toNat)
 case atStart=>exact⟨0,Nat.zero_le _,rfl,Qh (by simp)⟩
 case round=>
  obtain⟨k,hk,rfl,H⟩:=hrel
  by_cases D:k<s.size
  ·have B:Hid (((s[k]).toNat:Int)=((s.data.toList.getD k 0).toNat:Int)):=Qh (by rw[s_at s k D])
   have A:k<s.data.toList.length:=by rw[G.out];exact D
   have L:=Qh (Mn s.data.toList k A);have J:=Qh (Pj s.data.toList k A);clear A;have I:=zy (s[k]);obtain⟨O,T⟩:=I
   by_cases R:(127:Int)<((s[k]).toNat:Int)
   ·have E:Hid (gm s.data.toList=false):=Qh (by
     unfold gm;rw[Bool.eq_false_iff];intro h;have:=of_decide_eq_true (List.all_eq_true.1 h _ J.out);have M:=B.out
     omega)
    go_wp2;go_ret;rw[E.out];exact⟨rfl,rfl⟩
   ·go_wp2
    go_round
    case rel=>exact⟨k+1,by omega,by go_num,Qh (fun y hy=>by
     rw[L.out,List.mem_append]at hy;rcases hy with hy|hy
     ·exact H.out y hy
     ·simp only[List.mem_singleton]at hy
      subst hy;have M:=B.out
      omega)⟩
    case measure=>simp[RowKit.intOf];omega
  ·have E:Hid (gm s.data.toList=true):=Qh (by
    unfold gm;rw[List.all_eq_true];intro x N
    exact decide_eq_true (H.out x (by rw[List.take_of_length_le (by rw[G.out];omega)];exact N)))
   go_wp2;go_ret;rw[E.out];exact⟨rfl,rfl⟩
def lR (w:World) (bs:List UInt8) (e:Ending) (w':World):Prop:=∃v,e=.returned v∧cR w' w.heap.size v bs.length bs∧Kept ai w w'
theorem tw (p:Option Addr) (n c:Nat) (bs:List UInt8) (w:World) (hl:bs.length=n) (hn:n≤100000000000) (h:cK w p n bs):
 Calls Tryz.prog 94 #[.slice p n c] w (lR w (fr bs)):=by
 obtain⟨i0,hi,O,M,N⟩:=info_parts iy;have I:=Qh hi;have U:=Qh O;have T:=Qh M;have V:=Qh N;have X:=Qh h;have G:=Qh hl;clear hi O M N h hl;have J:=fG n;have hdiv:((n:Int)+511) / 512*512=((bg n:Nat):Int):=by unfold bg;omega
 obtain⟨B,H⟩:∃B,bg n=B:=⟨_,rfl⟩
 rw[H]at J hdiv;have A:=Qh H;clear H;obtain⟨b,Z⟩:=J
 go_enter Tryz.func94,Tryz.ntmps94
 go_wp2_with (at_builtin;refine eU rfl _ _ 26 rfl w.heap.size 5 i0 Tryz.underlying26 I.out U.out T.out V.out _ 0 [] rfl (World.ownsRow_made w #[] 0 (Qk _) (by decide) rfl) p n c bs rfl (X.out.alloc _) G.out ?d2 ?d3 ?_)
 case d2=>omega
 case d3=>simp
 intro v1 W D E;have L:Hid (cR W w.heap.size v1 n bs):=Qh (by simpa [cR]using D);have R:Hid (Kept ai w W):=Qh ((((Kept.refl ai w).alloc _)).grown E (by intro k hk;simp[Value.ownBlock]at hk;omega));clear D E
 go_wp2_with (at_builtin;refine lq rfl _ _ 26 3 rfl w.heap.size 5 i0 .i64 .i64 Tryz.underlying26 Tryz.underlying3 I.out U.out T.out V.out v1 n (nums bs) rfl L.out _ (B - n) rfl ?e1 ?e2 R.out.size ?_)
 case e1=>omega
 case e2=>omega
 intro v2 Y D E _
 have F:Hid (lR w (fr bs) (.returned v2) Y):=Qh (by
  refine⟨v2,rfl,?_,R.out.grown E (fun k hk=>.inl (L.out.lt k hk).1)⟩
  have e:nums (fr bs)=nums bs++xo (B - n):=by
   unfold fr;rw[G.out,A.out,←show nums (List.replicate (B - n) 0)=xo (B - n) by simp[nums,xo]];unfold nums;rw[List.map_append]
  unfold cR;rw[e,bu,G.out,A.out];rw[List.map_append]
  exact D)
 clear D E;go_wp2;go_ret;exact F.out
end Mem
namespace Mem
open Go.ChangeShapes Go.WideShapes Go.ChangeAt Go.RowKit Go.Shelf Base cf cN Bk Hp Head Go.Proofs.YtdhibldkldlfpaaGreatDoor.Mp Block Go.Lib
variable {Q:Exit→Act→World→Prop} {w1:World}
theorem Mz {P:Program} {ops ops':Array Oper} {a:Act} (h:ops=ops') (hw:wpAny P .any ops' Q ops'.size (Array.replicate ops'.size false) a w):wpAny P .any ops Q ops.size (Array.replicate ops.size false) a w:=h▸hw
theorem mM {o:Oper} {b:Act} {Kk:Act→World→Prop} (x y:Operand)
 (ho:o.op=.call {callee:=.builtin .append,args:=#[x,y],argTypes:=#[26,26]})
 (B:Nat) (v:Value) (xs:List UInt8) (hs:b.eval x=v) (aH:cR w B v xs.length xs)
 (p:Option Addr) (m c:Nat) (bs:List UInt8) (hx:b.eval y=.slice p m c) (hb:cK w p m bs) (hl:bs.length=m) (gA:xs.length+m≤140737488351232) (dh:B≤w.heap.size)
 (h:∀v' w',cR w' B v' (xs++bs).length (xs++bs)→w.grownBy w' v.ownBlock→dN w v v'→Kk (b.put o.dst v') w'):Oper.wp Tryz.prog o b w Kk Q:=by
 obtain⟨i0,hi,M,J,L⟩:=info_parts iy
 have key:∃v' w',(Builtin.append_ #[26,26] o.type #[v,.slice p m c]).run Tryz.prog w=.ok v' w'∧cR w' B v' (xs++bs).length (xs++bs)∧w.grownBy w' v.ownBlock∧dN w v v':=by
  rcases p with _|ad
  ·have hm:m=0:=by
    rcases Nat.eq_zero_or_pos m with h0|h0
    ·exact h0
    ·obtain⟨_,_,he,_⟩:=hb h0
     cases he
   subst hm;obtain rfl:bs=[]:=List.eq_nil_of_length_eq_zero hl;refine⟨v,w,?_,by simpa using aH,World.grownBy.refl w _,fun k hk=>Or.inl hk⟩;rcases aH.2 with⟨rfl,h0⟩|⟨g,cap,cur,rfl,_,_,Bi,_⟩
   ·simp[Builtin.append_,run_underlying Tryz.underlying26,sizeOf,typeInfo,hi,Builtin.lenOf,Builtin.firstCells]
   ·simp[Builtin.append_,run_underlying Tryz.underlying26,sizeOf,typeInfo,hi,Builtin.lenOf,Builtin.firstCells,Bi,storeCells]
  ·obtain⟨v',w',H,A,D,E⟩:=Mem.dU (P:=Tryz.prog) (w:=w) B 26 o.type 5 i0 (.int .u8 0) 1 1 Tryz.underlying26 hi M J L rfl (by decide) v xs.length ((nums xs).map (Value.int .u8)) aH ad m c ((nums bs).map (Value.int .u8)) (by rw[Qi,eQ,hl,Nat.mul_one]) (by
    intro j u G
    have I:j<m:=by
     have:=(List.getElem?_eq_some_iff.1 G).1;rw[Qi,eQ,hl]at this;exact this
    obtain⟨O,off,he,hc⟩:=hb (by omega)
    cases he
    rw[my bs j (by omega)]at G
    cases G
    rw[WideShapes.add_plain]
    exact hc j I) (ints_oneCell .u8 _) (by unfold maxLen;omega) (by omega) dh
   refine⟨v',w',H,?_,D,E⟩;unfold cR;rw[Qf,hl];have e:(nums (xs++bs)).map (Value.int .u8)=(nums xs).map (Value.int .u8)++(nums bs).map (Value.int .u8):=by unfold nums;rw[List.map_append,List.map_append]
   rw[e];exact A
 obtain⟨v',w',H,A,D,E⟩:=key;have N:(execOp b.eval o).run Tryz.prog w=.ok (.value v') w':=by simp[execOp,ho,resolve,invoke,builtin,hs,hx,H,Result.andThen]
 unfold Oper.wp;rw[N,Oper.upon_value];exact h v' w' A D E
noncomputable def b8:Array Oper:=lK Tryz.f62 24
structure nI where
 v1:Value
 vp:Value
 v2:Value
def iE (bm gy:Nat) (v0:Value) (p:Option Addr) (bl c:Nat) (γ:nI):Nat→Value
 |0=>v0|1=>.slice (some ⟨gy,0,none⟩) 512 512|2=>γ.v1|3=>.pointer (some ⟨bm,7,none⟩)|4=>.slice p bl c|5=>γ.vp|6=>γ.v2|7=>γ.v2|_=>undef
theorem pJ:b8.size=8:=rfl
theorem tg:kS b8 132=true:=by kernel_rfl
theorem Gq:aR b8 0=some 125:=rfl
theorem LG:∃o,b8[0]? =some o∧o.op=.move (.tmp 8)∧o.dst=some 125:=⟨_,rfl,rfl,rfl⟩
theorem Gr:aR b8 1=some 126:=rfl
theorem LH:∃o,b8[1]? =some o∧o.op=.move (.tmp 11)∧o.dst=some 126:=⟨_,rfl,rfl,rfl⟩
theorem Gs:aR b8 2=some 127:=rfl
theorem LJ:∃o,b8[2]? =some o∧o.op=.call {callee:=.builtin .append,args:=#[.tmp 125,.tmp 126],argTypes:=#[26,26]}∧o.dst=some 127:=⟨_,rfl,rfl,rfl⟩
theorem Gt:aR b8 3=some 128:=rfl
theorem LK:∃o,b8[3]? =some o∧o.op=.fieldAddr 48 (.tmp 1) 4∧o.dst=some 128:=⟨_,rfl,rfl,rfl⟩
theorem Gu:aR b8 4=some 129:=rfl
theorem LL:∃o,b8[4]? =some o∧o.op=.load 26 (.tmp 128)∧o.dst=some 129:=⟨_,rfl,rfl,rfl⟩
theorem Gv:aR b8 5=some 130:=rfl
theorem LM:∃o,b8[5]? =some o∧o.op=.call {callee:=.value (.func 94),args:=#[.tmp 129],argTypes:=#[26]}∧o.dst=some 130:=⟨_,rfl,rfl,rfl⟩
theorem Gw:aR b8 6=some 131:=rfl
theorem LN:∃o,b8[6]? =some o∧o.op=.call {callee:=.builtin .append,args:=#[.tmp 127,.tmp 130],argTypes:=#[26,26]}∧o.dst=some 131:=⟨_,rfl,rfl,rfl⟩
theorem Gx:aR b8 7=some 2:=rfl
theorem LP:∃o,b8[7]? =some o∧o.op=.assign (.tmp 131)∧o.dst=some 2:=⟨_,rfl,rfl,rfl⟩
theorem LC (bm gy:Nat) (v0:Value) (p:Option Addr) (bl c:Nat) (γ:nI) (x:Value) (h:i≠2):iE bm gy v0 p bl c {γ with v1:=x} i=iE bm gy v0 p bl c γ i:=by
 unfold iE;split<;>first|rfl|(exfalso;omega)
theorem LF (bm gy:Nat) (v0:Value) (p:Option Addr) (bl c:Nat) (γ:nI) (x:Value) (h:i≠5):iE bm gy v0 p bl c {γ with vp:=x} i=iE bm gy v0 p bl c γ i:=by
 unfold iE;split<;>first|rfl|(exfalso;omega)
theorem LD (bm gy:Nat) (v0:Value) (p:Option Addr) (bl c:Nat) (γ:nI) (x:Value) (h:i≠6∧i≠7):iE bm gy v0 p bl c {γ with v2:=x} i=iE bm gy v0 p bl c γ i:=by
 unfold iE;split<;>first|rfl|(exfalso;omega)
structure W24 (w:World) (B bm:Nat) (M:Array Value) (v0:Value) (X Y P:List UInt8) (w1:World) (γ:nI) (listed:Array Bool) (w':World):Prop where
 bel:Below w.heap.size w w'
 le:w1.heap.size≤w'.heap.size
 mem:au w' bm 48 M
 WI:listed.getD 2 false=false→∀b o,cK w1 (some ⟨b,o,none⟩) 512 Y→(∀k,v0.ownBlock=some k→k≠b)→cK w' (some ⟨b,o,none⟩) 512 Y
 o0:listed.getD 2 false=false→cR w' B v0 X.length X
 o1:listed.getD 2 false=true→listed.getD 6 false=false→cR w' B γ.v1 (X++Y).length (X++Y)
 pd:listed.getD 5 false=true→listed.getD 6 false=false→cR w' w1.heap.size γ.vp P.length P
 fin:listed.getD 6 false=true→cR w' B γ.v2 ((X++Y)++P).length ((X++Y)++P)
 c6:listed.getD 6 false=true→listed.getD 2 false=true∧listed.getD 5 false=true
theorem W24.bH {bm:Nat} {v0:Value} {X Y P:List UInt8} {γ:nI} {listed:Array Bool} (hW:W24 w B bm M v0 X Y P w1 γ listed w') {j:Nat} (ao:j<listed.size) (hj:j≠2∧j≠5∧j≠6):W24 w B bm M v0 X Y P w1 γ (listed.setIfInBounds j true) w':=by
 have A:(listed.setIfInBounds j true).getD 2 false=listed.getD 2 false:=by rw[aa ao,if_neg (by omega)]
 have E:(listed.setIfInBounds j true).getD 5 false=listed.getD 5 false:=by rw[aa ao,if_neg (by omega)]
 have D:(listed.setIfInBounds j true).getD 6 false=listed.getD 6 false:=by rw[aa ao,if_neg (by omega)]
 exact⟨hW.bel,hW.le,hW.mem,by rw[A];exact hW.WI,by rw[A];exact hW.o0,by rw[A,D];exact hW.o1,by rw[E,D];exact hW.pd,by rw[D];exact hW.fin,by rw[A,E,D];exact hW.c6⟩
theorem AL {Q':Exit→Act→World→Prop} {a0:Act} (B bm gy:Nat) (M:Array Value) (v0:Value) (X Y body:List UInt8) (p:Option Addr) (bl c:Nat)
 (hsz:132≤a0.tmps.size) (h8:a0.eval (.tmp 8)=v0) (KE:a0.eval (.tmp 11)=.slice (some ⟨gy,0,none⟩) 512 512) (h1:a0.eval (.tmp 1)=.pointer (some ⟨bm,0,none⟩))
 (ck:Below w.heap.size w w1) (oX:au w1 bm 48 M) (hM:M[7]? =some (.slice p bl c)) (Xs:w.heap.size≤bm) (hv0:cR w1 B v0 X.length X) (hB:bm<B) (Il:B≤w1.heap.size) (hwB:w.heap.size≤B) (hy:cK w1 (some ⟨gy,0,none⟩) 512 Y) (XI:Y.length=512) (tQ:∀k,v0.ownBlock=some k→k≠gy)
 (N8:cK w p bl body) (iN:body.length=bl) (al5:bl≤1048576) (hX:X.length≤10000000)
 (hQ:∀(γ:nI) w',cR w' B γ.v2 ((X++Y)++fr body).length ((X++Y)++fr body)→Below w.heap.size w w'→Q' .normal ((((((((a0.put (some 125) (v0)).put (some 126) (.slice (some ⟨gy,0,none⟩) 512 512)).put (some 127) (γ.v1)).put (some 128) (.pointer (some ⟨bm,7,none⟩))).put (some 129) (.slice p bl c)).put (some 130) (γ.vp)).put (some 131) (γ.v2)).put (some 2) (γ.v2)) w'):
 wpAny Tryz.prog .any b8 Q' b8.size (Array.replicate b8.size false) a0 w1.drew:=by
 have no:∀j,(Array.replicate b8.size false).getD j false=false:=fun j=>by
  rw[Array.getD_eq_getD_getElem?,Array.getElem?_replicate];split<;>rfl
 have xI:=bu body;have hpg:=(fG body.length).2;obtain⟨P,hP⟩:∃P,fr body=P:=⟨_,rfl⟩
 rw[hP]at hQ xI;refine jg (Γ:=nI) (iE bm gy v0 p bl c) {v1:=undef,vp:=undef,v2:=undef} a0 (fun γ listed w'=>W24 w B bm M v0 X Y P w1 γ listed w'∧(listed.getD 7 false=true→listed.getD 6 false=true)) 132 tg hsz ?_ ?_ ?_
 ·intro γ listed a w' j o G J ig O
  have E:=bp ig;have D:=G.wd.1
  have hj:j<8:=by
   have:=(Array.getElem?_eq_some_iff.1 J).1
   rwa [pJ]at this
  have same:∀{j':Nat} {N:Oper},b8[j']? =some N→j=j'→N=o:=fun {j' N} h' e=>by subst e;exact Option.some.inj (h'.symm.trans J)
  have T:=dS ig;have l:∀i,listed.getD i false=true→i≠j:=fun i hi e=>by rw[e,T]at hi;cases hi
  rcases(show j=0∨j=1∨j=2∨j=3∨j=4∨j=5∨j=6∨j=7 by omega)with rfl|rfl|rfl|rfl|rfl|rfl|rfl|rfl
  ·obtain⟨N,I,H,W⟩:=LG
   obtain rfl:=same I rfl;have L:a.eval (.tmp 8)=v0:=(G.old (t:=8) (by kernel_rfl)).trans h8;exact wp_move _ _ (Or.inl H) L ⟨γ,fun _ _=>rfl,rfl,D.bH E (by decide),(fun A=>by rw[aa E,if_neg (by decide)]at A;rw[aa E];split;rfl;exact G.wd.2 A)⟩
  ·obtain⟨N,I,H,W⟩:=LH
   obtain rfl:=same I rfl;have L:a.eval (.tmp 11)=.slice (some ⟨gy,0,none⟩) 512 512:=(G.old (t:=11) (by kernel_rfl)).trans KE;exact wp_move _ _ (Or.inl H) L ⟨γ,fun _ _=>rfl,rfl,D.bH E (by decide),(fun A=>by rw[aa E,if_neg (by decide)]at A;rw[aa E];split;rfl;exact G.wd.2 A)⟩
  ·obtain⟨N,I,H,W⟩:=LJ
   obtain rfl:=same I rfl;have x0:a.eval (.tmp 125)=v0:=(G.get J O (i:=0) (d:=125) (by kernel_rfl) rfl)
   have g:a.eval (.tmp 126)=.slice (some ⟨gy,0,none⟩) 512 512:=(G.get J O (i:=1) (d:=126) (by kernel_rfl) rfl)
   have R:(listed.setIfInBounds 2 true).getD 2 false=true:=by rw[aa E,if_pos rfl]
   have Z:(listed.setIfInBounds 2 true).getD 5 false=listed.getD 5 false:=by rw[aa E,if_neg (by decide)]
   have U:(listed.setIfInBounds 2 true).getD 6 false=listed.getD 6 false:=by rw[aa E,if_neg (by decide)]
   have u:=D.WI T gy 0 hy tQ
   have n6:listed.getD 6 false=false:=by
    cases A:listed.getD 6 false with
    |false=>rfl
    |true=>have:=(D.c6 A).1;rw[T]at this;cases this
   refine mM _ _ H B v0 X x0 (D.o0 T) (some ⟨gy,0,none⟩) 512 512 Y g u XI (by omega) (Nat.le_trans Il D.le) (fun v' w2 g1 g2 g3=>⟨{γ with v1:=v'},fun i hi=>LC _ _ _ _ _ _ _ _ (l i hi),rfl,?_,fun A=>by rw[aa E,if_neg (by decide)]at A;rw[aa E];split;rfl;exact G.wd.2 A⟩);have hk:Kept (fun k=>v0.ownBlock=some k) w' w2:=(Kept.refl _ w').grown g2 (fun k hk=>.inr hk);refine⟨D.bel.trans (hk.below D.bel.size (fun k hk=>Nat.le_trans hwB (hv0.lt k hk).1)),Nat.le_trans D.le hk.size,D.mem.bV hk (fun e=>by have:=(hv0.lt _ e).1;omega),fun A=>(by rw[R]at A;cases A),fun A=>(by rw[R]at A;cases A),fun _ _=>g1,fun A _=>?_,fun A=>(by rw[U,n6]at A;cases A),fun A=>(by rw[U,n6]at A;cases A)⟩;rw[Z]at A;exact(D.pd A n6).kept hk (fun k hk e=>by have h1:=((D.pd A n6).lt k hk).1;have z:=(hv0.lt k e).2;omega)
  ·obtain⟨N,I,H,W⟩:=LK
   obtain rfl:=same I rfl;have L:a.eval (.tmp 1)=.pointer (some ⟨bm,0,none⟩):=(G.old (t:=1) (by kernel_rfl)).trans h1;refine cE _ ?_ ⟨γ,fun _ _=>rfl,rfl,D.bH E (by decide),(fun A=>by rw[aa E,if_neg (by decide)]at A;rw[aa E];split;rfl;exact G.wd.2 A)⟩;generalize a.eval=ev at L⊢;simp[go_sem,execOp,H,L,iE]
  ·obtain⟨N,I,H,W⟩:=LL
   obtain rfl:=same I rfl;have L:a.eval (.tmp 128)=.pointer (some ⟨bm,7,none⟩):=(G.get J O (i:=3) (d:=128) (by kernel_rfl) rfl)
   have q:=D.mem.cell 7;rw[hM]at q;refine cE _ ?_ ⟨γ,fun _ _=>rfl,rfl,D.bH E (by decide),(fun A=>by rw[aa E,if_neg (by decide)]at A;rw[aa E];split;rfl;exact G.wd.2 A)⟩;generalize a.eval=ev at L⊢;simp[go_sem,execOp,H,L,q,iE]
  ·obtain⟨N,I,H,W⟩:=LM
   obtain rfl:=same I rfl;have x0:a.eval (.tmp 129)=.slice p bl c:=(G.get J O (i:=4) (d:=129) (by kernel_rfl) rfl)
   have R:(listed.setIfInBounds 5 true).getD 2 false=listed.getD 2 false:=by rw[aa E,if_neg (by decide)]
   have Z:(listed.setIfInBounds 5 true).getD 5 false=true:=by rw[aa E,if_pos rfl]
   have U:(listed.setIfInBounds 5 true).getD 6 false=listed.getD 6 false:=by rw[aa E,if_neg (by decide)]
   have n6:listed.getD 6 false=false:=by
    cases A:listed.getD 6 false with
    |false=>rfl
    |true=>have:=(D.c6 A).2;rw[T]at this;cases this
   have Ob:=tw p bl c body w' iN (by omega) (N8.below D.bel);refine DT _ _ _ H #[.slice p bl c] (by simp[x0]) (enters_of Tryz.func94 (by kernel_rfl) rfl) (fun v w2=>cR w2 w'.heap.size v (fr body).length (fr body)∧Kept ai w' w2) (Ob.mono fun e w2 he=>by obtain⟨v,rfl,g1,g2⟩:=he;exact⟨v,rfl,g1,g2⟩) (fun v w2 hR=>⟨{γ with vp:=v},fun i hi=>LF _ _ _ _ _ _ _ _ (l i hi),rfl,?_,fun A=>by rw[aa E,if_neg (by decide)]at A;rw[aa E];split;rfl;exact G.wd.2 A⟩);obtain⟨g1,g2⟩:=hR;rw[hP]at g1;refine⟨D.bel.trans (g2.below D.bel.size (fun _ h=>h.elim)),Nat.le_trans D.le g2.size,D.mem.bV g2 id,fun A b o h1 z=>?_,fun A=>?_,fun A _=>?_,fun _ _=>g1.mono D.le,fun A=>(by rw[U,n6]at A;cases A),fun A=>(by rw[U,n6]at A;cases A)⟩
   ·rw[R]at A
    exact(D.WI A b o h1 z).kept g2 (fun _ _ _=>id)
   ·rw[R]at A
    exact(D.o0 A).kept g2 (fun _ _=>id)
   ·rw[R]at A
    exact(D.o1 A n6).kept g2 (fun _ _=>id)
  ·obtain⟨N,I,H,W⟩:=LN
   obtain rfl:=same I rfl;have x0:a.eval (.tmp 127)=γ.v1:=(G.get J O (i:=2) (d:=127) (by kernel_rfl) rfl)
   have g:a.eval (.tmp 130)=γ.vp:=(G.get J O (i:=5) (d:=130) (by kernel_rfl) rfl)
   have R:(listed.setIfInBounds 6 true).getD 2 false=listed.getD 2 false:=by rw[aa E,if_neg (by decide)]
   have Z:(listed.setIfInBounds 6 true).getD 5 false=listed.getD 5 false:=by rw[aa E,if_neg (by decide)]
   have U:(listed.setIfInBounds 6 true).getD 6 false=true:=by rw[aa E,if_pos rfl]
   have f:listed.getD 2 false=true:=bW J O (by kernel_rfl);have l5:listed.getD 5 false=true:=bW J O (by kernel_rfl);obtain⟨pp,pc,r,_,_,m,_,_⟩:=(D.pd l5 T).slice;rw[r]at g;have am5:(X++Y).length≤20000000:=by rw[Qf];omega
   have y:=D.o1 f T;refine mM _ _ H B γ.v1 (X++Y) x0 y pp P.length pc P g m rfl (by omega) (Nat.le_trans Il D.le) (fun v' w2 g1 g2 g3=>⟨{γ with v2:=v'},fun i hi=>LD _ _ _ _ _ _ _ _ ⟨l i hi,fun e=>?_⟩,rfl,?_,fun _=>by rw[aa E,if_pos rfl]⟩)
   ·subst e
    rw[G.wd.2 hi]at T
    cases T
   have hk:Kept (fun k=>γ.v1.ownBlock=some k) w' w2:=(Kept.refl _ w').grown g2 (fun k hk=>.inr hk);exact⟨D.bel.trans (hk.below D.bel.size (fun k hk=>Nat.le_trans hwB (y.lt k hk).1)),Nat.le_trans D.le hk.size,D.mem.bV hk (fun e=>by have:=(y.lt _ e).1;omega),fun A=>(by rw[R,f]at A;cases A),fun A=>(by rw[R,f]at A;cases A),fun _ A=>(by rw[U]at A;cases A),fun _ A=>(by rw[U]at A;cases A),fun _=>g1,fun _=>⟨by rw[R];exact f,by rw[Z];exact l5⟩⟩
  ·obtain⟨N,I,H,W⟩:=LP
   obtain rfl:=same I rfl;have L:a.eval (.tmp 131)=γ.v2:=(G.get J O (i:=6) (d:=131) (by kernel_rfl) rfl)
   exact wp_move _ _ (Or.inr H) L ⟨γ,fun _ _=>rfl,rfl,D.bH E (by decide),(fun _=>by rw[aa E,if_neg (by decide)];exact bW J O (by kernel_rfl))⟩
 ·intro γ listed a w' G V
  have all:∀j,j<8→listed.getD j false=true:=fun j hj=>V j (by rw[pJ];exact hj)
  have D:=G.wd.1;rw[gI 132 tg hsz G V,pJ];simp only[gh,Gq,Gr,Gs,Gt,Gu,Gv,Gw,Gx,iE];exact hQ γ w' (D.fin (all 6 (by omega))) D.bel
 ·exact⟨⟨ck.drew,Qk _,oX.drew,fun _ b o h1 _=>h1.below (Below.refl _ _).drew,fun _=>hv0.kept ((Kept.refl ai w1).drew) (fun _ _=>id),fun A=>(by rw[no]at A;cases A),fun A=>(by rw[no]at A;cases A),fun A=>(by rw[no]at A;cases A),fun A=>(by rw[no]at A;cases A)⟩,fun A=>(by rw[no]at A;cases A)⟩
end Mem
namespace Mem
open Go.ChangeShapes Go.WideShapes Go.ChangeAt Go.RowKit Base cf cN Bk Hp Head rr Path Block Rec Attr Go.Proofs.YtdhibldkldlfpaaGreatDoor.Mp Go.Lib
variable {wx wy:World} {h:aq}
structure PM (w:World) (M:Array Value) (wx:World) (h:aq):Prop where
 bel:Below w.heap.size w wx
 mem:au wx w.heap.size 48 M
 hd:au wx (w.heap.size+1) 66 (af h)
theorem PM.below (hm:PM w M wx h) (hb:Below wx.heap.size wx wy):PM w M wy h:=
 ⟨hm.bel.trans (hb.mono hm.bel.size),hm.mem.below hb hm.mem.lt,hm.hd.below hb hm.hd.lt⟩
theorem PM.kept (hm:PM w M wx h) (hk:Kept ai wx wy):PM w M wy h:=hm.below (hk.below (Qk _) (fun _ h=>h.elim))
theorem PM.set {h':aq} (hm:PM w M wx h) (i:Nat) (v:Value) (hb:au (wx.setCell ⟨w.heap.size+1,i,none⟩ v) (w.heap.size+1) 66 (af h')):PM w M (wx.setCell ⟨w.heap.size+1,i,none⟩ v) h':=
 ⟨hm.bel.setCell (p:=⟨w.heap.size+1,i,none⟩) (Nat.le_succ _) v,hm.mem.other (by omega) v,hb⟩
theorem PJ (l:List UInt8):∃a b,Head.cutV l=.tuple #[.string a,.string b,.bool (fR l).isSome]:=by
 unfold Head.cutV
 cases fR l with
 |none=>exact⟨_,_,rfl⟩
 |some x=>exact⟨_,_,rfl⟩
theorem Pz {bs:List UInt8} (h:dE w g bs) (hB:B≤g) (hc:bs.length≤maxLen):cR w B (.slice (some ⟨g,0,none⟩) bs.length bs.length) bs.length bs:=by
 refine⟨by simp[nums],.inr ⟨g,bs.length,(bs.map bv).toArray,rfl,hB,h,Qk _,hc,by simp,?_⟩⟩;rw[Nat.mul_one,List.take_of_length_le (by simp)];unfold nums;rw[List.map_map];rfl
theorem wU (m:aw) (p:Option Addr) (c:Nat) (w:World) (hg:dz m) (hb:cK w p m.body.length m.body):
 Calls Tryz.prog 62 #[.agg (dj m p c)] w (lR w (fu m)):=by
 have xI:=hg.wJ;have yK:m.target.length≤200:=zw hg;obtain⟨bl,iN⟩:∃bl,m.body.length=bl:=⟨_,rfl⟩
 have YU:bl≤1048576:=by rw[←iN];exact hg.body
 obtain⟨u,hu⟩:∃u:Nat,m.uid=(u:Int):=⟨m.uid.toNat,by have:=hg.uid;omega⟩
 obtain⟨g,KO⟩:∃g:Nat,m.gid=(g:Int):=⟨m.gid.toNat,by have:=hg.gid;omega⟩
 obtain⟨t,ht⟩:∃t:Nat,m.time=(t:Int):=⟨m.time.toNat,by have:=hg.time;omega⟩
 have ig:u<1000000000000000000:=by have:=hg.uid;omega
 have pT:g<1000000000000000000:=by have:=hg.gid;omega
 have KX:t<1000000000000000000:=by have:=hg.time;omega
 obtain⟨b0,D0⟩:∃b,(fR m.path).isSome=b:=⟨_,rfl⟩
 obtain⟨f0,Y4⟩:∃b,gm m.path=b:=⟨_,rfl⟩
 obtain⟨f1,yF⟩:∃b,gm m.target=b:=⟨_,rfl⟩
 obtain⟨lp,IA⟩:∃b,ik m=b:=⟨_,rfl⟩
 obtain⟨ll,vF⟩:∃b,gP m=b:=⟨_,rfl⟩
 have HLP:Hid (lp=(!b0||!f0)):=Qh (by
  rw[←IA,←D0,←Y4];unfold ik
  cases fR m.path<;>rfl)
 have zF:Hid (ll=(decide (100<m.target.length)||!f1)):=Qh (by rw[←vF,←yF];rfl);obtain⟨S1,hS1⟩:∃S,(if lp then bI (aB 4) m.path else[])=S:=⟨_,rfl⟩
 obtain⟨S2,RV⟩:∃S,S1++(if ll then bI (aB 5) m.target else[])=S:=⟨_,rfl⟩
 obtain⟨S3,rI⟩:∃S,S2++(if 2097151<u then bI (aB 0) (ax u)else[])=S:=⟨_,rfl⟩
 obtain⟨S4,o⟩:∃S,S3++(if 2097151<g then bI (aB 1) (ax g)else[])=S:=⟨_,rfl⟩
 obtain⟨S5,q⟩:∃S,S4++(if 8589934591<t then bI (aB 2) (ax t)else[])=S:=⟨_,rfl⟩
 have Yj:Hid (aM (aT m)=S5):=Qh (by
  have e:∀(c:Prop) [Decidable c] (k v:List UInt8),aM (if c then[(k,v)]else[])=if c then bI k v else[]:=fun c _ k v=>by
   split<;>simp[aM]
  have ea:∀a b:cH,aM (a++b)=aM a++aM b:=fun a b=>by simp[aM]
  rw[←q,←o,←rI,←RV,←hS1];unfold aT;rw[ea,ea,ea,ea,e,e,e,e,e,IA,vF,hu,KO,ht];simp only[Int.toNat_natCast]
  congr 1
  ·congr 1
   ·congr 1
    split<;>split<;>first|rfl|omega
   ·split<;>split<;>first|rfl|omega
  ·split<;>split<;>first|rfl|omega)
 have M6:Hid (S1.length≤S2.length∧S2.length≤S3.length∧S3.length≤S4.length∧S4.length≤S5.length):=Qh (by
  rw[←q,←o,←rI,←RV];simp only[Qf]
  omega)
 have y:Hid (S5.length≤1048576):=Qh (by rw[←Yj.out];exact jT hg);obtain⟨h1,QL⟩:∃h:aq,aq.mk (if lp then bz else m.path) m.target m.kind m.mode (u:Int) (g:Int) (t:Int) (bl:Int) false=h:=⟨_,rfl⟩
 obtain⟨h2,D3⟩:∃h:aq,{h1 with link:=if ll then bz else m.target}=h:=⟨_,rfl⟩
 obtain⟨h3,Zc⟩:∃h:aq,{h2 with uid:=if 2097151<u then 0 else(u:Int)}=h:=⟨_,rfl⟩
 obtain⟨h4,hh4⟩:∃h:aq,{h3 with gid:=if 2097151<g then 0 else(g:Int)}=h:=⟨_,rfl⟩
 obtain⟨h5,hh5⟩:∃h:aq,{h4 with time:=if 8589934591<t then 0 else(t:Int)}=h:=⟨_,rfl⟩
 have XU:Hid (bF m=h5):=Qh (by
  rw[←hh5,←hh4,←Zc,←D3,←QL];unfold bF;rw[IA,vF,hu,KO,ht,iN];have c1:((2097151:Int)<(u:Int))↔2097151<u:=by omega
  have c2:((2097151:Int)<(g:Int))↔2097151<g:=by omega
  have c3:((8589934591:Int)<(t:Int))↔8589934591<t:=by omega
  simp only[c1,c2,c3])
 have Hg:=Qh hS1;have HD2:=Qh RV;have HD3:=Qh rI;have HD4:=Qh o;have HD5:=Qh q;have WN:=Qh QL;have XQ:=Qh D3;have XR:=Qh Zc;have HE4:=Qh hh4;have HE5:=Qh hh5;rw[iN]at hb;obtain⟨W1,ef⟩:∃W1,(w.alloc (.cells #[.string (str m.path),.string (str m.target),.int .u8 (m.kind.toNat:Int),.int .i64 m.mode,.int .i64 (u:Int),.int .i64 (g:Int),.int .i64 (t:Int),.slice p bl c] 48)).alloc (.cells (af ⟨m.path,m.target,m.kind,m.mode,(u:Int),(g:Int),(t:Int),(bl:Int),false⟩) 66)=W1:=⟨_,rfl⟩
 have Xn:PM w #[.string (str m.path),.string (str m.target),.int .u8 (m.kind.toNat:Int),.int .i64 m.mode,.int .i64 (u:Int),.int .i64 (g:Int),.int .i64 (t:Int),.slice p bl c] W1 ⟨m.path,m.target,m.kind,m.mode,(u:Int),(g:Int),(t:Int),(bl:Int),false⟩:=by
  have b1:=au.new (w.alloc (.cells #[.string (str m.path),.string (str m.target),.int .u8 (m.kind.toNat:Int),.int .i64 m.mode,.int .i64 (u:Int),.int .i64 (g:Int),.int .i64 (t:Int),.slice p bl c] 48)) 66 (af ⟨m.path,m.target,m.kind,m.mode,(u:Int),(g:Int),(t:Int),(bl:Int),false⟩);rw[World.size_alloc]at b1;rw[←ef];exact⟨((Below.refl _ w).alloc (Qk _) _).alloc (by simp) _,(au.new w _ _).alloc _,b1⟩
 have Bc:=Qh Xn;have HB:=Qh hb;have HG:=Qh hg;have Jn:=Qh iN;have Rr:=Qh ef;have O:=Qh (And.intro xI yK);have xy:=Qh (And.intro ig (And.intro pT KX));have WM:=Qh YU;obtain⟨cx,cy,VB⟩:=PJ m.path;rw[D0]at VB;have HCV:=Qh VB;have HF0:=Qh Y4;have HF1:=Qh yF;unfold dj;rw[iN,hu,KO,ht];clear Xn hb hg iN ef xI yK VB hu KO ht ig pT KX D0 Y4 yF IA vF hS1 RV rI o q QL D3 Zc hh4 hh5 YU
 go_enter Tryz.func62,Tryz.ntmps62
 go_upto_region 3 with fail
 rw[show(w.alloc (.cells #[.string (str m.path),.string (str m.target),.int .u8 (m.kind.toNat:Int),.int .i64 m.mode,.int .i64 (u:Int),.int .i64 (g:Int),.int .i64 (t:Int),.slice p bl c] 48)).alloc (.cells #[.string (str m.path),.string (str m.target),.int .u8 (m.kind.toNat:Int),.int .i64 m.mode,.int .i64 (u:Int),.int .i64 (g:Int),.int .i64 (t:Int),.int .i64 (bl:Int),.bool false] 66)=W1 from Rr.out];have y0:=Bc.out.mem.cell 0;simp only[Qc,Qa]at y0;go_wp2_with fail;refine(Dp (str m.path) W1 (by rw[ak];have:=O.out.1;omega)).mono ?_;rw[aU,HCV.out];rintro e w2 ⟨rfl,dr⟩;have tE:=Qh (Bc.out.kept dr);clear dr y0;have y0:=tE.out.mem.cell 0;simp only[Qc,Qa]at y0;go_upto_region 4 with fail
 go_cut [39] (fun s39 L=>s39=.bool lp∧L=w2)
 case first=>
  cases b0 with
  |false=>
   go_wp2;go_meet
   exact⟨by rw[HLP.out];rfl,rfl⟩
  |true=>
   go_wp2_with fail
   refine(zh (str m.path) w2 (by rw[ak];have:=O.out.1;omega)).mono ?_;rw[aU,HF0.out];rintro e w3 ⟨rfl,rfl⟩;go_wp2;go_meet;exact⟨by rw[HLP.out];rfl,rfl⟩
 case rest=>
  obtain⟨rfl,rfl⟩:=hcut;go_upto_if 39 with fail
  go_cut [4] (fun r L=>r=.string (str S1)∧PM w #[.string (str m.path),.string (str m.target),.int .u8 (m.kind.toNat:Int),.int .i64 m.mode,.int .i64 (u:Int),.int .i64 (g:Int),.int .i64 (t:Int),.slice p bl c] L h1)
  case first=>
   cases lp with
   |false=>
    have W:aq.mk m.path m.target m.kind m.mode (u:Int) (g:Int) (t:Int) (bl:Int) false=h1:=by rw[←WN.out];rfl
    have D:S1=[]:=by rw[←Hg.out];rfl
    go_wp2;go_meet
    exact⟨by rw[D];rfl,by rw[←W];exact tE.out⟩
   |true=>
    go_wp2_with fail
    refine(nx (aB 4) m.path _ (by have:=O.out.1;have:=O.out.2;simp[aB];omega)).mono ?_;rintro e w3 ⟨rfl,M⟩;have I:=Qh (tE.out.below M);clear M;have B:=I.out.hd;have z0:=B.cell 0;have fz0:=B.frozen 0;simp only[af,Qc,Qa]at z0;clear B;have D:S1=bI (aB 4) m.path:=by rw[←Hg.out];rfl
    obtain⟨A,hA⟩:∃A:ByteArray,str (bI (aB 4) m.path)=A:=⟨_,rfl⟩
    obtain⟨ka,V⟩:∃ka,A.size=ka:=⟨_,rfl⟩
    have N:(bI (aB 4) m.path).length=ka:=by rw[←V,←hA,ak]
    have gA:ka≤9223372036854775807:=by
     have h1:=congrArg List.length D;rw[N]at h1;have h2:=M6.out;have h3:=y.out;omega
    have ak9:0+ka≤9223372036854775807:=by omega
    rw[hA];clear N;have f:=Qh D;have Y:=Qh hA;clear D hA;go_wp2;go_meet
    exact⟨by rw[f.out,←Y.out];exact congrArg Value.string (cL [] _),I.out.set 0 _ (by
     have l:=I.out.hd.set 0 (.string (str bz)) (by show 0<9;decide);rw[show h1=aq.mk bz m.target m.kind m.mode (u:Int) (g:Int) (t:Int) (bl:Int) false from by rw[←WN.out];rfl]
     exact l)⟩
  case rest=>
   obtain⟨rfl,J⟩:=hcut;have Bd:=Qh J;clear J y0;go_upto_region 7 with fail;have y1:=Bd.out.mem.cell 1;simp only[Qc,Qa,Qb]at y1
   go_cut [56] (fun s56 L=>s56=.bool ll∧L=wc)
   case first=>
    have hs:(str m.target).size=m.target.length:=ak _
    by_cases hl:100<m.target.length
    ·have TZ:(100:Int)<(m.target.length:Int):=by omega
     have El:ll=true:=by rw[zF.out];simp[hl]
     go_wp2;go_meet
     exact⟨by rw[El],rfl⟩
    ·have TZ:¬(100:Int)<(m.target.length:Int):=by omega
     have El:ll=!f1:=by rw[zF.out];simp[hl]
     go_wp2_with fail
     refine(zh (str m.target) _ (by rw[ak];have:=O.out.2;omega)).mono ?_;rw[aU,HF1.out];rintro e w3 ⟨rfl,rfl⟩;go_wp2;go_meet;exact⟨by rw[El],rfl⟩
   case rest=>
    obtain⟨rfl,rfl⟩:=hcut;go_upto_if 56 with fail
    go_cut [4] (fun r L=>r=.string (str S2)∧PM w #[.string (str m.path),.string (str m.target),.int .u8 (m.kind.toNat:Int),.int .i64 m.mode,.int .i64 (u:Int),.int .i64 (g:Int),.int .i64 (t:Int),.slice p bl c] L h2)
    case first=>
     cases ll with
     |false=>
      have W:h1=h2:=by rw[←XQ.out,←WN.out];rfl
      have D:S2=S1:=by rw[←HD2.out];simp
      go_wp2;go_meet
      exact⟨by rw[D],by rw[←W];exact Bd.out⟩
     |true=>
      go_wp2_with fail
      refine(nx (aB 5) m.target _ (by have:=O.out.1;have:=O.out.2;simp[aB];omega)).mono ?_;rintro e w3 ⟨rfl,M⟩;have I:=Qh (Bd.out.below M);clear M;have B:=I.out.hd;have z1:=B.cell 1;have fz1:=B.frozen 1;simp only[af,Qc,Qa,Qb]at z1;clear B;have D:S2=S1++bI (aB 5) m.target:=by rw[←HD2.out];rfl
      obtain⟨A,hA⟩:∃A:ByteArray,str (bI (aB 5) m.target)=A:=⟨_,rfl⟩
      obtain⟨ka,V⟩:∃ka,A.size=ka:=⟨_,rfl⟩
      have N:(bI (aB 5) m.target).length=ka:=by rw[←V,←hA,ak]
      obtain⟨Q,E⟩:∃Q:ByteArray,str S1=Q:=⟨_,rfl⟩
      obtain⟨kq,VQ⟩:∃kq,Q.size=kq:=⟨_,rfl⟩
      have T:S1.length=kq:=by rw[←VQ,←E,ak]
      have gA:kq+ka≤9223372036854775807:=by
       have h1:=congrArg List.length D;rw[Qf,T,N]at h1;have h2:=M6.out;have h3:=y.out;omega
      rw[hA,E];clear N T;have f:=Qh D;have Y:=Qh hA;have HQ:=Qh E;clear D hA E;go_wp2;go_meet
      exact⟨by rw[f.out,←Y.out,←HQ.out];exact congrArg Value.string (cL S1 _),I.out.set 1 _ (by
       have l:=I.out.hd.set 1 (.string (str bz)) (by show 1<9;decide);rw[show h2={h1 with link:=bz}from by rw[←XQ.out];rfl]
       exact l)⟩
    case rest=>
     obtain⟨rfl,J⟩:=hcut;have UK:=Qh J;clear J;have y4:=UK.out.mem.cell 4;simp only[Qc,Qa,Qb]at y4;go_upto_if 67 with fail
     go_cut [4] (fun r L=>r=.string (str S3)∧PM w #[.string (str m.path),.string (str m.target),.int .u8 (m.kind.toNat:Int),.int .i64 m.mode,.int .i64 (u:Int),.int .i64 (g:Int),.int .i64 (t:Int),.slice p bl c] L h3)
     case first=>
      by_cases G:2097151<u
      ·have U:(2097151:Int)<(u:Int):=by omega
       go_wp2_with fail
       refine(ou u _ xy.out.1).mono ?_;rintro e wq ⟨rfl,z⟩;have X9:=Qh (UK.out.below z);clear z;go_wp2_with fail;refine(nx (aB 0) (ax u) _ (by have:=O.out.1;have:=O.out.2;have:=gH u 18 (by omega) xy.out.1;simp[aB];omega)).mono ?_;rintro e w3 ⟨rfl,M⟩;have I:=Qh (X9.out.below M);clear M;have B:=I.out.hd;have z4:=B.cell 4;have fz4:=B.frozen 4;simp only[af,Qc,Qa,Qb]at z4;clear B;have D:S3=S2++bI (aB 0) (ax u):=by rw[←HD3.out];simp[G]
       obtain⟨A,hA⟩:∃A:ByteArray,str (bI (aB 0) (ax u))=A:=⟨_,rfl⟩
       obtain⟨ka,V⟩:∃ka,A.size=ka:=⟨_,rfl⟩
       have N:(bI (aB 0) (ax u)).length=ka:=by rw[←V,←hA,ak]
       obtain⟨Q,E⟩:∃Q:ByteArray,str S2=Q:=⟨_,rfl⟩
       obtain⟨kq,VQ⟩:∃kq,Q.size=kq:=⟨_,rfl⟩
       have T:S2.length=kq:=by rw[←VQ,←E,ak]
       have gA:kq+ka≤9223372036854775807:=by
        have h1:=congrArg List.length D;rw[Qf,T,N]at h1;have h2:=M6.out;have h3:=y.out;omega
       rw[hA,E];clear N T;have f:=Qh D;have Y:=Qh hA;have HQ:=Qh E;clear D hA E;go_wp2;go_meet
       exact⟨by rw[f.out,←Y.out,←HQ.out];exact congrArg Value.string (cL S2 _),I.out.set 4 _ (by
        have l:=I.out.hd.set 4 (.int .i64 0) (by show 4<9;decide);rw[show h3={h2 with uid:=0}from by rw[←XR.out];simp[G]]
        exact l)⟩
      ·have U:¬(2097151:Int)<(u:Int):=by omega
       have W:h3=h2:=by
        rw[←XR.out,if_neg G,←XQ.out,←WN.out]
       have D:S3=S2:=by rw[←HD3.out];simp[G]
       go_wp2;go_meet
       exact⟨by rw[D],by rw[W];exact UK.out⟩
     case rest=>
      obtain⟨rfl,J⟩:=hcut;have X7:=Qh J;clear J;have y5:=X7.out.mem.cell 5;simp only[Qc,Qa,Qb]at y5;go_upto_if 81 with fail
      go_cut [4] (fun r L=>r=.string (str S4)∧PM w #[.string (str m.path),.string (str m.target),.int .u8 (m.kind.toNat:Int),.int .i64 m.mode,.int .i64 (u:Int),.int .i64 (g:Int),.int .i64 (t:Int),.slice p bl c] L h4)
      case first=>
       by_cases G:2097151<g
       ·have U:(2097151:Int)<(g:Int):=by omega
        go_wp2_with fail
        refine(ou g _ xy.out.2.1).mono ?_;rintro e wq ⟨rfl,z⟩;have X9:=Qh (X7.out.below z);clear z;go_wp2_with fail;refine(nx (aB 1) (ax g) _ (by have:=O.out.1;have:=O.out.2;have:=gH g 18 (by omega) xy.out.2.1;simp[aB];omega)).mono ?_;rintro e w3 ⟨rfl,M⟩;have I:=Qh (X9.out.below M);clear M;have B:=I.out.hd;have z5:=B.cell 5;have fz5:=B.frozen 5;simp only[af,Qc,Qa,Qb]at z5;clear B;have D:S4=S3++bI (aB 1) (ax g):=by rw[←HD4.out];simp[G]
        obtain⟨A,hA⟩:∃A:ByteArray,str (bI (aB 1) (ax g))=A:=⟨_,rfl⟩
        obtain⟨ka,V⟩:∃ka,A.size=ka:=⟨_,rfl⟩
        have N:(bI (aB 1) (ax g)).length=ka:=by rw[←V,←hA,ak]
        obtain⟨Q,E⟩:∃Q:ByteArray,str S3=Q:=⟨_,rfl⟩
        obtain⟨kq,VQ⟩:∃kq,Q.size=kq:=⟨_,rfl⟩
        have T:S3.length=kq:=by rw[←VQ,←E,ak]
        have gA:kq+ka≤9223372036854775807:=by
         have h1:=congrArg List.length D;rw[Qf,T,N]at h1;have h2:=M6.out;have h3:=y.out;omega
        rw[hA,E];clear N T;have f:=Qh D;have Y:=Qh hA;have HQ:=Qh E;clear D hA E;go_wp2;go_meet
        exact⟨by rw[f.out,←Y.out,←HQ.out];exact congrArg Value.string (cL S3 _),I.out.set 5 _ (by
         have l:=I.out.hd.set 5 (.int .i64 0) (by show 5<9;decide);rw[show h4={h3 with gid:=0}from by rw[←HE4.out];simp[G]]
         exact l)⟩
       ·have U:¬(2097151:Int)<(g:Int):=by omega
        have W:h4=h3:=by
         rw[←HE4.out,if_neg G,←XR.out,←XQ.out,←WN.out]
        have D:S4=S3:=by rw[←HD4.out];simp[G]
        go_wp2;go_meet
        exact⟨by rw[D],by rw[W];exact X7.out⟩
      case rest=>
       obtain⟨rfl,J⟩:=hcut;have X8:=Qh J;clear J;have y6:=X8.out.mem.cell 6;simp only[Qc,Qa,Qb]at y6;go_upto_if 95 with fail
       go_cut [4] (fun r L=>r=.string (str S5)∧PM w #[.string (str m.path),.string (str m.target),.int .u8 (m.kind.toNat:Int),.int .i64 m.mode,.int .i64 (u:Int),.int .i64 (g:Int),.int .i64 (t:Int),.slice p bl c] L h5)
       case first=>
        by_cases G:8589934591<t
        ·have U:(8589934591:Int)<(t:Int):=by omega
         go_wp2_with fail
         refine(ou t _ xy.out.2.2).mono ?_;rintro e wq ⟨rfl,z⟩;have X9:=Qh (X8.out.below z);clear z;go_wp2_with fail;refine(nx (aB 2) (ax t) _ (by have:=O.out.1;have:=O.out.2;have:=gH t 18 (by omega) xy.out.2.2;simp[aB];omega)).mono ?_;rintro e w3 ⟨rfl,M⟩;have I:=Qh (X9.out.below M);clear M;have B:=I.out.hd;have z6:=B.cell 6;have fz6:=B.frozen 6;simp only[af,Qc,Qa,Qb]at z6;clear B;have D:S5=S4++bI (aB 2) (ax t):=by rw[←HD5.out];simp[G]
         obtain⟨A,hA⟩:∃A:ByteArray,str (bI (aB 2) (ax t))=A:=⟨_,rfl⟩
         obtain⟨ka,V⟩:∃ka,A.size=ka:=⟨_,rfl⟩
         have N:(bI (aB 2) (ax t)).length=ka:=by rw[←V,←hA,ak]
         obtain⟨Q,E⟩:∃Q:ByteArray,str S4=Q:=⟨_,rfl⟩
         obtain⟨kq,VQ⟩:∃kq,Q.size=kq:=⟨_,rfl⟩
         have T:S4.length=kq:=by rw[←VQ,←E,ak]
         have gA:kq+ka≤9223372036854775807:=by
          have h1:=congrArg List.length D;rw[Qf,T,N]at h1;have h2:=M6.out;have h3:=y.out;omega
         rw[hA,E];clear N T;have f:=Qh D;have Y:=Qh hA;have HQ:=Qh E;clear D hA E;go_wp2;go_meet
         exact⟨by rw[f.out,←Y.out,←HQ.out];exact congrArg Value.string (cL S4 _),I.out.set 6 _ (by
          have l:=I.out.hd.set 6 (.int .i64 0) (by show 6<9;decide);rw[show h5={h4 with time:=0}from by rw[←HE5.out];simp[G]]
          exact l)⟩
        ·have U:¬(8589934591:Int)<(t:Int):=by omega
         have W:h5=h4:=by
          rw[←HE5.out,if_neg G,←HE4.out,←XR.out,←XQ.out,←WN.out]
         have D:S5=S4:=by rw[←HD5.out];simp[G]
         go_wp2;go_meet
         exact⟨by rw[D],by rw[W];exact X8.out⟩
       case rest=>
        obtain⟨rfl,J⟩:=hcut;have Xa:=Qh J;clear J;have Zs:(str S5).size=S5.length:=ak S5;have he5:(str S5).toList.isEmpty=decide (S5=[]):=bk S5;obtain⟨eb,heb⟩:∃b,decide (S5=[])=b:=⟨_,rfl⟩
        obtain⟨n5,KT⟩:∃k,S5.length=k:=⟨_,rfl⟩
        rw[heb]at he5;rw[KT]at Zs;obtain⟨X,hX⟩:∃X,(if S5=[]then[]else(eI (tS S5.length)).getD []++fr S5)=X:=⟨_,rfl⟩
        have HX:=Qh hX;have HEB:=Qh heb;have UG:=Qh KT;have VX:n5≤1048576:=by rw[←KT];exact y.out
        clear hX heb KT;obtain⟨Z5,hZ5⟩:∃Z,str S5=Z:=⟨_,rfl⟩
        have HZ5:=Qh hZ5;rw[hZ5]at Zs he5⊢;clear hZ5;go_upto_if 107 with fail
        go_cut [8] (fun s8 L=>cR L (w.heap.size+2) s8 X.length X∧PM w #[.string (str m.path),.string (str m.target),.int .u8 (m.kind.toNat:Int),.int .i64 m.mode,.int .i64 (u:Int),.int .i64 (g:Int),.int .i64 (t:Int),.slice p bl c] L h5)
        case first=>
         cases eb with
         |true=>
          have hs:S5=[]:=of_decide_eq_true HEB.out;have G:X=[]:=by rw[←HX.out,if_pos hs]
          go_wp2;go_meet
          exact⟨by rw[G];exact World.ownsRow_nil _ _ _ _,Xa.out⟩
         |false=>
          have hs:¬S5=[]:=of_decide_eq_false HEB.out;obtain⟨Hx,rh,U,ZN⟩:=qQ (n:=n5) VX;have G:X=Hx++fr S5:=by rw[←HX.out,if_neg hs,UG.out,rh];rfl
          have WR:=Qh (And.intro rh (And.intro U G));clear hs rh U ZN G;go_wp2_with fail;refine(show Calls _ _ #[.agg #[.string ⟨#[64,112,97,120]⟩,.string ⟨#[]⟩,.int .u8 120,.int .i64 0,.int .i64 0,.int .i64 0,.int .i64 0,.int .i64 (n5:Int),.bool false]] _ (uH _ (eI (tS n5)))from zj (tS n5) (I1 VX) (by show(4:Nat)≤_;decide) (by show(0:Nat)≤_;decide) _).mono ?_;rintro e w3 ⟨dt,(⟨bs,gx,R,rfl,bC,Cp⟩|⟨R,rfl⟩)⟩
          ·obtain rfl:bs=Hx:=by rw[WR.out.1]at R;exact(Option.some.inj R).symm
           have Ty:=Qh (Xa.out.kept dt);have ez:w.heap.size+2≤wc.heap.size:=by have:=Xa.out.hd.lt;omega
           have d:Hid (cR w3 (w.heap.size+2) (.slice (some ⟨gx,0,none⟩) 512 512) 512 bs):=Qh (by
            have:=Pz bC (Nat.le_trans ez Cp) (by rw[WR.out.2.1];decide);rw[WR.out.2.1]at this
            exact this)
           have bT:=Qh ez;clear dt bC Cp R ez;have Ct:Z5.size≤maxLen:=by rw[Zs];unfold maxLen;omega
           obtain⟨gw,ju⟩:=Tf w3 5 Z5 Ct;have cvb:=Lib.run_convert_string_bytes (P:=Tryz.prog) w3 9 26 5 Z5 Tryz.underlying9 Tryz.underlying26 Tryz.underlying5;have o8:=Td w3 5 Z5;have ZH:=se w3 5 Z5;obtain⟨w4,qv⟩:∃w4,bytesWorld w3 5 Z5=w4:=⟨_,rfl⟩
           rw[qv]at cvb o8 ZH;rw[Zs]at cvb o8;have Qz:=Qh o8;have HSB:=Qh ZH;have Ee:=Qh (Ty.out.below ZH);have UH:=Qh (d.out.kept (Kept.aO ZH ai) (fun _ _=>id));clear o8 ZH qv gw ju Ct;go_wp2_with fail;refine(tw _ n5 _ S5 w4 UG.out (by omega) (by have:=Qz.out;rw[←HZ5.out,aU]at this;exact this)).mono ?_;rintro e w5 ⟨v5,rfl,VY,fS⟩;obtain⟨p5,c5,rfl,_,_,nk,_,_⟩:=VY.slice;have Ef:=Qh (Ee.out.kept fS);have X5:=Qh (UH.out.kept fS (fun _ _=>id));have o4:=Qh nk;have Zy:(fr S5).length≤2000000:=by rw[bu,UG.out];have:=(fG n5).2;omega
           have Ju:=Qh Zy;have Zl:w.heap.size+2≤w5.heap.size:=by have:=Ef.out.hd.lt;omega
           have WX:=Qh Zl;obtain⟨i0,hi,eo,dH,dM⟩:=info_parts iy;have HI:=Qh hi;have jr:=Qh eo;have ib:=Qh dH;have js:=Qh dM;clear VY fS nk cvb Zy Zl hi eo dH dM
           go_wp2_with (at_builtin;refine eU rfl _ _ 26 rfl (w.heap.size+2) 5 i0 Tryz.underlying26 HI.out jr.out ib.out js.out _ 512 (nums bs) rfl X5.out p5 (fr S5).length c5 (fr S5) rfl o4.out rfl ?d2 WX.out ?_)
           case d2=>have:=Ju.out;omega
           intro v6 w6 OA Ol;have xt:Kept (fun k=>Value.ownBlock (.slice (some ⟨gx,0,none⟩) 512 512)=some k) w5 w6:=(Kept.refl _ w5).grown Ol (fun k hk=>.inr hk);have hgx:=(X5.out.lt gx rfl).1
           have F:Hid (cR w6 (w.heap.size+2) v6 X.length X∧PM w #[.string (str m.path),.string (str m.target),.int .u8 (m.kind.toNat:Int),.int .i64 m.mode,.int .i64 (u:Int),.int .i64 (g:Int),.int .i64 (t:Int),.slice p bl c] w6 h5):=Qh ⟨by
            rw[WR.out.2.2];unfold cR;rw[Qf,WR.out.2.1];have e:(nums (bs++fr S5)).map (Value.int .u8)=(nums bs++nums (fr S5)).map (Value.int .u8):=by unfold nums;rw[List.map_append]
            rw[e]
            first|exact OA|(rw[List.map_append];exact OA),⟨Ef.out.bel.trans (xt.below Ef.out.bel.size (fun k hk=>by have h1:=Option.some.inj hk;have h1:gx=k:=h1;omega)),Ef.out.mem.bV xt (fun e=>by have h1:=Option.some.inj e;have h1:gx=w.heap.size:=h1;omega),Ef.out.hd.bV xt (fun e=>by have h1:=Option.some.inj e;have h1:gx=w.heap.size+1:=h1;omega)⟩⟩
           clear OA Ol xt hgx;go_wp2;go_meet;exact F.out
          ·rw[WR.out.1]at R
           cases R
        case rest=>
         obtain⟨hO,J⟩:=hcut;have d:=Qh hO;have Ty:=Qh J;obtain⟨H,QL,D3,Zc⟩:=rK HG.out;rw[XU.out]at QL;have XV:=Qh (And.intro QL D3);have IF:=Ck HG.out;have htx:=vz HG.out;rw[XU.out]at IF htx;have Rt:=Qh (And.intro IF htx);clear hO J QL D3 Zc IF htx Zs he5;have B:=Ty.out.hd;have d0:=B.cell 0;have d1:=B.cell 1;have d2:=B.cell 2;have d3:=B.cell 3;have d4:=B.cell 4;have d5:=B.cell 5;have d6:=B.cell 6;have d7:=B.cell 7;have d8:=B.cell 8;simp only[af,Qc,Qa,Qb]at d0 d1 d2 d3 d4 d5 d6 d7 d8;clear B;go_wp2_with fail;refine(zj h5 Rt.out.1 Rt.out.2.1 Rt.out.2.2 _).mono ?_;rintro e w3 ⟨dt,(⟨bs,gy,R,rfl,bC,Cp⟩|⟨R,rfl⟩)⟩
         ·obtain rfl:bs=H:=by rw[XV.out.1]at R;exact(Option.some.inj R).symm
          have Ee:=Qh (Ty.out.kept dt);have UH:=Qh (d.out.kept dt (fun _ _=>id));have Hn:=Qh bC;have ad1:Hid (∀k,u8.ownBlock=some k→k≠gy):=Qh (fun k hk=>by have:=(d.out.lt k hk).2;omega);clear dt bC Cp R d0 d1 d2 d3 d4 d5 d6 d7 d8;go_upto_region 24 with fail;refine wp_region_any (by kernel_rfl) (Mz (ops':=b8) (by kernel_rfl) ?_);refine AL (w:=w) (w1:=w3) (w.heap.size+2) w.heap.size gy #[.string (str m.path),.string (str m.target),.int .u8 (m.kind.toNat:Int),.int .i64 m.mode,.int .i64 (u:Int),.int .i64 (g:Int),.int .i64 (t:Int),.slice p bl c] u8 X bs m.body p bl c ?a1 ?a2 ?a3 ?a4 ?a5 ?a6 ?a7 ?a8 ?a9 ?a10 ?a11 ?a12 ?a13 ?a14 ?a15 ?a16 ?a17 ?a18 ?a19 ?a20
          case a1=>exact Qk 132
          case a2=>rfl
          case a3=>rfl
          case a4=>rfl
          case a5=>exact Ee.out.bel
          case a6=>exact Ee.out.mem
          case a7=>rfl
          case a8=>exact Qk _
          case a9=>exact UH.out
          case a10=>exact Nat.lt_add_of_pos_right (by decide)
          case a11=>exact Ee.out.hd.lt
          case a12=>exact Nat.le_add_right _ _
          case a13=>have:=Hn.out.gC;rw[XV.out.2]at this;exact this
          case a14=>exact XV.out.2
          case a15=>exact ad1.out
          case a16=>exact HB.out
          case a17=>exact Jn.out
          case a18=>exact WM.out
          case a19=>
           rw[←HX.out];split
           ·exact Nat.zero_le _
           ·obtain⟨Hx,rh,U,_⟩:=qQ (n:=S5.length) y.out
            rw[rh,Option.getD_some,Qf,U,bu];have h1:=(fG S5.length).2;have h2:=y.out;clear VX;omega
          intro γ w9 ho9 QJ
          have F:Hid (lR w (fu m) (.returned γ.v2) w9):=Qh (by
           have e:fu m=(X++bs)++fr m.body:=by
            unfold fu;rw[Yj.out,XU.out,XV.out.1,←HX.out];simp only[Option.getD_some,List.append_assoc]
           rw[e]
           exact⟨γ.v2,rfl,ho9.mono (Nat.le_add_right _ _),Kept.aO QJ ai⟩)
          clear ho9 QJ;simp only[Exit.then]
          apply_assumption
          simp only[Act.put,List.setIfInBounds_toArray,List.set_cons_zero,List.set_cons_succ];go_wp2;go_ret;exact F.out
         ·rw[XV.out.1]at R
          cases R
end Mem
namespace Mem
open Go.ChangeShapes Go.WideShapes Go.ChangeAt Go.RowKit Base cf cN Bk Hp Head rr Path Block Rec Go.Lib
theorem Dk {m:aw} (h:dz m):(fu m).length≤3000000:=by
 have D:=(fG m.body.length).2;have hl:=(fG (aM (aT m)).length).2;have E:=jT h;have G:=h.body;obtain⟨H,_,A,_,(⟨_,e⟩|⟨X,_,B,_,e⟩)⟩:=lJ h
 ·rw[e,Qf,bu,A];omega
 ·rw[e,Qf,Qf,Qf,bu,bu,A,B];omega
theorem nJ:∀(ms:List aw),(∀m∈ms,dz m)→(bE ms).length≤ms.length*3000000
 |[],_=>Nat.zero_le _
 |m::ms,h=>by
  rw[fK,Qf,List.length_cons];have h1:=Dk (h m (List.mem_cons_self ..));have B:=nJ ms (fun x A=>h x (List.mem_cons_of_mem _ A));omega
theorem LU (w:World) (p:Option Addr) (n c:Nat) (xs:List MP) (h:dD w p n xs) (hg:∀x∈xs,dz x.m) (hn:n≤100):
 Calls Tryz.prog 27 #[.slice p n c] w (lR w (sC (xs.map MP.m))):=by
 obtain⟨i0,hi,d,Y,Z⟩:=info_parts iy;have V:=Qh hi;have g:=Qh d;have f:=Qh Y;have l:=Qh Z;have t:=Qh h;have J:=Qh h.1;have U:=Qh hg;clear hi d Y Z h hg
 go_enter Tryz.func27,Tryz.ntmps27
 go_wp2_with fail
 go_loopw [3,4] (fun o i wr=>∃(j:Nat),j≤n∧i=.int .i64 (j:Int)∧Hid (cR wr w.heap.size o (bE ((xs.take j).map MP.m)).length (bE ((xs.take j).map MP.m)))∧Hid (Below w.heap.size w wr)) (fun _ i _=>n - (RowKit.intOf i).toNat)
 case atStart=>exact⟨0,Nat.zero_le _,rfl,Qh (World.ownsRow_nil _ _ _ _),Qh (Below.refl _ _)⟩
 case round=>
  obtain⟨j,hj,rfl,hO,D⟩:=hrel
  have hlen:(bE ((xs.take j).map MP.m)).length≤300000000:=by
   have:=nJ ((xs.take j).map MP.m) (fun m hm=>by
    obtain⟨x,hx,rfl⟩:=List.mem_map.1 hm
    exact U.out x (List.mem_of_mem_take hx))
   rw[Qi,Qg]at this;omega
  have H:=Qh hlen;clear hlen
  by_cases M:j<n
  ·have R:=pO xs j (by rw[J.out];exact M)
   have L:=U.out _ (lA xs j (by rw[J.out];exact M));obtain⟨b,o,rfl,hb,T,c0,c1,c2,c3,c4,c5,c6,c7⟩:=(t.out.below D.out).cells M;obtain⟨y,hy⟩:∃y,xs.getD j cn=y:=⟨_,rfl⟩
   rw[hy]at R L T c0 c1 c2 c3 c4 c5 c6 c7;rw[Nat.mul_comm]at c0 c1 c2 c3 c4 c5 c6 c7;have u:=Qh R;have E:=Qh L;have I:=Qh T;have j5:(j:Int)<(n:Int):=by omega
   clear R L T hb hy;obtain⟨A,hA⟩:∃A,bE ((xs.take j).map MP.m)=A:=⟨_,rfl⟩
   rw[hA]at hO H;have r:=Qh hA;clear hA;go_wp2_with fail;refine(wU y.m y.p y.c _ E.out I.out.gC).mono ?_;rintro e w2 ⟨v2,rfl,q,N⟩;obtain⟨p2,q2,rfl,_,_,X,_,_⟩:=q.slice;have bT:=Qh X;have W:=Qh (hO.out.kept N (fun _ _=>id));have O:=Qh (D.out.trans (N.below D.out.size (fun _ h=>h.elim)));have z:=Qh (Dk E.out);clear X q N c0 c1 c2 c3 c4 c5 c6 c7
   go_wp2_with (at_builtin;refine eU rfl _ _ 26 rfl w.heap.size 5 i0 Tryz.underlying26 V.out g.out f.out l.out _ _ _ rfl W.out p2 (fu y.m).length q2 (fu y.m) rfl bT.out rfl ?d2 ?d3 ?_)
   case d2=>have:=z.out;have:=H.out;omega
   case d3=>exact O.out.size
   intro v3 w3 B G
   have F:Hid (cR w3 w.heap.size v3 (bE ((xs.take (j+1)).map MP.m)).length (bE ((xs.take (j+1)).map MP.m))∧Below w.heap.size w w3):=Qh ⟨by
    have e:bE ((xs.take (j+1)).map MP.m)=A++fu y.m:=by
     rw[u.out,th,fK,r.out];simp[bE]
    rw[e,Qf];unfold cR;rw[show nums (A++fu y.m)=nums A++nums (fu y.m) by unfold nums;rw[List.map_append]]
    first|exact B|(rw[List.map_append];exact B),O.out.trans (((Kept.refl _ w2).grown G (fun k hk=>.inr hk)).below O.out.size (fun k hk=>(W.out.lt k hk).1))⟩
   clear B G;go_wp2;go_roundw
   case rel=>exact⟨j+1,by omega,by go_num,Qh F.out.1,Qh F.out.2⟩
   case measure=>simp[RowKit.intOf];omega
  ·obtain rfl:j=n:=by omega
   have lP:¬((j:Int)<(j:Int)):=by omega
   have e:xs.take j=xs:=List.take_of_length_le (by rw[J.out];exact Qk _);rw[e]at hO H;clear e
   go_wp2_with (at_builtin;refine lq rfl _ _ 26 3 rfl w.heap.size 5 i0 .i64 .i64 Tryz.underlying26 Tryz.underlying3 V.out g.out f.out l.out _ (bE (xs.map MP.m)).length (nums (bE (xs.map MP.m))) rfl hO.out _ 1024 rfl ?e1 ?e2 D.out.size ?_)
   case e2=>have:=H.out;omega
   intro v3 w3 B G _
   have F:Hid (lR w (sC (xs.map MP.m)) (.returned v3) w3):=Qh (by
    refine⟨v3,rfl,?_,Kept.aO (D.out.trans (((Kept.refl _ _).grown G (fun k hk=>.inr hk)).below D.out.size (fun k hk=>(hO.out.lt k hk).1))) ai⟩;rw[lr,Qf,List.length_replicate];unfold cR;rw[show nums (bE (xs.map MP.m)++List.replicate 1024 0)=nums (bE (xs.map MP.m))++xo 1024 by unfold nums;rw[List.map_append];simp[xo]]
    first|exact B|(rw[List.map_append];exact B))
   clear B G;go_wp2;go_ret;exact F.out
end Mem
namespace Wr
open Go.ChangeShapes Go.WideShapes Go.ChangeAt Go.RowKit Base cf cN Bk Hp Head Rec Attr Mem Block Go.Lib
def Fit (xs:List MP):Prop:=∀x∈xs,x.m.path.length≤1000000000000∧x.m.target.length≤1000000000000
def J4 (xs:List MP):Bool:=xs.all fun x=>bZ x.m
theorem uK {xs:List MP}:J4 xs=true↔∀x∈xs,bZ x.m=true:=by simp[J4]
theorem DK (xs:List MP) (k:Nat) (h:k<xs.length):xs.take (k+1)=xs.take k++[xs.getD k cn]:=by
 rw[List.take_succ_eq_append_getElem h,List.getD,Qd h];rfl
theorem nC (m:aw) (p:Option Addr) (c:Nat) (w:World) (h1:m.path.length≤1000000000000) (h2:m.target.length≤1000000000000) (hN:Need w):
 Calls Tryz.prog 51 #[.agg (dj m p c)] w fun e w'=>e=.returned (.bool (!bZ m))∧Below w.heap.size w w':=by
 obtain⟨W0,D⟩:∃W0,w.alloc (.cells (dj m p c) 48)=W0:=⟨_,rfl⟩
 have B:Below w.heap.size w W0:=by rw[←D];exact(Below.refl _ _).alloc (Qk _) _
 have A:=nz m p c W0 (by omega) (by omega) (hN.below B).A2;obtain⟨r,I⟩:∃r,bZ m=r:=⟨_,rfl⟩
 rw[I]at A⊢;have J:=Qh B;have G:=Qh D;have E:=Qh A;unfold dj at G E⊢;clear B D A I
 go_enter Tryz.func51,Tryz.ntmps51
 go_wp2_with fail
 rw[G.out];refine E.out.mono ?_;rintro e M ⟨rfl,H⟩;have L:=Qh (J.out.trans (H.mono J.out.size));clear H;go_wp2;go_ret;exact⟨rfl,L.out⟩
def Ru (xs:List MP) (w:World) (e:Ending) (w':World):Prop:=∃k:Int,e=.returned (.int .i64 k)∧decide (0≤k)=!J4 xs∧Below w.heap.size w w'
theorem rL (p:Option Addr) (n c:Nat) (xs:List MP) (w:World) (h:dD w p n xs) (hn:n≤100000) (hF:Fit xs) (hN:Need w):
 Calls Tryz.prog 57 #[.slice p n c,.func (.func 51) #[] #[]] w (Ru xs w):=by
 have W:=Qh h;have O:=Qh h.1;have V:=Qh hF;have X:=Qh hN;clear h hF hN
 go_enter Tryz.func57,Tryz.ntmps57
 go_wp2_with fail
 go_loopw [5,8] (fun _ i wr=>∃(j:Nat),j≤n∧i=.int .i64 (j:Int)∧Hid (∀x∈xs.take j,bZ x.m=true)∧Hid (Below w.heap.size w wr)) (fun _ i _=>n - (RowKit.intOf i).toNat)
 case atStart=>exact⟨0,Nat.zero_le _,rfl,Qh (by simp),Qh (Below.refl _ _)⟩
 case round=>
  obtain⟨j,g,rfl,hA,A⟩:=hrel
  by_cases T:j<n
  ·have I:j<xs.length:=by rw[O.out];exact T
   have H:=lA xs j I;have L:=DK xs j I;have G:=V.out _ H;obtain⟨b,o,rfl,d,U,c0,c1,c2,c3,c4,c5,c6,c7⟩:=(W.out.below A.out).cells T;obtain⟨y,hy⟩:∃y,xs.getD j cn=y:=⟨_,rfl⟩
   rw[hy]at L H G U c0 c1 c2 c3 c4 c5 c6 c7;rw[Nat.mul_comm]at c0 c1 c2 c3 c4 c5 c6 c7;have D:=nC y.m y.p y.c wr G.1 G.2 (X.out.below A.out);unfold dj at D;obtain⟨r,M⟩:∃r,bZ y.m=r:=⟨_,rfl⟩
   rw[M]at D;have Y:=Qh L;have R:=Qh M;have Z:=Qh H;have N:=Qh D;have l:(j:Int)<(n:Int):=by omega
   clear L d hy D M H I G U
   cases r with
   |true=>
    go_wp2_with fail
    refine N.out.mono ?_;rintro e f ⟨rfl,B⟩;have J:=Qh (A.out.trans (B.mono A.out.size));clear B c0 c1 c2 c3 c4 c5 c6 c7;go_wp2;go_roundw
    case rel=>exact⟨j+1,by omega,by go_num,Qh (fun x hx=>by
     rw[Y.out,List.mem_append]at hx;rcases hx with hx|hx
     ·exact hA.out x hx
     ·rw[List.mem_singleton.1 hx];exact R.out),J⟩
    case measure=>simp[RowKit.intOf];omega
   |false=>
    go_wp2_with fail
    refine N.out.mono ?_;rintro e f ⟨rfl,B⟩;have J:=Qh (A.out.trans (B.mono A.out.size))
    have E:Hid (J4 xs=false):=Qh (by
     rw[Bool.eq_false_iff];intro h;have:=uK.1 h _ Z.out;rw[R.out]at this
     cases this)
    clear B c0 c1 c2 c3 c4 c5 c6 c7;go_wp2;go_ret;exact⟨(j:Int),rfl,by rw[E.out];simp,J.out⟩
  ·have q:¬((j:Int)<(n:Int)):=by omega
   have E:Hid (J4 xs=true):=Qh (uK.2 (fun x hx=>hA.out x (by rw[List.take_of_length_le (by rw[O.out];omega)];exact hx)));go_wp2;go_ret;exact⟨-1,rfl,by rw[E.out];decide,A.out⟩
theorem jC (p:Option Addr) (n c:Nat) (xs:List MP) (w:World) (h:dD w p n xs) (hn:n≤100000) (hF:Fit xs) (hN:Need w):
 Calls Tryz.prog 50 #[.slice p n c,.func (.func 51) #[] #[]] w fun e w'=>e=.returned (.bool (!J4 xs))∧Below w.heap.size w w':=by
 have D:=Qh (rL p n c xs w h hn hF hN);clear h hF hN
 go_enter Tryz.func50,Tryz.ntmps50
 go_wp2_with fail
 refine D.out.mono ?_;rintro e E ⟨k,rfl,hk,A⟩;have B:=Qh A;clear A;go_wp2;go_ret;exact⟨by first|rw[hk]|rfl,B.out⟩
end Wr
end Go.Proofs.YtdhibldkldlfpaaGreatDoor
