/- Merged. -/
import Derived.RangeFuncNested
import Derived.RangeFuncBound
import Derived.Shelf.Abstract
import Derived.Shelf.RegionOpen
import Derived.WalkKit
import Derived.OwnWalkIn
import Derived.LoopNIn
import Derived.LoopIn
import Derived.Test.YtdhibldkldlfpaaGreatDoorEmitSortedX32
import Derived.Test.YtdhibldkldlfpaaGreatDoorEmitSortedX23
import Derived.Test.YtdhibldkldlfpaaGreatDoorEmitSortedX28
namespace Go.Proofs.YtdhibldkldlfpaaGreatDoor
set_option linter.unusedVariables false
set_option maxHeartbeats 4000000
set_option maxRecDepth 100000
variable {M:Array Value} {B b g i k n:Nat} {p:Option Addr} {α:Type} {W w W' w':World}
namespace Path
open Go.ChangeShapes Go.WideShapes Go.ChangeAt Go.RowKit Go.Shelf Base bM cr Go.Lib ql
attribute [local go_sem] Oper.semAt_some
theorem om {β:Type} {B:Nat} {J:β→World→Prop} (h:AbidesFrom B J) {s:β} {w:World} (hs:J s w) (n:Nat):J s (w.drewN n):=
 match n with
 |0=>hs
 |n+1=>h s (w.drewN n) _ none (om h hs n) ⟨rfl,rfl,rfl,Qk _,fun _ _ _=>rfl⟩ (fun r e=>by cases e)
def Fc (m:Bool) (l:List UInt8):List (List UInt8):=if m then aC l else[]
theorem Lj (l:List UInt8):Fc true l=(na l).1::Fc (na l).2.2 (na l).2.1:=by
 unfold Fc na;rw[if_pos rfl];obtain⟨h1,A⟩:=wP l
 by_cases h:0≤Lib.indexByte l 47
 ·rw[if_pos h,h1 h]
  simp
 ·rw[if_neg h,A h]
  simp
theorem Kc (l:List UInt8):(na l).2.1.length+(if(na l).2.2 then 1 else 0)<l.length+1:=by
 unfold na
 by_cases h:0≤Lib.indexByte l 47
 ·rw[if_pos h]
  obtain⟨k,hk⟩:∃k:Nat,Lib.indexByte l 47=k:=⟨(Lib.indexByte l 47).toNat,by omega⟩
  have A:=(List.getElem?_eq_some_iff.1 (Lib.indexByte_some hk).1).1;simp only[Qe,hk,Int.toNat_natCast,if_true];omega
 ·rw[if_neg h]
  simp
def PB (r m:Value):Nat:=(match r with|.string s=>s.size|_=>0)+(match m with|.bool true=>1|_=>0)
abbrev Part:={x:List UInt8 // x.length≤140737488351232}
theorem Ir (l:List UInt8):∀p∈aC l,p.length≤l.length:=by
 induction l with
 |nil=>simp[aC]
 |cons b l ih=>
  unfold aC
  by_cases A:b=47
  ·rw[if_pos A]
   intro p hp;rcases List.mem_cons.1 hp with rfl|hp
   ·simp
   ·have:=ih p hp;rw[List.length_cons];omega
  ·rw[if_neg A]
   cases B:aC l with
   |nil=>exact absurd B (tM l)
   |cons q qs=>
    rw[B]at ih;intro p hp;rcases List.mem_cons.1 hp with rfl|hp
    ·have:=ih q (by simp)
     simp only[List.headD_cons,List.length_cons];omega
    ·have:=ih p (List.mem_cons_of_mem _ hp);rw[List.length_cons];omega
theorem DY (s:List UInt8) (hm:s.length≤140737488351232):∃ps:List Part,ps.map (·.1)=aC s:=by
 refine⟨(aC s).attachWith _ (fun p A=>Nat.le_trans (Ir s p A) hm),?_⟩;simp
theorem RZ (F:Fence) (n:Nat) (hF:F=Fence.wide) (hn:1≤n) (l Bn:Nat) (s:List UInt8) (hm:s.length≤140737488351232) (ps:List Part) (xY:ps.map (·.1)=aC s) (J Jx:List Part→World→Prop) (B:Nat) (hJ:AbidesFrom B J)
 (hY:∀pre x W,J pre W→pre.length<ps.length→YieldAt F (n - 1) Tryz.prog l #[.string (str x.1)] W fun e W'=>
  (e=.returned (.bool true)∧J (pre++[x]) W'∧True)∨(e=.returned (.bool false)∧Jx (pre++[x]) W'))
 (W:World) (QM:W.cell? ⟨Bn,0,none⟩=some (.string (str s))) (h0:J [] W):
 CallsIn F n Tryz.prog 187 #[.func (.yield l) #[] #[],.pointer (some ⟨Bn,0,none⟩)] W fun e W'=>(∃v,e=.returned v)∧
  ((∃ys,ys=ps∧J ys W')∨(∃pre,pre<+:ps∧Jx pre W')):=by
 subst hF;refine callsIn_of_wp Tryz.func187 rfl trivial ?_ rfl;simp only[Tryz.ntmps187,List.size_toArray,List.length_cons,List.length_nil,Nat.reduceAdd,Nat.reduceSub,Array.replicate_succ,Array.replicate_zero,List.push_toArray,List.append_toArray,List.nil_append,List.cons_append]
 gi_wp2
 gi_loopw [3,4] (fun r m wr=>∃(pre D:List Part) (rest:List UInt8) (b:Bool),r=.string (str rest)∧m=.bool b∧Hid (ps=pre++D∧D.map (·.1)=Fc b rest)∧rest.length≤140737488351232∧J pre wr)
  (fun r m wr=>PB r m)
 case atStart=>exact⟨[],ps,s,true,rfl,rfl,⟨rfl,xY⟩,hm,h0⟩
 case round=>
  obtain⟨pre,D,rest,b,rfl,rfl,O,f,U⟩:=hrel
  cases b with
  |false=>
   gi_wp2
   go_end0
   exact⟨⟨_,rfl⟩,.inl ⟨pre,by obtain⟨h1,M⟩:=O.out;obtain rfl:D=[]:=List.map_eq_nil_iff.1 M;simp[h1],U⟩⟩
  |true=>
   obtain⟨G,A⟩:=O.out;rw[Lj]at A
   obtain⟨x,SR,R⟩:∃x SR,D=x::SR:=by
    cases D with
    |nil=>simp at A
    |cons x SR=>exact⟨x,SR,rfl⟩
   rw[R,List.map_cons,List.cons.injEq]at A;have hc:=xJ rest wr f;have hl:=Kc rest;have E:(str rest).size=rest.length:=au rest;obtain⟨p,N⟩:∃p:List UInt8,p=x.1:=⟨_,rfl⟩
   obtain⟨q,I⟩:∃q,q=(na rest).2.1:=⟨_,rfl⟩
   obtain⟨b,H⟩:∃b,b=(na rest).2.2:=⟨_,rfl⟩
   rw[←A.1,←N,←I,←H]at hc;rw[←I,←H]at A;rw[R]at G;rw[←I,←H]at hl;have L:=Qh (And.intro G A.2);have T:=Qh hl;have X:=Qh E
   have V:∀k,YieldAt Fence.wide (n - 1) Tryz.prog l #[.string (str x.1)] (wr.drewN k) fun e W'=>
    (e=.returned (.bool true)∧J (pre++[x]) W'∧True)∨(e=.returned (.bool false)∧Jx (pre++[x]) W'):=
    fun k=>hY pre x _ (om hJ U k) (by rw[G];simp)
   rw[←N]at V;clear N I H G A hl E O R hY
   gi_wp2_with (refine⟨trivial,?_⟩;gi_at_call 141;refine(callsIn_wide.2 hc).mono ?_;rintro e w' ⟨rfl,k,rfl⟩;obtain⟨fn,tmps,assign,body,hy,d⟩:=V k)
   refine d.mono ?_;rintro e g (⟨rfl,Z,-⟩|⟨rfl,Y⟩)
   ·gi_wp2
    go_roundw
    case rel=>exact⟨pre++[x],SR,q,b,rfl,rfl,⟨by rw[L.out.1];simp,L.out.2⟩,by have:=T.out;omega,Z⟩
    case measure=>
     have h1:=T.out;have M:=X.out;have c:(str q).size=q.length:=au q
     cases b<;>simp[PB,M,c]at h1⊢<;>omega
   ·gi_wp2
    refine bodyPost_ret (results_none rfl _ _ _) rfl ?_;exact⟨⟨_,rfl⟩,.inr ⟨pre++[x],by rw[L.out.1];exact⟨SR,by simp⟩,Y⟩⟩
theorem IM (n:Nat) (hn:1≤n) (Bn:Nat) (s:List UInt8) (hm:s.length≤140737488351232) (ps:List Part) (xY:ps.map (·.1)=aC s) (w:World) (QM:Bn<w.heap.size) (hc:w.cell? ⟨Bn,0,none⟩=some (.string (str s))):
 SeqStopsK Fence.wide n Tryz.prog 187 #[.pointer (some ⟨Bn,0,none⟩)] (fun x:Part=>#[Value.string (str x.1)]) (fun _ _=>True) (fun ys=>ys=ps) (fun pre=>pre<+:ps) ps.length w:=fun l J A W E D _ G B=>
 RZ Fence.wide n rfl hn l Bn s hm ps xY J A _ D G W ((E.cell (p:=⟨Bn,0,none⟩) QM).trans hc) B
theorem Ip (s:List UInt8) (w:World):
 Calls Tryz.prog 150 #[.string (str s)] w fun e w'=>e=.returned (.func (.func 187) #[] #[.pointer (some ⟨w.heap.size,0,none⟩)])∧w'=w.alloc (.cells #[.string (str s)] 9):=by
 go_enter Tryz.func150,Tryz.ntmps150
 go_wp2;go_ret;exact⟨rfl,rfl⟩
end Path
namespace Path
open Go.ChangeShapes Go.WideShapes Go.ChangeAt Go.RowKit Go.Shelf Base bM cr Go.Lib ql
variable {v:Value}
attribute [local go_sem] Oper.semAt_some
theorem EK (a b:List (List UInt8)):∀c,rN c (a++b)=(rN c a).bind fun d=>rN d b:=by
 induction a with
 |nil=>intro c;rfl
 |cons p a ih=>
  intro c;rw[List.cons_append,rN,rN];split
  ·rfl
  ·exact ih _
theorem Kn (pre:List (List UInt8)) (p c d:List UInt8) (h:rN c pre=some d):rN c (pre++[p])=if p=[46,46]∨200<(bH d p).length then none else some (bH d p):=by
 rw[EK,h,Option.bind_some];unfold rN;split<;>rfl
theorem QH (ps:List (List UInt8)):∀c d,c.length≤200→rN c ps=some d→d.length≤200:=by
 induction ps with
 |nil=>intro c d hc h;cases h;exact hc
 |cons p ps ih=>
  intro c d hc h;unfold rN at h;split at h
  ·cases h
  ·next A=>exact ih _ _ (by rcases Nat.lt_or_ge 200 (bH c p).length with h'|h';exact absurd (.inr h') A;exact h') h
theorem Km (a b:List (List UInt8)) (h:rN [] a=none):rN [] (a++b)=none:=by rw[EK,h];rfl
theorem sQ (l:List UInt8):Lib.hasPrefix l [47]=decide (l.head? =some 47):=by
 cases l with
 |nil=>simp[Lib.hasPrefix]
 |cons b t=>
  by_cases h:b=47
  ·subst h;simp[Lib.hasPrefix]
  ·have A:¬(47:UInt8)=b:=fun e=>h e.symm
   simp[Lib.hasPrefix,List.isPrefixOf,h,A]
def Cell (W:World) (b:Nat) (v:Value):Prop:=W.cell? ⟨b,0,none⟩=some v∧W.frozen? ⟨b,0,none⟩=false
theorem Cell.kept (h:Cell W b v) {row:Option Nat} (hg:W.grownBy W' row) (hr:∀r,row=some r→∃o:Obj,W.heap[r]? =some o∧o.isCells=false):Cell W' b v:=
 ⟨cell_kept h.1 hg hr,(frozen_kept h.1 hg hr).trans h.2⟩
theorem Cell.below (h:Cell W b v) (hb:Below n W W') (hn:b<n):Cell W' b v:=
 ⟨(hb.cell (p:=⟨b,0,none⟩) hn).trans h.1,(hb.frozen (p:=⟨b,0,none⟩) hn).trans h.2⟩
theorem Cell.new (W:World) (v:Value) (t:TypeId):Cell (W.alloc (.cells #[v] t)) W.heap.size v:=by
 have h:=World.alloc_heap_new W (.cells #[v] t);unfold Cell World.cell? World.frozen?;rw[h];exact⟨rfl,rfl⟩
theorem Cell.alloc (h:Cell W b v) (o:Obj):Cell (W.alloc o) b v:=h.kept (World.grownBy_alloc W o none) (fun r e=>by cases e)
theorem Cell.set (h:Cell W b v) (u:Value):Cell (W.setCell ⟨b,0,none⟩ u) b u:=
 ⟨World.cell?_setCell_same' _ _ _ (by rw[h.1];rfl),by rw[World.frozen?_setCell];exact h.2⟩
theorem Cell.other {b':Nat} (h:Cell W b v) (u:Value) (cX:b'≠b):Cell (W.setCell ⟨b',0,none⟩ u) b v:=
 ⟨(World.cell?_setCell_other _ _ _ _ (fun e=>cX (congrArg Addr.block e))).trans h.1,by rw[World.frozen?_setCell];exact h.2⟩
def dS (P:Int) (l:List UInt8):List UInt8 × Int:=
 if l.head? =some 47 then([],P)else match rN [] (aC l)with|none=>([],P)|some a=>if a=[]then([],P)else(a,0)
theorem Cm (T P:Int) (l:List UInt8):bz T P l=if aQ l=false then([],T)else dS P l:=Gu T P l
theorem kx (W:World) (tm:Array Value) (b0 b1:Nat) (s:ByteArray) (e:Int) (h0:tm[2]? =some (.pointer (some ⟨b0,0,none⟩))) (h1:tm[3]? =some (.pointer (some ⟨b1,0,none⟩)))
 (c0:Cell W b0 (.string s)) (c1:Cell W b1 (.int .i64 e)):(results Tryz.f116 tm).run Tryz.prog W=.ok (.tuple #[.string s,.int .i64 e]) W:=by
 obtain⟨A,B⟩:=c0;obtain⟨Ny,D⟩:=c1;simp[results,Tryz.f116,go_sem,h0,h1,A,Ny]
theorem vL (l:List UInt8) (w:World) (hm:l.length≤140737488351232) (hT:Tabs w):
 Calls Tryz.prog 116 #[.string (str l)] w fun e w'=>e=.returned (.tuple #[.string (str (bz 9 6 l).1),.int .i64 (bz 9 6 l).2])∧Below w.heap.size w w':=by
 have hR:=fun w hT=>wY l w hm hT
 have hP:=fun w=>Any.strings_HasPrefix Tryz.Dc (str l) ⟨#[47]⟩ w
 rw[Cm];simp only[bg,sQ]at hP;refine(callsIn_wide (n:=3)).1 ?_;refine callsIn_of_wp_marks Tryz.func116 rfl trivial ?_ rfl;simp only[Tryz.ntmps116,List.size_toArray,List.length_cons,List.length_nil,Nat.reduceAdd,Nat.reduceSub,Array.replicate_succ,Array.replicate_zero,List.push_toArray,List.append_toArray,List.nil_append,List.cons_append];have pr:Below w.heap.size w ((w.alloc (.cells #[.string ⟨#[]⟩] 9)).alloc (.cells #[.int .i64 0] 27)):=((Below.refl _ _).alloc (Qk _) _).alloc (by simp) _;have z:=hT.below pr;have c0:Cell ((w.alloc (.cells #[.string ⟨#[]⟩] 9)).alloc (.cells #[.int .i64 0] 27)) w.heap.size (.string ⟨#[]⟩):=(Cell.new w _ _).alloc _
 have c1:Cell ((w.alloc (.cells #[.string ⟨#[]⟩] 9)).alloc (.cells #[.int .i64 0] 27)) (w.heap.size+1) (.int .i64 0):=by
  have:=Cell.new (w.alloc (.cells #[.string ⟨#[]⟩] 9)) (.int .i64 0) 27
  rwa [World.size_alloc]at this
 have HC:=Qh (And.intro c0 c1);have HB:=Qh pr;clear c0 c1 pr hT
 cases ht:aQ l with
 |false=>
  rw[if_pos rfl];have R:=hR _ z;rw[ht]at R
  gi_wp2_with fail
  refine⟨trivial,(callsIn_wide.2 R).mono ?_⟩;rintro e o ⟨rfl,J⟩;simp only[World.size_alloc]at J;obtain⟨Xi,Xj⟩:=HC.out.1.below J (by omega);obtain⟨d10,d11⟩:=HC.out.2.below J (by omega);have b:=Qh (HB.out.trans (J.mono (by omega)));clear J R z hR hP
  gi_wp2_with fail
  refine⟨_,kx _ _ w.heap.size (w.heap.size+1) ⟨#[]⟩ 9 rfl rfl (((show Cell o w.heap.size _ from⟨Xi,Xj⟩).set _).other _ (by omega)) (((show Cell o (w.heap.size+1) _ from⟨d10,d11⟩).other _ (by omega)).set _),rfl,?_⟩;exact(b.out.setCell (p:=⟨w.heap.size,0,none⟩) (Qk _) _).setCell (p:=⟨w.heap.size+1,0,none⟩) (by simp) _
 |true=>
  rw[if_neg (by simp)];have R:=hR _ z;rw[ht]at R;obtain⟨G,H⟩:∃G,dS 6 l=G:=⟨_,rfl⟩
  rw[H];unfold dS at H;have HG:=Qh H;clear H
  gi_wp2_with fail
  refine⟨trivial,(callsIn_wide.2 R).mono ?_⟩;rintro e o ⟨rfl,J⟩;simp only[World.size_alloc]at J;have d0:=HC.out.1.below J (by omega);have d1:=HC.out.2.below J (by omega);have ly:Hid (w.heap.size+2≤o.heap.size):=Qh (by have:=J.size;rw[World.size_alloc,World.size_alloc]at this;omega);have b:=Qh (HB.out.trans (J.mono (by omega)));clear J R z hR;have y:=hP o;clear hP
  by_cases V:l.head? =some 47
  ·obtain rfl:([],6)=G:=by rw[←HG.out,if_pos V]
   rw[decide_eq_true V]at y;clear V;obtain⟨Xi,Xj⟩:=d0;obtain⟨d10,d11⟩:=d1
   gi_wp2_with fail
   refine⟨trivial,(callsIn_wide.2 y).mono ?_⟩;rintro e w' ⟨rfl,rfl⟩
   gi_wp2_with fail
   refine⟨_,kx _ _ w.heap.size (w.heap.size+1) ⟨#[]⟩ 6 rfl rfl (((show Cell w' w.heap.size _ from⟨Xi,Xj⟩).set _).other _ (by omega)) (((show Cell w' (w.heap.size+1) _ from⟨d10,d11⟩).other _ (by omega)).set _),rfl,?_⟩;exact(b.out.setCell (p:=⟨w.heap.size,0,none⟩) (Qk _) _).setCell (p:=⟨w.heap.size+1,0,none⟩) (by simp) _
  ·have H:=HG.out
   rw[if_neg V]at H;rw[decide_eq_false V]at y;have f:=Qh H;clear V HG H;have HD:=Qh (And.intro d0 d1);clear d0 d1
   gi_wp2_with fail
   refine⟨trivial,(callsIn_wide.2 y).mono ?_⟩;rintro e w' ⟨rfl,rfl⟩
   gi_wp2_with fail
   have bL:Hid (Below w.heap.size w ((w'.alloc (.cells #[.string ⟨#[]⟩] 9)).alloc (.cells #[.string (str l)] 9))):=
    Qh ((b.out.alloc (by have:=ly.out;omega) _).alloc (by have:=ly.out;rw[World.size_alloc];omega) _)
   have HX:=Qh (((Cell.new w' (.string ⟨#[]⟩) 9)).alloc (.cells #[.string (str l)] 9));have HY:=Qh (And.intro ((HD.out.1.alloc (.cells #[.string ⟨#[]⟩] 9)).alloc (.cells #[.string (str l)] 9)) ((HD.out.2.alloc (.cells #[.string ⟨#[]⟩] 9)).alloc (.cells #[.string (str l)] 9)));have t:=Qh (Cell.new (w'.alloc (.cells #[.string ⟨#[]⟩] 9)) (.string (str l)) 9);clear b HD HC;obtain⟨ps,xY⟩:=DY l hm;refine⟨trivial,(callsIn_wide.2 (Ip l _)).mono ?_⟩;rintro e w2 ⟨rfl,rfl⟩
   gi_wp2_with fail
   obtain⟨n1,SK⟩:∃n1,w'.heap.size=n1:=⟨_,rfl⟩
   obtain⟨W0,sN⟩:∃W0,(w'.alloc (.cells #[.string ⟨#[]⟩] 9)).alloc (.cells #[.string (str l)] 9)=W0:=⟨_,rfl⟩
   have M:Hid (W0.heap.size=n1+2∧w.heap.size+2≤n1):=Qh (by rw[←sN,World.size_alloc,World.size_alloc];exact⟨by omega,by have:=ly.out;omega⟩);rw[sN]at bL HX HY t⊢;rw[World.size_alloc]at t;rw[SK]at HX t⊢;clear sN ly SK HB
   refine wpIn_rangeFunc_ownF rfl (by omega) (gf:=187) (lb:=#[.pointer (some ⟨n1+1,0,none⟩)]) rfl trivial (enters_of Tryz.func187 (by kernel_rfl) rfl)
    (IM _ (by omega) (n1+1) l hm ps xY W0 (by rw[M.out.1];omega) t.out.1) (fun _ _=>trivial) (fun _ _ _ _ _ _ _ _=>trivial) (Below.refl _ _) (fun _=>rfl)
    (fun pre W=>(∃c,rN [] (pre.map (·.1))=some c∧Cell W n1 (.string (str c))∧Cell W w.heap.size (.string ⟨#[]⟩)∧Cell W (w.heap.size+1) (.int .i64 0))∧Below w.heap.size w W)
    (fun c pre W=>(c=.ret∧rN [] (pre.map (·.1))=none∧Cell W w.heap.size (.string ⟨#[]⟩)∧Cell W (w.heap.size+1) (.int .i64 6))∧Below w.heap.size w W)
    (OwnFrom.and (Own.from (fun s A B row hs I Y=>by obtain⟨c,h1,X,h3,h4⟩:=hs;exact⟨c,h1,X.kept I Y,h3.kept I Y,h4.kept I Y⟩) _) (ownFrom_below (Qk _) (by rw[M.out.1];have:=M.out.2;omega)))
    (fun c=>OwnFrom.and (Own.from (fun s A B row hs I Y=>⟨hs.1,hs.2.1,hs.2.2.1.kept I Y,hs.2.2.2.kept I Y⟩) _) (ownFrom_below (Qk _) (by rw[M.out.1];have:=M.out.2;omega)))
    ⟨⟨[],rfl,HX.out,HY.out.1,HY.out.2⟩,bL.out⟩
    (fun x=>{tmps:=#[.string (str l),undef,.pointer (some ⟨w.heap.size,0,none⟩),.pointer (some ⟨w.heap.size+1,0,none⟩),.pointer (some ⟨n1,0,none⟩),.string (str x.1),.string (str l),.bool true,.bool false,.string (str l),.bool false,.string (str l),.func (.func 187) #[] #[.pointer (some ⟨n1+1,0,none⟩)],.string (str x.1),undef,undef,undef,undef,undef,undef,undef,undef,undef,undef,undef,undef,undef],defers:=[]}) ?assign ?body ?done ?stop
   case assign=>
    intro l x W K N
    gi_wp2
    exact N
   case body=>
    rintro l' pre x W ⟨⟨c,I,c0,c1,c2⟩,L⟩ _;have hc:=QH _ _ _ (by simp) I;have hj:=K6 c x.1 W (by have:=x.2;omega);have hs:=Kn _ x.1 _ _ I;obtain⟨d,hd⟩:∃d,bH c x.1=d:=⟨_,rfl⟩
    rw[hd]at hj hs;have e0:=(c0.set (.string (str d)))
    have e1:=(c1.other (.string (str d)) (show n1≠_ by have:=M.out.2;omega))
    have e2:=(c2.other (.string (str d)) (show n1≠_ by have:=M.out.2;omega))
    have cb:=L.setCell (p:=⟨n1,0,none⟩) (show w.heap.size≤n1 by have:=M.out.2;omega) (.string (str d));have E:=Qh (And.intro e1 (And.intro e2 cb));have T:((str d).size:Int)=d.length:=by rw[au]
    obtain⟨f0,f1⟩:=c0;have HP:=Qh hd
    by_cases U:x.1=[46,46]
    ·have b1:((str x.1).toList==[46,46])=true:=by rw[iq];simpa using U
     rw[if_pos (.inl U)]at hs;have O:rN [] ((pre++[x]).map (·.1))=none:=by rw[List.map_append];exact hs
     have Z:=Qh O;clear hs O U hd I hc e1 e2 c1 c2 L cb T
     gi_wp2_with fail
     refine⟨trivial,(CallsIn.inRound l' (callsIn_wide.2 hj)).mono ?_⟩;rintro e w3 ⟨rfl,rfl⟩;obtain⟨ZO,VE⟩:=e0;obtain⟨Xl,Xm⟩:=E.out.1;obtain⟨g10,g11⟩:=E.out.2.1
     gi_wp2
     exact⟨((KeepsOthers.setCell _ _ _).trans (KeepsOthers.setCell _ _ _)).trans (KeepsOthers.setCell _ _ _),⟨rfl,Z.out,(E.out.1.set _).other _ (by omega),(E.out.2.1.other _ (by omega)).set _⟩,(E.out.2.2.setCell (p:=⟨w.heap.size,0,none⟩) (Qk _) _).setCell (p:=⟨w.heap.size+1,0,none⟩) (by simp) _⟩
    ·have b1:((str x.1).toList==[46,46])=false:=by rw[iq];simpa using U
     obtain⟨n,hn⟩:∃n,(str d).size=n:=⟨_,rfl⟩
     by_cases X:200<d.length
     ·have b2:(200:Int)<(n:Int):=by omega
      rw[if_pos (.inr X)]at hs;have O:rN [] ((pre++[x]).map (·.1))=none:=by rw[List.map_append];exact hs
      have Z:=Qh O;clear hs O U hd I hc e1 e2 c1 c2 L cb T X
      gi_wp2_with fail
      refine⟨trivial,(CallsIn.inRound l' (callsIn_wide.2 hj)).mono ?_⟩;rintro e w3 ⟨rfl,rfl⟩;obtain⟨ZO,VE⟩:=e0;obtain⟨Xl,Xm⟩:=E.out.1;obtain⟨g10,g11⟩:=E.out.2.1
      gi_wp2
      exact⟨((KeepsOthers.setCell _ _ _).trans (KeepsOthers.setCell _ _ _)).trans (KeepsOthers.setCell _ _ _),⟨rfl,Z.out,(E.out.1.set _).other _ (by omega),(E.out.2.1.other _ (by omega)).set _⟩,(E.out.2.2.setCell (p:=⟨w.heap.size,0,none⟩) (Qk _) _).setCell (p:=⟨w.heap.size+1,0,none⟩) (by simp) _⟩
     ·have b2:¬(200:Int)<(n:Int):=by omega
      rw[if_neg (fun h=>h.elim U X)]at hs;have O:rN [] ((pre++[x]).map (·.1))=some d:=by rw[List.map_append];exact hs
      have Z:=Qh O;clear hs O U hd I hc e1 e2 c1 c2 L cb T X
      gi_wp2_with fail
      refine⟨trivial,(CallsIn.inRound l' (callsIn_wide.2 hj)).mono ?_⟩;rintro e w3 ⟨rfl,rfl⟩;obtain⟨ZO,VE⟩:=id e0;obtain⟨Xl,Xm⟩:=E.out.1;obtain⟨g10,g11⟩:=E.out.2.1
      gi_wp2
      exact⟨KeepsOthers.setCell _ _ _,trivial,⟨d,Z.out,e0,E.out.1,E.out.2.1⟩,E.out.2.2⟩
   case done=>
    rintro D ys W hD rfl ⟨⟨c,I,c0,c1,c2⟩,L⟩ N;rw[xY]at I;have H:=f.out;rw[I]at H;simp only at H;have u:w.heap.size≤D:=by have:=M.out;omega
    obtain⟨f0,f1⟩:=id c0;obtain⟨Xl,Xm⟩:=id c1;obtain⟨g10,g11⟩:=id c2;have E:=Qh (And.intro c1 (And.intro c2 L));have q:=Qh N
    by_cases hc:c=[]
    ·have b1:(str c).toList.isEmpty=true:=by rw[aU];simpa using hc
     obtain rfl:([],6)=G:=by rw[←H,if_pos hc]
     clear H hc I f c0 c1 c2 L N
     gi_wp2
     have hK':=((KeepsOthers.setCell W ⟨w.heap.size,0,none⟩ (.string ⟨#[]⟩)).trans (KeepsOthers.setCell _ ⟨w.heap.size+1,0,none⟩ (.int .i64 6))).same D _ q.out rfl;refine⟨by simp,.inl ⟨_,_,rfl,run_takeDeferred hK',?_⟩⟩;have g:=((E.out.1.set (.string ⟨#[]⟩)).other (.int .i64 6) (show w.heap.size+1≠_ by omega)).kept (grownBy_putObj' _ D (.deferred none)) (fun r e=>by cases e;exact⟨_,hK',rfl⟩);have m:=((E.out.2.1.other (.string ⟨#[]⟩) (show w.heap.size≠_ by omega)).set (.int .i64 6)).kept (grownBy_putObj' _ D (.deferred none)) (fun r e=>by cases e;exact⟨_,hK',rfl⟩);exact⟨_,kx _ _ w.heap.size (w.heap.size+1) ⟨#[]⟩ 6 rfl rfl g m,rfl,((E.out.2.2.setCell (p:=⟨w.heap.size,0,none⟩) (Qk _) _).setCell (p:=⟨w.heap.size+1,0,none⟩) (by simp) _).trans (belowK_b (w:=w) (Qk _) _ D _ _ u hK' rfl rfl)⟩
    ·have b1:(str c).toList.isEmpty=false:=by rw[aU];simpa using hc
     obtain rfl:(c,0)=G:=by rw[←H,if_neg hc]
     clear H hc I f c0 c1 c2 L N
     gi_wp2
     have hK':=((KeepsOthers.setCell W ⟨w.heap.size,0,none⟩ (.string (str c))).trans (KeepsOthers.setCell _ ⟨w.heap.size+1,0,none⟩ (.int .i64 0))).same D _ q.out rfl;refine⟨by simp,.inl ⟨_,_,rfl,run_takeDeferred hK',?_⟩⟩;have g:=((E.out.1.set (.string (str c))).other (.int .i64 0) (show w.heap.size+1≠_ by omega)).kept (grownBy_putObj' _ D (.deferred none)) (fun r e=>by cases e;exact⟨_,hK',rfl⟩);have m:=((E.out.2.1.other (.string (str c)) (show w.heap.size≠_ by omega)).set (.int .i64 0)).kept (grownBy_putObj' _ D (.deferred none)) (fun r e=>by cases e;exact⟨_,hK',rfl⟩);exact⟨_,kx _ _ w.heap.size (w.heap.size+1) (str c) 0 rfl rfl g m,rfl,((E.out.2.2.setCell (p:=⟨w.heap.size,0,none⟩) (Qk _) _).setCell (p:=⟨w.heap.size+1,0,none⟩) (by simp) _).trans (belowK_b (w:=w) (Qk _) _ D _ _ u hK' rfl rfl)⟩
   case stop=>
    rintro D c pre W hD Rl ⟨⟨rfl,hn,c1,c2⟩,L⟩ N;have H:=f.out;obtain⟨tl,zX⟩:=Rl;rw[←xY,←zX,List.map_append,Km _ _ hn]at H;obtain rfl:([],6)=G:=H;have u:w.heap.size≤D:=by have:=M.out;omega
    have E:=Qh (And.intro c1 (And.intro c2 L));have q:=Qh N;clear zX hn f c1 c2 L N
    gi_wp2
    have hK':=q.out;refine⟨by simp,.inl ⟨_,_,rfl,run_takeDeferred hK',?_⟩⟩;have g:=E.out.1.kept (grownBy_putObj' _ D (.deferred none)) (fun r e=>by cases e;exact⟨_,hK',rfl⟩);have m:=E.out.2.1.kept (grownBy_putObj' _ D (.deferred none)) (fun r e=>by cases e;exact⟨_,hK',rfl⟩);exact⟨_,kx _ _ w.heap.size (w.heap.size+1) ⟨#[]⟩ 6 rfl rfl g m,rfl,E.out.2.2.trans (belowK_b (w:=w) (Qk _) _ D _ _ u hK' rfl rfl)⟩
end Path
namespace Mem
open Go.ChangeShapes Go.WideShapes Go.ChangeAt Go.RowKit Base bM cr Bk Hp Head ql Path Go.Lib
theorem ju (k:UInt8) (n:Nat) (hn:n<256):((k.toNat:Int)=(n:Int))↔k=UInt8.ofNat n:=by
 constructor
 ·intro h
  apply UInt8.toNat.inj;rw[UInt8.toNat_ofNat'];omega
 ·rintro rfl
  rw[UInt8.toNat_ofNat'];omega
theorem iT (k:UInt8) (w:World):
 Calls Tryz.prog 79 #[.int .u8 (k.toNat:Int)] w fun e w'=>e=.returned (.bool (fO k))∧w=w':=by
 have I:=k.toNat_lt;have B:(k.toNat:Int)=48↔k=48:=ju k 48 (by decide);have D:(k.toNat:Int)=49↔k=49:=ju k 49 (by decide);have E:(k.toNat:Int)=50↔k=50:=ju k 50 (by decide);have G:(k.toNat:Int)=53↔k=53:=ju k 53 (by decide);obtain⟨r,A⟩:∃r,fO k=r:=⟨_,rfl⟩
 rw[A];unfold fO at A;obtain⟨x,H⟩:∃x:Int,x=(k.toNat:Int):=⟨_,rfl⟩
 rw[←H]at B D E G⊢
 by_cases J:x=48
 ·obtain rfl:r=true:=by rw[←A];simp[B.1 J]
  clear B D E G A H I;subst J
  go_enter Tryz.func79,Tryz.ntmps79
  go_wp2;go_ret;exact⟨rfl,rfl⟩
 ·by_cases h1:x=49
  ·obtain rfl:r=true:=by rw[←A];simp[D.1 h1]
   clear B D E G A H I;subst h1
   go_enter Tryz.func79,Tryz.ntmps79
   go_wp2;go_ret;exact⟨rfl,rfl⟩
  ·by_cases L:x=50
   ·obtain rfl:r=true:=by rw[←A];simp[E.1 L]
    clear B D E G A H I;subst L
    go_enter Tryz.func79,Tryz.ntmps79
    go_wp2;go_ret;exact⟨rfl,rfl⟩
   ·by_cases M:x=53
    ·obtain rfl:r=true:=by rw[←A];simp[G.1 M]
     clear B D E G A H I;subst M
     go_enter Tryz.func79,Tryz.ntmps79
     go_wp2;go_ret;exact⟨rfl,rfl⟩
    ·obtain rfl:r=false:=by
      rw[←A];have a0:¬k=48:=fun h=>J (B.2 h)
      have N:¬k=49:=fun h=>h1 (D.2 h)
      have a2:¬k=50:=fun h=>L (E.2 h)
      have a3:¬k=53:=fun h=>M (G.2 h)
      simp[a0,N,a2,a3]
     clear B D E G A H I
     go_enter Tryz.func79,Tryz.ntmps79
     go_wp2;go_ret;exact⟨rfl,rfl⟩
theorem Mb (k:UInt8) (n:Int) (w:World):
 Calls Tryz.prog 119 #[.int .u8 (k.toNat:Int),.int .i64 n] w fun e w'=>e=.returned (.int .i64 (pk k n))∧w=w':=by
 have G:=k.toNat_lt;have B:(k.toNat:Int)=48↔k=48:=ju k 48 (by decide);obtain⟨r,A⟩:∃r,pk k n=r:=⟨_,rfl⟩
 rw[A];unfold pk at A;obtain⟨x,E⟩:∃x:Int,x=(k.toNat:Int):=⟨_,rfl⟩
 rw[←E]at B⊢
 by_cases D:x=48
 ·have hk:k=48:=B.1 D
  rw[if_neg (by simp[hk])]at A
  by_cases h1:1048576<n
  ·rw[if_pos h1]at A
   subst A;clear B E G;subst D
   go_enter Tryz.func119,Tryz.ntmps119
   go_wp2;go_ret;exact⟨rfl,rfl⟩
  ·rw[if_neg h1]at A
   subst A;clear B E G;subst D
   go_enter Tryz.func119,Tryz.ntmps119
   go_wp2;go_ret;exact⟨rfl,rfl⟩
 ·have hk:¬k=48:=fun h=>D (B.2 h)
  by_cases H:n=0
  ·subst H
   rw[if_neg (by simp),if_neg (by omega)]at A;subst A;clear B E G
   go_enter Tryz.func119,Tryz.ntmps119
   go_wp2;go_ret;exact⟨rfl,rfl⟩
  ·rw[if_pos ⟨hk,H⟩]at A
   subst A;clear B E G;have I:(x != 48)=true:=by simpa using D
   have J:(n != 0)=true:=by simpa using H
   go_enter Tryz.func119,Tryz.ntmps119
   go_wp2;go_ret;exact⟨rfl,rfl⟩
theorem yf (a b c d:Int) (w:World):
 Calls Tryz.prog 117 #[.agg #[.int .i64 a,.int .i64 b,.int .i64 c,.int .i64 d]] w fun e w'=>e=.returned (.bool (ey a b c d))∧Below w.heap.size w w':=by
 obtain⟨r,A⟩:∃r,ey a b c d=r:=⟨_,rfl⟩
 rw[A];unfold ey at A;have D:=(Below.refl w.heap.size w).alloc (Qk _) (.cells #[.int .i64 a,.int .i64 b,.int .i64 c,.int .i64 d] 46);have B:=Qh D;clear D
 by_cases h1:0≤a∧a≤4095
 ·by_cases E:0≤b∧b≤2147483647
  ·by_cases G:0≤c∧c≤2147483647
   ·by_cases H:0≤d∧d≤1099511627776
    ·obtain rfl:r=true:=by rw[←A];simp only[decide_eq_true_eq];omega
     clear A
     go_enter Tryz.func117,Tryz.ntmps117
     go_wp2_with (go_at_call 152;refine(dW _ _ _ _ (by omega) (by omega)).mono ?_;rintro e w' ⟨rfl,rfl⟩)
     go_ret;exact⟨rfl,B.out⟩
    ·obtain rfl:r=false:=by rw[←A];simp only[decide_eq_false_iff_not];omega
     clear A
     go_enter Tryz.func117,Tryz.ntmps117
     go_wp2_with (go_at_call 152;first|(refine(dW _ _ _ _ (by omega) (by omega)).mono ?_;rintro e w' ⟨rfl,rfl⟩)|(refine(je _ _ _ _ (by omega)).mono ?_;rintro e w' ⟨rfl,rfl⟩))
     go_ret;exact⟨rfl,B.out⟩
   ·obtain rfl:r=false:=by rw[←A];simp only[decide_eq_false_iff_not];omega
    clear A
    go_enter Tryz.func117,Tryz.ntmps117
    go_wp2_with (go_at_call 152;first|(refine(dW _ _ _ _ (by omega) (by omega)).mono ?_;rintro e w' ⟨rfl,rfl⟩)|(refine(je _ _ _ _ (by omega)).mono ?_;rintro e w' ⟨rfl,rfl⟩))
    go_ret;exact⟨rfl,B.out⟩
  ·obtain rfl:r=false:=by rw[←A];simp only[decide_eq_false_iff_not];omega
   clear A
   go_enter Tryz.func117,Tryz.ntmps117
   go_wp2_with (go_at_call 152;first|(refine(dW _ _ _ _ (by omega) (by omega)).mono ?_;rintro e w' ⟨rfl,rfl⟩)|(refine(je _ _ _ _ (by omega)).mono ?_;rintro e w' ⟨rfl,rfl⟩))
   go_ret;exact⟨rfl,B.out⟩
 ·obtain rfl:r=false:=by rw[←A];simp only[decide_eq_false_iff_not];omega
  clear A
  go_enter Tryz.func117,Tryz.ntmps117
  go_wp2_with (go_at_call 152;first|(refine(dW _ _ _ _ (by omega) (by omega)).mono ?_;rintro e w' ⟨rfl,rfl⟩)|(refine(je _ _ _ _ (by omega)).mono ?_;rintro e w' ⟨rfl,rfl⟩))
  go_ret;exact⟨rfl,B.out⟩
theorem Ko (k:UInt8) (l:List UInt8) (w:World) (hm:l.length≤140737488351232) (hT:Tabs w):
 Calls Tryz.prog 118 #[.int .u8 (k.toNat:Int),.string (str l)] w fun e w'=>e=.returned (.tuple #[.string (str (oG k l).1),.int .i64 (oG k l).2])∧Below w.heap.size w w':=by
 have H:=vL l w hm hT;have I:=ux l w hm hT;have A:(k.toNat:Int)=49↔k=49:=ju k 49 (by decide);have B:(k.toNat:Int)=50↔k=50:=ju k 50 (by decide);unfold oG;obtain⟨x,D⟩:∃x:Int,x=(k.toNat:Int):=⟨_,rfl⟩
 rw[←D]at A B⊢
 by_cases h1:x=49
 ·rw[if_pos (A.1 h1)]
  clear A B D;subst h1
  go_enter Tryz.func118,Tryz.ntmps118
  go_wp2_with (go_at_call 116;refine H.mono ?_;rintro e J ⟨rfl,G⟩)
  go_ret2;exact⟨rfl,G⟩
 ·rw[if_neg (fun h=>h1 (A.2 h))]
  by_cases E:x=50
  ·rw[if_pos (B.1 E)]
   clear A B D;subst E
   go_enter Tryz.func118,Tryz.ntmps118
   go_wp2_with (go_at_call 153;refine I.mono ?_;rintro e J ⟨rfl,G⟩)
   go_ret2;exact⟨rfl,G⟩
  ·rw[if_neg (fun h=>E (B.2 h))]
   clear A B D
   go_enter Tryz.func118,Tryz.ntmps118
   go_wp2;go_ret2;exact⟨rfl,Below.refl _ _⟩
theorem Lm (w:World) (g:Nat) (a b:ByteArray) (k m u i t:Int) (p:Option Addr) (n c:Nat) (h:ao w g 48 #[.string a,.string b,.int .u8 k,.int .i64 m,.int .i64 u,.int .i64 i,.int .i64 t,.slice p n c]):
 (loadVar 48 ⟨g,0,none⟩).run Tryz.prog w=.ok (.agg #[.string a,.string b,.int .u8 k,.int .i64 m,.int .i64 u,.int .i64 i,.int .i64 t,.slice p n c]) w:=by
 have c0:=h.cell 0;have c1:=h.cell 1;have c2:=h.cell 2;have c3:=h.cell 3;have c4:=h.cell 4;have c5:=h.cell 5;have c6:=h.cell 6;have c7:=h.cell 7;clear h
 go_simp
theorem mr {fn:Func} (hf:fn.results=#[.cell 2 48,.tmp 3]) (tmps:Array Value) (w:World) (g:Nat) (v:Value) (ht:tmps.getD 2 undef=.pointer (some ⟨g,0,none⟩)) (hv:tmps.getD 3 undef=v)
 (m:aq) (p:Option Addr) (c:Nat) (hb:ao w g 48 (cP m p c)):(results fn tmps).run Tryz.prog w=.ok (.tuple #[.agg (cP m p c),v]) w:=by
 rw[results_cell_tmp hf,ht,hv];have hl:=Lm w g _ _ _ _ _ _ _ _ _ _ hb;simp only[asAddr,Sem.run_pure,hl,Result.andThen];rfl
theorem J3 {m:aq} {c:Nat} (hb:ao w g 48 (cP m p c)) (a0 a1 a2 a3 a4 a5 a6 a7:Value):
 ao ((((((((w.setCell ⟨g,0,none⟩ a0).setCell ⟨g,1,none⟩ a1).setCell ⟨g,2,none⟩ a2).setCell ⟨g,3,none⟩ a3).setCell ⟨g,4,none⟩ a4).setCell ⟨g,5,none⟩ a5).setCell ⟨g,6,none⟩ a6).setCell ⟨g,7,none⟩ a7) g 48 #[a0,a1,a2,a3,a4,a5,a6,a7]:=
 (((((((hb.set 0 a0 (by show 0<8;decide)).set 1 a1 (by show 1<8;decide)).set 2 a2 (by show 2<8;decide)).set 3 a3 (by show 3<8;decide)).set 4 a4 (by show 4<8;decide)).set 5 a5 (by show 5<8;decide)).set 6 a6 (by show 6<8;decide)).set 7 a7 (by show 7<8;decide)
theorem sx (hk:Below w.heap.size w w') (hg:w.heap.size≤g) (a0 a1 a2 a3 a4 a5 a6 a7:Value):
 Below w.heap.size w ((((((((w'.setCell ⟨g,0,none⟩ a0).setCell ⟨g,1,none⟩ a1).setCell ⟨g,2,none⟩ a2).setCell ⟨g,3,none⟩ a3).setCell ⟨g,4,none⟩ a4).setCell ⟨g,5,none⟩ a5).setCell ⟨g,6,none⟩ a6).setCell ⟨g,7,none⟩ a7):=
 ((((((((hk.setCell (p:=⟨g,0,none⟩) hg a0).setCell (p:=⟨g,1,none⟩) hg a1).setCell (p:=⟨g,2,none⟩) hg a2).setCell (p:=⟨g,3,none⟩) hg a3).setCell (p:=⟨g,4,none⟩) hg a4).setCell (p:=⟨g,5,none⟩) hg a5).setCell (p:=⟨g,6,none⟩) hg a6).setCell (p:=⟨g,7,none⟩) hg a7)
def M1 (w wi:World) (h:ak):Prop:=Below w.heap.size w wi∧ao wi w.heap.size 66 (aa h)∧ao wi (w.heap.size+1) 48 (cP rA none 0)
theorem M1.below {wi wj:World} {h:ak} (hm:M1 w wi h) (hb:Below wi.heap.size wi wj):M1 w wj h:=
 ⟨hm.1.trans (hb.mono hm.1.size),hm.2.1.below hb hm.2.1.lt,hm.2.2.below hb hm.2.2.lt⟩
theorem iF (h:ak) (w:World) (h1:h.name.length≤140737488351232) (h2:h.link.length≤140737488351232) (hT:Tabs w):
 Calls Tryz.prog 80 #[.agg (aa h)] w fun e w'=>e=.returned (.tuple #[.agg (cP (dF h).1 none 0),.int .i64 (dF h).2])∧Below w.heap.size w w':=by
 obtain⟨⟨u,ce⟩,hc⟩:∃x,bz 9 6 h.name=x:=⟨_,rfl⟩
 obtain⟨⟨y,ge⟩,hg⟩:∃x,oG h.kind h.link=x:=⟨_,rfl⟩
 obtain⟨mo,Yt⟩:∃x,ey h.mode h.uid h.gid h.time=x:=⟨_,rfl⟩
 obtain⟨o,g⟩:∃x,pk h.kind h.size=x:=⟨_,rfl⟩
 have l:Hid (∀wi,Below w.heap.size w wi→Calls Tryz.prog 116 #[.string (str h.name)] wi fun e w'=>e=.returned (.tuple #[.string (str u),.int .i64 ce])∧Below wi.heap.size wi w'):=
  Qh (fun wi D=>by have:=vL h.name wi h1 (hT.below D);rwa [hc]at this)
 have r:Hid (∀wi,Calls Tryz.prog 117 #[.agg #[.int .i64 h.mode,.int .i64 h.uid,.int .i64 h.gid,.int .i64 h.time]] wi fun e w'=>e=.returned (.bool mo)∧Below wi.heap.size wi w'):=
  Qh (fun wi=>by have:=yf h.mode h.uid h.gid h.time wi;rwa [Yt]at this)
 have q:Hid (∀wi,Below w.heap.size w wi→Calls Tryz.prog 118 #[.int .u8 (h.kind.toNat:Int),.string (str h.link)] wi fun e w'=>e=.returned (.tuple #[.string (str y),.int .i64 ge])∧Below wi.heap.size wi w'):=
  Qh (fun wi D=>by have:=Ko h.kind h.link wi h2 (hT.below D);rwa [hg]at this)
 have CS:Hid (∀wi,Calls Tryz.prog 119 #[.int .u8 (h.kind.toNat:Int),.int .i64 h.size] wi fun e w'=>e=.returned (.int .i64 o)∧wi=w'):=
  Qh (fun wi=>by have:=Mb h.kind h.size wi;rwa [g]at this)
 obtain⟨U,hU⟩:∃U,dF h=U:=⟨_,rfl⟩
 rw[hU]
 have m:Hid (U=if ce≠0 then(rA,ce)else if mo=false then(rA,4)else if ge≠0 then(rA,ge)else if o≠0 then(rA,o)else(⟨u,y,h.kind,h.mode,h.uid,h.gid,h.time,[]⟩,0)):=
  Qh (by rw[←hU];unfold dF;rw[hc,hg,Yt,g])
 clear h1 h2 hT hU hc hg Yt g
 have I:Hid (M1 w ((w.alloc (.cells (aa h) 66)).alloc (.cells (cP rA none 0) 48)) h):=by
  have B:=ao.new (w.alloc (.cells (aa h) 66)) 48 (cP rA none 0);rw[World.size_alloc]at B;exact Qh ⟨((Below.refl _ w).alloc (Qk _) _).alloc (by simp) _,(ao.new w 66 (aa h)).alloc _,B⟩
 obtain⟨kn,t⟩:∃kn:Int,(h.kind.toNat:Int)=kn:=⟨_,rfl⟩
 have f:=Qh t;simp only[aa,t]at I⊢;rw[t]at q CS;clear t
 by_cases a1:ce=0
 ·subst a1
  cases mo with
  |false=>
   have E:Hid (U=(rA,4)):=Qh (by rw[m.out];simp)
   go_enter Tryz.func80,Tryz.ntmps80
   go_wp2_with fail
   refine(l.out _ I.out.1).mono ?_;rintro e z ⟨rfl,D⟩;have G:=Qh (I.out.below D);clear D I;have B:=G.out.2.1;have M:=B.cell 3;have N:=B.cell 4;have O:=B.cell 5;have R:=B.cell 6;simp only[aa,Qc,Qa,Qb]at M N O R;clear B;go_wp2_with fail;refine(r.out _).mono ?_;rintro e w2 ⟨rfl,D⟩;have H:=Qh (G.out.below D);clear D G M N O R;have A:=H.out.2.2;have T:=A.cell 0;have f0:=A.frozen 0;have V:=A.cell 1;have f1:=A.frozen 1;have W:=A.cell 2;have f2:=A.frozen 2;have X:=A.cell 3;have f3:=A.frozen 3;have Y:=A.cell 4;have f4:=A.frozen 4;have Z:=A.cell 5;have f5:=A.frozen 5;have b:=A.cell 6;have f6:=A.frozen 6;have c:=A.cell 7;have f7:=A.frozen 7;simp only[cP,rA,Qc,Qa,Qb]at T V W X Y Z b c;clear A;go_wp2;refine bodyPost_ret (mr rfl _ _ (w.heap.size+1) _ rfl rfl rA none 0 (J3 H.out.2.2 _ _ _ _ _ _ _ _)) rfl ?_;exact⟨by rw[E.out];rfl,sx H.out.1 (by omega) _ _ _ _ _ _ _ _⟩
  |true=>
   by_cases a2:ge=0
   ·subst a2
    by_cases a3:o=0
    ·subst a3
     have E:Hid (U=(⟨u,y,h.kind,h.mode,h.uid,h.gid,h.time,[]⟩,0)):=Qh (by rw[m.out];simp)
     go_enter Tryz.func80,Tryz.ntmps80
     go_wp2_with fail
     refine(l.out _ I.out.1).mono ?_;rintro e z ⟨rfl,D⟩;have G:=Qh (I.out.below D);clear D I;have B:=G.out.2.1;have M:=B.cell 3;have N:=B.cell 4;have O:=B.cell 5;have R:=B.cell 6;simp only[aa,Qc,Qa,Qb]at M N O R;clear B;go_wp2_with fail;refine(r.out _).mono ?_;rintro e w2 ⟨rfl,D⟩;have H:=Qh (G.out.below D);clear D G M N O R;have B:=H.out.2.1;have d:=B.cell 1;have J:=B.cell 2;simp only[aa,Qc,Qa,Qb,f.out]at d J;clear B;go_wp2_with fail;refine(q.out _ H.out.1).mono ?_;rintro e w3 ⟨rfl,D⟩;have L:=Qh (H.out.below D);clear D H d J;have B:=L.out.2.1;have J:=B.cell 2;have p:=B.cell 7;simp only[aa,Qc,Qa,Qb,f.out]at J p;clear B;go_wp2_with fail;refine(CS.out _).mono ?_;rintro e w4 ⟨rfl,rfl⟩;clear J p;have B:=L.out.2.1;have J:=B.cell 2;have M:=B.cell 3;have N:=B.cell 4;have O:=B.cell 5;have R:=B.cell 6;simp only[aa,Qc,Qa,Qb,f.out]at J M N O R;clear B;have Bu:=f.out;subst Bu;have A:=L.out.2.2;have T:=A.cell 0;have f0:=A.frozen 0;have V:=A.cell 1;have f1:=A.frozen 1;have W:=A.cell 2;have f2:=A.frozen 2;have X:=A.cell 3;have f3:=A.frozen 3;have Y:=A.cell 4;have f4:=A.frozen 4;have Z:=A.cell 5;have f5:=A.frozen 5;have b:=A.cell 6;have f6:=A.frozen 6;have c:=A.cell 7;have f7:=A.frozen 7;simp only[cP,rA,Qc,Qa,Qb]at T V W X Y Z b c;clear A;go_wp2;refine bodyPost_ret (mr rfl _ _ (w.heap.size+1) _ rfl rfl ⟨u,y,h.kind,h.mode,h.uid,h.gid,h.time,[]⟩ none 0 (J3 L.out.2.2 _ _ _ _ _ _ _ _)) rfl ?_;exact⟨by rw[E.out];rfl,sx L.out.1 (by omega) _ _ _ _ _ _ _ _⟩
    ·have E:Hid (U=(rA,o)):=Qh (by rw[m.out];simp[a3])
     go_enter Tryz.func80,Tryz.ntmps80
     go_wp2_with fail
     refine(l.out _ I.out.1).mono ?_;rintro e z ⟨rfl,D⟩;have G:=Qh (I.out.below D);clear D I;have B:=G.out.2.1;have M:=B.cell 3;have N:=B.cell 4;have O:=B.cell 5;have R:=B.cell 6;simp only[aa,Qc,Qa,Qb]at M N O R;clear B;go_wp2_with fail;refine(r.out _).mono ?_;rintro e w2 ⟨rfl,D⟩;have H:=Qh (G.out.below D);clear D G M N O R;have B:=H.out.2.1;have d:=B.cell 1;have J:=B.cell 2;simp only[aa,Qc,Qa,Qb,f.out]at d J;clear B;go_wp2_with fail;refine(q.out _ H.out.1).mono ?_;rintro e w3 ⟨rfl,D⟩;have L:=Qh (H.out.below D);clear D H d J;have B:=L.out.2.1;have J:=B.cell 2;have p:=B.cell 7;simp only[aa,Qc,Qa,Qb,f.out]at J p;clear B;go_wp2_with fail;refine(CS.out _).mono ?_;rintro e w4 ⟨rfl,rfl⟩;clear J p;have A:=L.out.2.2;have T:=A.cell 0;have f0:=A.frozen 0;have V:=A.cell 1;have f1:=A.frozen 1;have W:=A.cell 2;have f2:=A.frozen 2;have X:=A.cell 3;have f3:=A.frozen 3;have Y:=A.cell 4;have f4:=A.frozen 4;have Z:=A.cell 5;have f5:=A.frozen 5;have b:=A.cell 6;have f6:=A.frozen 6;have c:=A.cell 7;have f7:=A.frozen 7;simp only[cP,rA,Qc,Qa,Qb]at T V W X Y Z b c;clear A;go_wp2;refine bodyPost_ret (mr rfl _ _ (w.heap.size+1) _ rfl rfl rA none 0 (J3 L.out.2.2 _ _ _ _ _ _ _ _)) rfl ?_;exact⟨by rw[E.out];rfl,sx L.out.1 (by omega) _ _ _ _ _ _ _ _⟩
   ·have E:Hid (U=(rA,ge)):=Qh (by rw[m.out];simp[a2])
    go_enter Tryz.func80,Tryz.ntmps80
    go_wp2_with fail
    refine(l.out _ I.out.1).mono ?_;rintro e z ⟨rfl,D⟩;have G:=Qh (I.out.below D);clear D I;have B:=G.out.2.1;have M:=B.cell 3;have N:=B.cell 4;have O:=B.cell 5;have R:=B.cell 6;simp only[aa,Qc,Qa,Qb]at M N O R;clear B;go_wp2_with fail;refine(r.out _).mono ?_;rintro e w2 ⟨rfl,D⟩;have H:=Qh (G.out.below D);clear D G M N O R;have B:=H.out.2.1;have d:=B.cell 1;have J:=B.cell 2;simp only[aa,Qc,Qa,Qb,f.out]at d J;clear B;go_wp2_with fail;refine(q.out _ H.out.1).mono ?_;rintro e w3 ⟨rfl,D⟩;have L:=Qh (H.out.below D);clear D H d J;have A:=L.out.2.2;have T:=A.cell 0;have f0:=A.frozen 0;have V:=A.cell 1;have f1:=A.frozen 1;have W:=A.cell 2;have f2:=A.frozen 2;have X:=A.cell 3;have f3:=A.frozen 3;have Y:=A.cell 4;have f4:=A.frozen 4;have Z:=A.cell 5;have f5:=A.frozen 5;have b:=A.cell 6;have f6:=A.frozen 6;have c:=A.cell 7;have f7:=A.frozen 7;simp only[cP,rA,Qc,Qa,Qb]at T V W X Y Z b c;clear A;go_wp2;refine bodyPost_ret (mr rfl _ _ (w.heap.size+1) _ rfl rfl rA none 0 (J3 L.out.2.2 _ _ _ _ _ _ _ _)) rfl ?_;exact⟨by rw[E.out];rfl,sx L.out.1 (by omega) _ _ _ _ _ _ _ _⟩
 ·have E:Hid (U=(rA,ce)):=Qh (by rw[m.out];simp[a1])
  go_enter Tryz.func80,Tryz.ntmps80
  go_wp2_with fail
  refine(l.out _ I.out.1).mono ?_;rintro e z ⟨rfl,D⟩;have G:=Qh (I.out.below D);clear D I;have A:=G.out.2.2;have T:=A.cell 0;have f0:=A.frozen 0;have V:=A.cell 1;have f1:=A.frozen 1;have W:=A.cell 2;have f2:=A.frozen 2;have X:=A.cell 3;have f3:=A.frozen 3;have Y:=A.cell 4;have f4:=A.frozen 4;have Z:=A.cell 5;have f5:=A.frozen 5;have b:=A.cell 6;have f6:=A.frozen 6;have c:=A.cell 7;have f7:=A.frozen 7;simp only[cP,rA,Qc,Qa,Qb]at T V W X Y Z b c;clear A;go_wp2;refine bodyPost_ret (mr rfl _ _ (w.heap.size+1) _ rfl rfl rA none 0 (J3 G.out.2.2 _ _ _ _ _ _ _ _)) rfl ?_;exact⟨by rw[E.out];rfl,sx G.out.1 (by omega) _ _ _ _ _ _ _ _⟩
theorem kM (h:ak):(dF h).1.body=[]:=by
 unfold dF;split
 ·rfl
 ·split
  ·rfl
  ·split
   ·rfl
   ·split<;>rfl
theorem IG (a b c d:Int) (w:World):
 Calls Tryz.prog 38 #[.agg #[.int .i64 a,.int .i64 b,.int .i64 c,.int .i64 d]] w fun e w'=>e=.returned (.bool (ey a b c d))∧Below w.heap.size w w':=by
 obtain⟨r,A⟩:∃r,ey a b c d=r:=⟨_,rfl⟩
 rw[A];unfold ey at A;have B:=Qh ((Below.refl w.heap.size w).alloc (Qk _) (.cells #[.int .i64 a,.int .i64 b,.int .i64 c,.int .i64 d] 46))
 by_cases D:0≤a
 ·by_cases h1:a≤4095
  ·by_cases E:0≤b
   ·by_cases G:b<2147483648
    ·by_cases H:0≤c
     ·by_cases I:c<2147483648
      ·by_cases J:0≤d
       ·by_cases L:d≤1099511627776
        ·obtain rfl:r=true:=by rw[←A];simp only[decide_eq_true_eq];omega
         clear A
         go_enter Tryz.func38,Tryz.ntmps38
         go_wp2;go_ret;exact⟨rfl,B.out⟩
        ·obtain rfl:r=false:=by rw[←A];simp only[decide_eq_false_iff_not];omega
         have hd:decide (d≤1099511627776)=false:=by simpa using L
         clear A
         go_enter Tryz.func38,Tryz.ntmps38
         go_wp2;go_ret;exact⟨rfl,B.out⟩
       ·obtain rfl:r=false:=by rw[←A];simp only[decide_eq_false_iff_not];omega
        have hd:decide (0≤d)=false:=by simpa using J
        clear A
        go_enter Tryz.func38,Tryz.ntmps38
        go_wp2;go_ret;exact⟨rfl,B.out⟩
      ·obtain rfl:r=false:=by rw[←A];simp only[decide_eq_false_iff_not];omega
       have hd:decide (c<2147483648)=false:=by simpa using I
       clear A
       go_enter Tryz.func38,Tryz.ntmps38
       go_wp2;go_ret;exact⟨rfl,B.out⟩
     ·obtain rfl:r=false:=by rw[←A];simp only[decide_eq_false_iff_not];omega
      have hd:decide (0≤c)=false:=by simpa using H
      clear A
      go_enter Tryz.func38,Tryz.ntmps38
      go_wp2;go_ret;exact⟨rfl,B.out⟩
    ·obtain rfl:r=false:=by rw[←A];simp only[decide_eq_false_iff_not];omega
     have hd:decide (b<2147483648)=false:=by simpa using G
     clear A
     go_enter Tryz.func38,Tryz.ntmps38
     go_wp2;go_ret;exact⟨rfl,B.out⟩
   ·obtain rfl:r=false:=by rw[←A];simp only[decide_eq_false_iff_not];omega
    have hd:decide (0≤b)=false:=by simpa using E
    clear A
    go_enter Tryz.func38,Tryz.ntmps38
    go_wp2;go_ret;exact⟨rfl,B.out⟩
  ·obtain rfl:r=false:=by rw[←A];simp only[decide_eq_false_iff_not];omega
   have hd:decide (a≤4095)=false:=by simpa using h1
   clear A
   go_enter Tryz.func38,Tryz.ntmps38
   go_wp2;go_ret;exact⟨rfl,B.out⟩
 ·obtain rfl:r=false:=by rw[←A];simp only[decide_eq_false_iff_not];omega
  have hd:decide (0≤a)=false:=by simpa using D
  clear A
  go_enter Tryz.func38,Tryz.ntmps38
  go_wp2;go_ret;exact⟨rfl,B.out⟩
theorem A7 (l:List UInt8) (w:World) (hm:l.length≤140737488351232):
 Calls Tryz.prog 39 #[.string (str l)] w fun e w'=>e=.returned (.int .i64 (dc 9 6 l))∧w=w':=by
 have B:=xb (str l) w (by rw[au];omega);rw[bg]at B;have hs:(str l).size=l.length:=au l;obtain⟨r,A⟩:∃r,dc 9 6 l=r:=⟨_,rfl⟩
 rw[A];unfold dc at A
 cases G:aQ l with
 |false=>
  rw[G]at A B;simp only[if_true]at A;subst A
  go_enter Tryz.func39,Tryz.ntmps39
  go_wp2_with fail
  refine B.mono ?_;rintro e E ⟨rfl,rfl⟩;go_wp2;go_ret;exact⟨rfl,rfl⟩
 |true=>
  rw[G]at A B
  by_cases D:l=[]
  ·subst D
   simp at A;subst A
   go_enter Tryz.func39,Tryz.ntmps39
   go_wp2_with fail
   refine B.mono ?_;rintro e E ⟨rfl,rfl⟩;have H:(str []).toList.isEmpty=true:=by rw[aU];rfl
   go_wp2;go_ret;exact⟨rfl,rfl⟩
  ·have H:(str l).toList.isEmpty=false:=by rw[aU];simpa using D
   by_cases h1:200<l.length
   ·have I:(200:Int)<(l.length:Int):=by omega
    simp[D,h1]at A;subst A
    go_enter Tryz.func39,Tryz.ntmps39
    go_wp2_with fail
    refine B.mono ?_;rintro e E ⟨rfl,rfl⟩;go_wp2;go_ret;exact⟨rfl,rfl⟩
   ·have I:¬(200:Int)<(l.length:Int):=by omega
    simp[D,h1]at A;subst A
    go_enter Tryz.func39,Tryz.ntmps39
    go_wp2_with fail
    refine B.mono ?_;rintro e E ⟨rfl,rfl⟩;go_wp2;go_ret;exact⟨rfl,rfl⟩
theorem Fv (l:List UInt8) (w:World) (hm:l.length≤140737488351232):
 Calls Tryz.prog 56 #[.string (str l)] w fun e w'=>e=.returned (.bool (dn l))∧w=w':=by
 have E:=DJ (str l) w (by rw[au];omega);rw[bg]at E;obtain⟨r,A⟩:∃r,dn l=r:=⟨_,rfl⟩
 rw[A];unfold dn at A;obtain⟨⟨G,ce⟩,hc⟩:∃x,bz 9 6 l=x:=⟨_,rfl⟩
 rw[hc]at E A;clear hc;simp only[Prod.mk.injEq]at A
 by_cases D:ce=0
 ·by_cases h1:l=G
  ·have H:((str l).toList==(str G).toList)=true:=by rw[av,av];simpa using h1
   have B:r=true:=by rw[←A];simp[D,h1]
   subst D B;clear A h1
   go_enter Tryz.func56,Tryz.ntmps56
   go_wp2_with fail
   refine E.mono ?_;rintro e I ⟨rfl,rfl⟩;go_wp2;go_ret;exact⟨rfl,rfl⟩
  ·have H:((str l).toList==(str G).toList)=false:=by rw[av,av];simpa using h1
   have B:r=false:=by rw[←A];simp;exact fun h=>absurd h.symm h1
   subst D B;clear A h1
   go_enter Tryz.func56,Tryz.ntmps56
   go_wp2_with fail
   refine E.mono ?_;rintro e I ⟨rfl,rfl⟩;go_wp2;go_ret;exact⟨rfl,rfl⟩
 ·have H:(ce==0)=false:=by simpa using D
  have B:r=false:=by rw[←A];simp[D]
  subst B;clear A
  go_enter Tryz.func56,Tryz.ntmps56
  go_wp2_with fail
  refine E.mono ?_;rintro e I ⟨rfl,rfl⟩;go_wp2;go_ret;exact⟨rfl,rfl⟩
theorem IF (m:aq) (p:Option Addr) (c:Nat) (w:World) (h1:m.path.length≤140737488351232) (h2:m.target.length≤140737488351232):
 Calls Tryz.prog 24 #[.agg (cP m p c)] w fun e w'=>e=.returned (.bool (bD m))∧Below w.heap.size w w':=by
 have hu:=fun k hk=>ju m.kind k hk
 obtain⟨kn,y⟩:∃kn:Int,(m.kind.toNat:Int)=kn:=⟨_,rfl⟩
 unfold cP;rw[y]at hu⊢;have O:=fun w=>Fv m.path w h1
 have o:=fun w=>Fv m.target w h2
 have q:=fun w=>A7 m.target w h2
 have R:=fun w=>IG m.mode m.uid m.gid m.time w
 obtain⟨r,W⟩:∃r,bD m=r:=⟨_,rfl⟩
 rw[W];unfold bD at W;obtain⟨t,cg⟩:∃b,dn m.path=b:=⟨_,rfl⟩
 obtain⟨b2,z⟩:∃b,dn m.target=b:=⟨_,rfl⟩
 obtain⟨Y,fq⟩:∃b,dc 9 6 m.target=b:=⟨_,rfl⟩
 obtain⟨u,fw⟩:∃b,ey m.mode m.uid m.gid m.time=b:=⟨_,rfl⟩
 simp only[cg,z,fq,fw]at W O o q R;clear cg z fq fw h1 h2;have d:m.kind=48↔kn=48:=(hu 48 (by decide)).symm;have dP:m.kind=49↔kn=49:=(hu 49 (by decide)).symm;have dt:m.kind=50↔kn=50:=(hu 50 (by decide)).symm;have dv:m.kind=53↔kn=53:=(hu 53 (by decide)).symm;obtain⟨bl,Z⟩:∃bl,m.body.length=bl:=⟨_,rfl⟩
 have hte:(str m.target).toList.isEmpty=decide (m.target=[]):=aU m.target
 have iv:(t&&u&&decide (bl≤1048576)&&(decide (kn=48)||decide (bl=0))&&(if kn=48∨kn=53 then decide (m.target=[])else if kn=49 then b2 else if kn=50 then(Y==0)else false))=r:=by
  rw[←W];have e1:(m.kind==48)=decide (kn=48):=by rw[Bool.eq_iff_iff];simp[d]
  have e2:(m.body==[])=decide (bl=0):=by rw[Bool.eq_iff_iff,←Z];simp
  have e3:(m.target==[])=decide (m.target=[]):=by rw[Bool.eq_iff_iff];simp
  have e4:(Y==0)=decide (Y=0):=by rw[Bool.eq_iff_iff];simp
  rw[e1,e2,e3,e4,Z];simp only[d,dP,dt,dv]
 rw[Z];clear W d dP dt dv Z hu;have G:=Qh ((Below.refl w.heap.size w).alloc (Qk _) (.cells #[.string (str m.path),.string (str m.target),.int .u8 kn,.int .i64 m.mode,.int .i64 m.uid,.int .i64 m.gid,.int .i64 m.time,.slice p bl c] 48));have D:=Qh (ao.new w 48 #[.string (str m.path),.string (str m.target),.int .u8 kn,.int .i64 m.mode,.int .i64 m.uid,.int .i64 m.gid,.int .i64 m.time,.slice p bl c]);have T:=Qh iv;clear iv y
 cases t with
 |false=>
  have H:r=false:=by rw[←T.out];simp
  subst H
  go_enter Tryz.func24,Tryz.ntmps24
  go_wp2_with fail
  refine(O _).mono ?_;rintro e U ⟨rfl,rfl⟩;go_wp2;go_ret;exact⟨rfl,G.out⟩
 |true=>
  cases u with
  |false=>
   have H:r=false:=by rw[←T.out];simp
   subst H
   go_enter Tryz.func24,Tryz.ntmps24
   go_wp2_with fail
   refine(O _).mono ?_;rintro e U ⟨rfl,rfl⟩;have A:=D.out;have y3:=A.cell 3;have y4:=A.cell 4;have E:=A.cell 5;have y6:=A.cell 6;simp only[Qc,Qa,Qb]at y3 y4 E y6;clear A;go_wp2_with fail;refine(R _).mono ?_;rintro e V ⟨rfl,B⟩;have I:=Qh (G.out.trans (B.mono G.out.size));have J:=Qh (D.out.below B D.out.lt);clear B y3 y4 E y6;have A:=J.out;have L:=A.cell 1;have M:=A.cell 2;have N:=A.cell 7;simp only[Qc,Qa,Qb]at L M N;clear A;go_wp2;go_ret;exact⟨rfl,I.out⟩
  |true=>
   by_cases l1:1048576<bl
   ·have l2:(1048576:Int)<(bl:Int):=by omega
    have H:r=false:=by rw[←T.out];simp;omega
    subst H
    go_enter Tryz.func24,Tryz.ntmps24
    go_wp2_with fail
    refine(O _).mono ?_;rintro e U ⟨rfl,rfl⟩;have A:=D.out;have y3:=A.cell 3;have y4:=A.cell 4;have E:=A.cell 5;have y6:=A.cell 6;simp only[Qc,Qa,Qb]at y3 y4 E y6;clear A;go_wp2_with fail;refine(R _).mono ?_;rintro e V ⟨rfl,B⟩;have I:=Qh (G.out.trans (B.mono G.out.size));have J:=Qh (D.out.below B D.out.lt);clear B y3 y4 E y6;have A:=J.out;have L:=A.cell 1;have M:=A.cell 2;have N:=A.cell 7;simp only[Qc,Qa,Qb]at L M N;clear A;go_wp2;go_ret;exact⟨rfl,I.out⟩
   ·have l2:¬(1048576:Int)<(bl:Int):=by omega
    have l3:bl≤1048576:=by omega
    by_cases X:kn=48
    ·subst X
     have H:r=decide (m.target=[]):=by rw[←T.out];simp[l3]
     subst H
     go_enter Tryz.func24,Tryz.ntmps24
     go_wp2_with fail
     refine(O _).mono ?_;rintro e U ⟨rfl,rfl⟩;have A:=D.out;have y3:=A.cell 3;have y4:=A.cell 4;have E:=A.cell 5;have y6:=A.cell 6;simp only[Qc,Qa,Qb]at y3 y4 E y6;clear A;go_wp2_with fail;refine(R _).mono ?_;rintro e V ⟨rfl,B⟩;have I:=Qh (G.out.trans (B.mono G.out.size));have J:=Qh (D.out.below B D.out.lt);clear B y3 y4 E y6;have A:=J.out;have L:=A.cell 1;have M:=A.cell 2;have N:=A.cell 7;simp only[Qc,Qa,Qb]at L M N;clear A;go_wp2;go_ret;exact⟨rfl,I.out⟩
    ·have e0:(kn != 48)=true:=by simpa using X
     have f0:(kn==48)=false:=by simpa using X
     by_cases l4:bl=0
     ·subst l4
      by_cases l:kn=53
      ·subst l
       have H:r=decide (m.target=[]):=by rw[←T.out];simp
       subst H
       go_enter Tryz.func24,Tryz.ntmps24
       go_wp2_with fail
       refine(O _).mono ?_;rintro e U ⟨rfl,rfl⟩;have A:=D.out;have y3:=A.cell 3;have y4:=A.cell 4;have E:=A.cell 5;have y6:=A.cell 6;simp only[Qc,Qa,Qb]at y3 y4 E y6;clear A;go_wp2_with fail;refine(R _).mono ?_;rintro e V ⟨rfl,B⟩;have I:=Qh (G.out.trans (B.mono G.out.size));have J:=Qh (D.out.below B D.out.lt);clear B y3 y4 E y6;have A:=J.out;have L:=A.cell 1;have M:=A.cell 2;have N:=A.cell 7;simp only[Qc,Qa,Qb]at L M N;clear A;go_wp2;go_ret;exact⟨rfl,I.out⟩
      ·have f3:(kn==53)=false:=by simpa using l
       by_cases f:kn=49
       ·subst f
        have H:r=b2:=by rw[←T.out];simp
        subst H
        go_enter Tryz.func24,Tryz.ntmps24
        go_wp2_with fail
        refine(O _).mono ?_;rintro e U ⟨rfl,rfl⟩;have A:=D.out;have y3:=A.cell 3;have y4:=A.cell 4;have E:=A.cell 5;have y6:=A.cell 6;simp only[Qc,Qa,Qb]at y3 y4 E y6;clear A;go_wp2_with fail;refine(R _).mono ?_;rintro e V ⟨rfl,B⟩;have I:=Qh (G.out.trans (B.mono G.out.size));have J:=Qh (D.out.below B D.out.lt);clear B y3 y4 E y6;have A:=J.out;have L:=A.cell 1;have M:=A.cell 2;have N:=A.cell 7;simp only[Qc,Qa,Qb]at L M N;clear A;go_wp2_with fail;refine(o _).mono ?_;rintro e w3 ⟨rfl,rfl⟩;go_wp2;go_ret;exact⟨rfl,I.out⟩
       ·have f1:(kn==49)=false:=by simpa using f
        by_cases g:kn=50
        ·subst g
         have H:r=(Y==0):=by rw[←T.out];simp
         subst H
         go_enter Tryz.func24,Tryz.ntmps24
         go_wp2_with fail
         refine(O _).mono ?_;rintro e U ⟨rfl,rfl⟩;have A:=D.out;have y3:=A.cell 3;have y4:=A.cell 4;have E:=A.cell 5;have y6:=A.cell 6;simp only[Qc,Qa,Qb]at y3 y4 E y6;clear A;go_wp2_with fail;refine(R _).mono ?_;rintro e V ⟨rfl,B⟩;have I:=Qh (G.out.trans (B.mono G.out.size));have J:=Qh (D.out.below B D.out.lt);clear B y3 y4 E y6;have A:=J.out;have L:=A.cell 1;have M:=A.cell 2;have N:=A.cell 7;simp only[Qc,Qa,Qb]at L M N;clear A;go_wp2_with fail;refine(q _).mono ?_;rintro e w3 ⟨rfl,rfl⟩;go_wp2;go_ret;exact⟨rfl,I.out⟩
        ·have f2:(kn==50)=false:=by simpa using g
         have H:r=false:=by rw[←T.out];simp[X,f,g,l]
         subst H
         go_enter Tryz.func24,Tryz.ntmps24
         go_wp2_with fail
         refine(O _).mono ?_;rintro e U ⟨rfl,rfl⟩;have A:=D.out;have y3:=A.cell 3;have y4:=A.cell 4;have E:=A.cell 5;have y6:=A.cell 6;simp only[Qc,Qa,Qb]at y3 y4 E y6;clear A;go_wp2_with fail;refine(R _).mono ?_;rintro e V ⟨rfl,B⟩;have I:=Qh (G.out.trans (B.mono G.out.size));have J:=Qh (D.out.below B D.out.lt);clear B y3 y4 E y6;have A:=J.out;have L:=A.cell 1;have M:=A.cell 2;have N:=A.cell 7;simp only[Qc,Qa,Qb]at L M N;clear A;go_wp2;go_ret;exact⟨rfl,I.out⟩
     ·have l5:(0:Int)<(bl:Int):=by omega
      have H:r=false:=by rw[←T.out];simp[X,l4]
      subst H
      go_enter Tryz.func24,Tryz.ntmps24
      go_wp2_with fail
      refine(O _).mono ?_;rintro e U ⟨rfl,rfl⟩;have A:=D.out;have y3:=A.cell 3;have y4:=A.cell 4;have E:=A.cell 5;have y6:=A.cell 6;simp only[Qc,Qa,Qb]at y3 y4 E y6;clear A;go_wp2_with fail;refine(R _).mono ?_;rintro e V ⟨rfl,B⟩;have I:=Qh (G.out.trans (B.mono G.out.size));have J:=Qh (D.out.below B D.out.lt);clear B y3 y4 E y6;have A:=J.out;have L:=A.cell 1;have M:=A.cell 2;have N:=A.cell 7;simp only[Qc,Qa,Qb]at L M N;clear A;go_wp2;go_ret;exact⟨rfl,I.out⟩
theorem lX (m:aq) (p:Option Addr) (c:Nat) (w:World) (h1:m.path.length≤140737488351232) (h2:m.target.length≤140737488351232) (hT:Tabs w):
 Calls Tryz.prog 52 #[.agg (cP m p c)] w fun e w'=>e=.returned (.bool (bD m))∧Below w.heap.size w w':=by
 rw[Kp];obtain⟨⟨A,H⟩,I⟩:∃x,dF (kO m)=x:=⟨_,rfl⟩
 have V:A.body=[]:=by have:=kM (kO m);rw[I]at this;exact this
 have U:∀wi,Below w.heap.size w wi→Calls Tryz.prog 80 #[.agg #[.string (str m.path),.string (str m.target),.int .u8 (m.kind.toNat:Int),.int .i64 m.mode,.int .i64 m.uid,.int .i64 m.gid,.int .i64 m.time,.int .i64 (m.body.length:Int),.bool false]] wi fun e w'=>e=.returned (.tuple #[.agg #[.string (str A.path),.string (str A.target),.int .u8 (A.kind.toNat:Int),.int .i64 A.mode,.int .i64 A.uid,.int .i64 A.gid,.int .i64 A.time,.slice none 0 0],.int .i64 H])∧Below wi.heap.size wi w':=fun wi B=>by
  have:=iF (kO m) wi h1 h2 (hT.below B);rw[I]at this;unfold cP at this;simp only[V,List.length_nil]at this;exact this
 have M:=Qh U;have E:=iT m.kind;unfold cP;obtain⟨kn,G⟩:∃kn:Int,(m.kind.toNat:Int)=kn:=⟨_,rfl⟩
 obtain⟨bl,R⟩:∃bl,m.body.length=bl:=⟨_,rfl⟩
 rw[G,R]at M;rw[G]at E;rw[G,R]
 have b:((str A.path).toList==(str m.path).toList)=decide (A.path=m.path):=by
  rw[av,av]
  by_cases h:A.path=m.path<;>simp[h]
 have d:((str A.target).toList==(str m.target).toList)=decide (A.target=m.target):=by
  rw[av,av]
  by_cases h:A.target=m.target<;>simp[h]
 rw[I];simp only;obtain⟨x0,T⟩:∃x,fO m.kind=x:=⟨_,rfl⟩
 obtain⟨g,J⟩:∃x,decide (A.path=m.path)=x:=⟨_,rfl⟩
 obtain⟨r,L⟩:∃x,decide (A.target=m.target)=x:=⟨_,rfl⟩
 rw[T]at E;rw[T,J,L];rw[J]at b;rw[L]at d;have D:=Qh ((Below.refl w.heap.size w).alloc (Qk _) (.cells #[.string (str m.path),.string (str m.target),.int .u8 kn,.int .i64 m.mode,.int .i64 m.uid,.int .i64 m.gid,.int .i64 m.time,.slice p bl c] 48));have W:=Qh (ao.new w 48 #[.string (str m.path),.string (str m.target),.int .u8 kn,.int .i64 m.mode,.int .i64 m.uid,.int .i64 m.gid,.int .i64 m.time,.slice p bl c]);clear T J L G R I V U h1 h2 hT
 cases x0 with
 |false=>
  go_enter Tryz.func52,Tryz.ntmps52
  go_wp2_with fail
  refine(E _).mono ?_;rintro e Z ⟨rfl,rfl⟩;go_wp2;go_ret;exact⟨rfl,D.out⟩
 |true=>
  have Y:∀(wi:World),Below (w.alloc (.cells #[.string (str m.path),.string (str m.target),.int .u8 kn,.int .i64 m.mode,.int .i64 m.uid,.int .i64 m.gid,.int .i64 m.time,.slice p bl c] 48)).heap.size (w.alloc (.cells #[.string (str m.path),.string (str m.target),.int .u8 kn,.int .i64 m.mode,.int .i64 m.uid,.int .i64 m.gid,.int .i64 m.time,.slice p bl c] 48)) wi→Below w.heap.size w (wi.alloc (.cells #[.string (str A.path),.string (str A.target),.int .u8 (A.kind.toNat:Int),.int .i64 A.mode,.int .i64 A.uid,.int .i64 A.gid,.int .i64 A.time,.slice none 0 0] 48))   :=fun wi B=>
   (D.out.trans (B.mono D.out.size)).alloc (D.out.trans (B.mono D.out.size)).size _
  have X:=Qh Y;clear Y
  by_cases O:H=0
  ·subst O
   go_enter Tryz.func52,Tryz.ntmps52
   go_wp2_with fail
   refine(E _).mono ?_;rintro e Z ⟨rfl,rfl⟩;go_wp2_with fail;refine(M.out _ D.out).mono ?_;rintro e f ⟨rfl,B⟩;have F:=Qh (X.out _ B);have N:=W.out.below (B.alloc B.size (.cells #[.string (str A.path),.string (str A.target),.int .u8 (A.kind.toNat:Int),.int .i64 A.mode,.int .i64 A.uid,.int .i64 A.gid,.int .i64 A.time,.slice none 0 0] 48)) W.out.lt;have l:=N.cell 0;have o:=N.cell 1;simp only[Qc,Qa,Qb]at l o;clear B N
   cases g with
   |false=>
    go_wp2;go_ret;exact⟨rfl,F.out⟩
   |true=>
    go_wp2;go_ret;exact⟨rfl,F.out⟩
  ·have q:(H==0)=false:=by simpa using O
   have hd:decide (H=0)=false:=by simpa using O
   rw[hd]
   go_enter Tryz.func52,Tryz.ntmps52
   go_wp2_with fail
   refine(E _).mono ?_;rintro e Z ⟨rfl,rfl⟩;go_wp2_with fail;refine(M.out _ D.out).mono ?_;rintro e f ⟨rfl,B⟩;have F:=Qh (X.out _ B);clear B;go_wp2;go_ret;exact⟨rfl,F.out⟩
end Mem
namespace Tre
open Go.ChangeShapes Go.WideShapes Go.ChangeAt Go.RowKit Base bM cr Bk Mem Go.Lib
variable {ms:List aq}
def OW (xs:List MP):Prop:=∀x∈xs,x.m.path.length≤140737488351232∧x.m.target.length≤140737488351232
def jB (ms:List aq):Option Nat:=ms.findIdx? fun m=>!bD m
def RE (o:Option Nat):Int:=match o with|some i=>(i:Int)|none=>-1
theorem su (h:∀m∈ms,bD m=true):jB ms=none:=by
 rw[jB,List.findIdx?_eq_none_iff];intro m hm;rw[h m hm];rfl
theorem Cc (hk:k<ms.length) (h0:∀m∈ms.take k,bD m=true) (h:bD (ms.getD k bB)=false):jB ms=some k:=by
 rw[jB,List.findIdx?_eq_some_iff_getElem];refine⟨hk,?_,fun j A=>?_⟩
 ·rw[List.getD,Qd hk]at h
  simpa using h
 ·have:=h0 ms[j] (by
   rw[List.mem_take_iff_getElem]
   exact⟨j,by omega,rfl⟩)
  simpa using this
theorem lZ (m:aq) (p:Option Addr) (c:Nat) (w:World) (h1:m.path.length≤140737488351232) (h2:m.target.length≤140737488351232) (hT:Path.Tabs w):
 Calls Tryz.prog 58 #[.agg (cP m p c)] w fun e w'=>e=.returned (.bool (!bD m))∧Below w.heap.size w w':=by
 obtain⟨W0,D⟩:∃W0,w.alloc (.cells (cP m p c) 48)=W0:=⟨_,rfl⟩
 have B:Below w.heap.size w W0:=by rw[←D];exact(Below.refl _ _).alloc (Qk _) _
 have A:=lX m p c W0 h1 h2 (hT.below B);obtain⟨r,I⟩:∃r,bD m=r:=⟨_,rfl⟩
 rw[I]at A⊢;have J:=Qh B;have G:=Qh D;have E:=Qh A;unfold cP at G E⊢;clear B D A I
 go_enter Tryz.func58,Tryz.ntmps58
 go_wp2_with fail
 rw[G.out];refine E.out.mono ?_;rintro e M ⟨rfl,H⟩;have L:=Qh (J.out.trans (H.mono J.out.size));clear H;go_wp2;go_ret;exact⟨rfl,L.out⟩
theorem eb (xs:List MP) (k:Nat):(xs.map MP.m).getD k bB=(xs.getD k bC).m:=by
 rw[List.getD,List.getD,List.getElem?_map]
 cases xs[k]? <;>rfl
theorem pR (p:Option Addr) (n c:Nat) (xs:List MP) (w:World) (h:cN w p n xs) (hn:n≤1000000000) (hF:OW xs) (hT:Path.Tabs w):
 Calls Tryz.prog 57 #[.slice p n c,.func (.func 58) #[] #[]] w fun e w'=>e=.returned (.int .i64 (RE (jB (xs.map MP.m))))∧Below w.heap.size w w':=by
 have Y:=Qh h;have I:=Qh h.1;have X:=Qh hF;have Z:=Qh hT;clear h hF hT
 go_enter Tryz.func57,Tryz.ntmps57
 go_wp2_with fail
 go_loopw [5,8] (fun _ i wr=>∃(j:Nat),j≤n∧i=.int .i64 (j:Int)∧Hid (∀m∈(xs.map MP.m).take j,bD m=true)∧Hid (Below w.heap.size w wr)) (fun _ i _=>n - (RowKit.intOf i).toNat)
 case atStart=>exact⟨0,Nat.zero_le _,rfl,Qh (by simp),Qh (Below.refl _ _)⟩
 case round=>
  obtain⟨j,l,rfl,hA,A⟩:=hrel
  by_cases N:j<n
  ·have H:j<xs.length:=by rw[I.out];exact N
   have T:=lN xs j H;have M:=uw xs j H;have G:=X.out _ T;obtain⟨b,o,rfl,d,W,c0,c1,c2,c3,c4,c5,c6,c7⟩:=(Y.out.below A.out).cells N;have L:=eb xs j;obtain⟨y,hy⟩:∃y,xs.getD j bC=y:=⟨_,rfl⟩
   rw[hy]at M T G W c0 c1 c2 c3 c4 c5 c6 c7 L;rw[Nat.mul_comm]at c0 c1 c2 c3 c4 c5 c6 c7;have D:=lZ y.m y.p y.c wr G.1 G.2 (Z.out.below A.out);unfold cP at D;obtain⟨r,R⟩:∃r,bD y.m=r:=⟨_,rfl⟩
   rw[R]at D;have J:=Qh M;have V:=Qh R;have f:=Qh L;have U:=Qh D;have q:(j:Int)<(n:Int):=by omega
   clear M d hy D R T H G W L
   cases r with
   |true=>
    go_wp2_with fail
    refine U.out.mono ?_;rintro e g ⟨rfl,B⟩;have O:=Qh (A.out.trans (B.mono A.out.size));clear B c0 c1 c2 c3 c4 c5 c6 c7;go_wp2;go_roundw
    case rel=>exact⟨j+1,by omega,by go_num,Qh (fun x hx=>by
     rw[←List.map_take,J.out,List.mem_append]at hx;rcases hx with hx|hx
     ·exact hA.out x (by rw[←List.map_take];exact hx)
     ·rw[List.mem_singleton.1 hx];exact V.out),O⟩
    case measure=>simp[RowKit.intOf];omega
   |false=>
    go_wp2_with fail
    refine U.out.mono ?_;rintro e g ⟨rfl,B⟩;have O:=Qh (A.out.trans (B.mono A.out.size));have E:Hid (jB (xs.map MP.m)=some j):=Qh (Cc (by rw[Qi,I.out];exact N) hA.out (by rw[f.out];exact V.out));clear B c0 c1 c2 c3 c4 c5 c6 c7;go_wp2;go_ret;exact⟨by rw[E.out];rfl,O.out⟩
  ·have t:¬((j:Int)<(n:Int)):=by omega
   have E:Hid (jB (xs.map MP.m)=none):=Qh (su (fun x hx=>hA.out x (by rw[List.take_of_length_le (by rw[Qi,I.out];omega)];exact hx)));go_wp2;go_ret;exact⟨by rw[E.out];rfl,A.out⟩
end Tre
namespace Tre
open Go.ChangeShapes Go.WideShapes Go.ChangeAt Go.RowKit Base bM cr Bk Mk Mem Go.Lib
variable {N:Nat} {S:St}
theorem oN (k:UInt8) (n:UInt8) (z:Int) (hz:(n.toNat:Int)=z):(((k.toNat:Int))==z)=decide (k=n):=by
 subst hz
 by_cases h:k=n
 ·simp[h]
 ·have:¬k.toNat=n.toNat:=fun A=>h (UInt8.toNat.inj A)
  simp only[h,decide_false,beq_eq_false_iff_ne,ne_eq];omega
theorem th (k:UInt8) (n:UInt8) (z:Int) (hz:(n.toNat:Int)=z):(((k.toNat:Int)) != z)=!decide (k=n):=by
 rw[←oN k n z hz];rfl
def fz (f:List UInt8→Option Nat):List UInt8→Option Value:=fun x=>(f x).map fun n=>.int .i64 (n:Int)
structure lA (W:World) (g B:Nat) (p:Option Addr) (n c:Nat) (f:List UInt8→Option Nat):Prop where
 obj:ao W g 150 #[.slice p n c,.map (some B)]
 map:cH im W B (fz f)
theorem lJ {t:TypeId} {cs:Array Value} {K:ij α} {f:α→Option Value} (h:ao W g t cs) (hm:cH K W B f):g≠B:=fun e=>by
 obtain⟨es,clock,A,_⟩:=hm;subst e;have D:W.heap[g]? =some (.cells cs t (0,0)):=h;rw[D]at A
 cases A
theorem lA.below {c:Nat} {f:List UInt8→Option Nat} (h:lA W g B p n c f) (hb:Below W.heap.size W W'):lA W' g B p n c f:=
 ⟨h.obj.below hb h.obj.lt,h.map.kept (Kept.aR hb ag) (fun h=>h.elim)⟩
def BL (w:World) (p:Option Addr) (n c:Nat) (e:Ending) (w':World):Prop:=
 ∃g B,e=.returned (.pointer (some ⟨g,0,none⟩))∧lA w' g B p n c (fun _=>none)∧w.heap.size≤g∧w.heap.size≤B∧Below w.heap.size w w'
theorem Dr (p:Option Addr) (n c:Nat) (w:World):
 Calls Tryz.prog 59 #[.slice p n c] w (BL w p n c):=by
 have D:=@run_makeMap Tryz.prog
 go_enter Tryz.func59,Tryz.ntmps59
 go_wp2;go_ret;have A:=(iU im w)
 have B:ao ((w.alloc (.map #[] 0)).alloc (.cells #[.slice p n c,.map (some w.heap.size)] 150)) (w.heap.size+1) 150 #[.slice p n c,.map (some w.heap.size)]:=by
  have:=ao.new (w.alloc (.map #[] 0)) 150 #[.slice p n c,.map (some w.heap.size)]
  rwa [World.size_alloc]at this
 refine⟨w.heap.size+1,w.heap.size,rfl,⟨B,?_⟩,by omega,Qk _,((Below.refl _ _).alloc (Qk _) _).alloc (by simp) _⟩;exact A.kept ((Kept.refl ag _).alloc _) (fun h=>h.elim)
theorem zF (q r:α→Bool) (h:∀x,r x=true→q x=true) (l:List α):(l.filter q).find? r=l.find? r:=by
 induction l with
 |nil=>rfl
 |cons a l ih=>
  rw[List.filter_cons]
  by_cases A:q a=true
  ·rw[if_pos A,List.find?_cons,List.find?_cons,ih]
  ·rw[if_neg A,List.find?_cons,ih]
   have:r a=false:=by
    cases B:r a with
    |false=>rfl
    |true=>exact absurd (h a B) A
   rw[this]
theorem Ln (S:St) (p x:List UInt8) (n:Nat):look (jr S p n) x=if x=p then some n else look S x:=by
 unfold look jr;rw[List.find?_append]
 by_cases h:x=p
 ·subst h
  rw[if_pos rfl]
  have:(S.filter fun e=>!(e.1==x)).find? (fun e=>e.1==x)=none:=by
   rw[List.find?_eq_none];intro e he;rw[List.mem_filter]at he
   simpa using he.2
  rw[this];simp
 ·rw[if_neg h,zF _ _ (fun e he=>by
   have:e.1=x:=by simpa using he
   simpa [this]using h)]
  have A:([(p,n)]:St).find? (fun e=>e.1==x)=none:=by
   have:(p==x)=false:=by simpa using fun e:p=x=>h e.symm
   simp[this]
  rw[A,Option.or_none]
def MF (S:St) (N:Nat):Prop:=∀e∈S,e.2<N
theorem MF.look (h:MF S N) {x:List UInt8} (hl:look S x=some n):n<N:=by
 unfold Tre.look at hl;rw[Option.map_eq_some_iff]at hl;obtain⟨e,he,rfl⟩:=hl;exact h e (List.mem_of_find?_eq_some he)
theorem MF.put (h:MF S N) {p:List UInt8} (hn:n<N):MF (jr S p n) N:=fun e he=>by
 unfold jr at he;rw[List.mem_append,List.mem_filter]at he;rcases he with he|he
 ·exact h e he.1
 ·rw[List.mem_singleton.1 he];exact hn
theorem Oc {ms:List aq} {S':St} (h:jY ms S i=some S') (hS:MF S ms.length) (hi:i<ms.length):MF S' ms.length:=by
 unfold jY at h
 dsimp only at h
 split at h
 ·split at h
  ·cases h
  ·next n A=>
   split at h
   ·cases h;exact hS.put (hS.look A)
   ·cases h
 ·cases h;exact hS.put hi
def Er (W:World) (ms:List aq) (S:St) (i g B:Nat) (p:Option Addr) (n c:Nat) (e:Ending) (w':World):Prop:=
 e=.returned (.bool (jY ms S i).isSome)∧lA w' g B p n c (look ((jY ms S i).getD S))∧Kept (aA B) W w'
theorem wI (S:St) (x:List UInt8) (n:Nat):fz (look (jr S x n))=fun y=>if y=x then some (.int .i64 (n:Int))else fz (look S) y:=by
 funext y
 unfold fz;rw[Ln]
 by_cases h:y=x<;>simp[h]
theorem yh (w:World) (g B:Nat) (p:Option Addr) (n c:Nat) (xs:List MP) (S:St) (i:Nat) (W:World) (hM:cN w p n xs) (hb:Below w.heap.size w W) (hB:w.heap.size≤B) (hn:n≤1000000000) (hi:i<n) (hS:MF S n) (hL:lA W g B p n c (look S)):
 Calls Tryz.prog 60 #[.pointer (some ⟨g,0,none⟩),.int .i64 (i:Int)] W (Er W (xs.map MP.m) S i g B p n c):=by
 have HL:=Qh hM.1;have KI:=lJ hL.obj hL.map;have r:=hM.below hb;obtain⟨t,o1,rfl,cg,cb,gS⟩:=r.eo hi;have b:=eb xs i;obtain⟨y,hy⟩:∃y,xs.getD i bC=y:=⟨_,rfl⟩
 rw[hy]at cb gS b;obtain⟨W1,I⟩:∃W1,W.alloc (.cells y.cs 48)=W1:=⟨_,rfl⟩
 have T:Below W.heap.size W W1:=by rw[←I];exact(Below.refl _ _).alloc (Qk _) _
 have L:ao W1 W.heap.size 48 y.cs:=by rw[←I];exact ao.new W _ _
 have V:=hL.below T;have HLA:=Qh hL;have A:=Qh V;have Sb:=Qh KI;have O:=Qh T;have jS:=Qh (r.below T);have HS:=Qh hS;have HY:=Qh L;have BD:=Qh (And.intro hL.obj.lt hL.map.lt);have k0:=hL.obj.cell 0;have g0:=V.obj.cell 0;have g1:=V.obj.cell 1;have Z:=L.cell 0;have y1:=L.cell 1;have y2:=L.cell 2;simp only[MP.cs,cP,Qc,Qa,Qb]at k0 g0 g1 Z y1 y2;have u:=oN y.m.kind 49 49 rfl;obtain⟨kn,bT⟩:∃k:Int,(y.m.kind.toNat:Int)=k:=⟨_,rfl⟩
 obtain⟨c0,c1,c2,c3,c4,c5,c6,c7⟩:=gS;unfold MP.cs cP at I;rw[bT]at I y2 c2 u;have X:=Qh b;have hiz:(i:Int)<(n:Int):=by omega
 have Ra:(0:Int)≤(i:Int):=by omega
 clear hM hb r cg cb hy T L hL V KI hS bT b
 go_enter Tryz.func60,Tryz.ntmps60
 go_upto_region 2 with fail
 clear c0 c1 c2 c3 c4 c5 c6 c7 I
 by_cases G:y.m.kind=49
 ·rw[decide_eq_true G]at u
  have NV:=A.out.map.look_ok (P:=Tryz.prog) Tryz.underlying99 Tryz.underlying9 (z:=.int .i64 0) (fun w=>Tryz.zeroValue3 w) y.m.target
  have U:Hid (∀q:ga W1,(Instr.lookup 99 (.map (some B)) (.string (str y.m.target)) true).run Tryz.prog q.w'=.ok (.tuple #[(fz (look S) y.m.target).getD (.int .i64 0),.bool (fz (look S) y.m.target).isSome]) q.w'):=Qh (fun q=>
   (A.out.map.kept (Kept.aR q.bel ag) (fun h=>h.elim)).look_ok (P:=Tryz.prog) Tryz.underlying99 Tryz.underlying9 (z:=.int .i64 0) (fun w=>Tryz.zeroValue3 w) y.m.target)
  clear NV;obtain⟨fo,uO⟩:∃fo,look S y.m.target=fo:=⟨_,rfl⟩
  have Y:=Qh uO;unfold fz at U;rw[uO]at U;have d:=Qh G;clear uO G
  cases fo with
  |none=>
   have E:Hid (jY (xs.map MP.m) S i=none):=Qh (by
    unfold jY;rw[X.out]
    dsimp only
    rw[if_pos d.out,Y.out])
   have lk:∀m,(Instr.lookup 99 (.map (some B)) (.string (str y.m.target)) true).run Tryz.prog (W1.drewN m)=.ok (.tuple #[.int .i64 0,.bool false]) (W1.drewN m):=fun m=>U.out ⟨W1.drewN m,below_drewN (Below.refl _ _) m⟩
   go_wp2_with fail
   go_quiet (fail)
   go_wp2;go_ret;exact⟨by rw[E.out];rfl,by rw[E.out];exact A.out.below (below_drewN (Below.refl _ _) _),(Kept.aR O.out (aA B)).drewN _⟩
  |some n0=>
   have UC:n0<n:=HS.out.look Y.out;obtain⟨b2,o2,zW,bY,J,jX⟩:=jS.out.eo UC;simp only[Option.some.injEq,Addr.mk.injEq,and_true]at zW;obtain⟨rfl,rfl⟩:=zW;have o:=eb xs n0;obtain⟨v,hv⟩:∃v,xs.getD n0 bC=v:=⟨_,rfl⟩
   rw[hv]at jX o;have z2:=jX.2.2.1;have l:∀m,(W1.drewN m).cell? ⟨t,o1+n0*8+2,none⟩=some (.int .u8 (v.m.kind.toNat:Int)):=fun m=>z2
   have ev:=th v.m.kind 48 48 rfl;obtain⟨kv,KO⟩:∃k:Int,(v.m.kind.toNat:Int)=k:=⟨_,rfl⟩
   rw[KO]at ev z2 l;have dh:=Qh o;have lk:∀m,(Instr.lookup 99 (.map (some B)) (.string (str y.m.target)) true).run Tryz.prog (W1.drewN m)=.ok (.tuple #[.int .i64 (n0:Int),.bool true]) (W1.drewN m):=fun m=>U.out ⟨W1.drewN m,below_drewN (Below.refl _ _) m⟩
   have ac2:(n0:Int)<(n:Int):=by omega
   have ac1:(0:Int)≤(n0:Int):=by omega
   clear bY J jX hv KO o
   by_cases D:v.m.kind=48
   ·rw[decide_eq_true D,Bool.not_true]at ev
    have E:Hid (jY (xs.map MP.m) S i=some (jr S y.m.path n0)):=Qh (by
     unfold jY;rw[X.out]
     dsimp only
     rw[if_pos d.out,Y.out]
     dsimp only
     rw[dh.out,if_pos D])
    clear D;go_wp2_with fail
    go_quiet (fail)
    obtain⟨W2,jv⟩:∃W2,W1.drewN nq=W2:=⟨_,rfl⟩
    have H:=A.out.below (below_drewN (Below.refl W1.heap.size W1) nq);have J:=O.out.trans ((below_drewN (Below.refl W1.heap.size W1) nq).mono O.out.size);have f:=HY.out.drewN nq;have z2':=l nq;rw[jv]at H J f z2'⊢;clear jv lk l z2 g0 g1 Z y1 y2;have g0:=H.obj.cell 0;have g1:=H.obj.cell 1;have Z:=f.cell 0;simp only[MP.cs,cP,Qc,Qa,Qb]at g0 g1 Z;have Ej:=Qh H;have PV:=Qh J;clear H J f;go_wp2_with fail
    go_still_tail 7,(by kernel_rfl)
    refine cR (K:=im) rfl (.tmp 45) (.tmp 47) (.tmp 48) rfl Tryz.underlying99 Tryz.underlying9 B (Ej.out.map.kept (Kept.refl ag W2).drew id) rfl y.m.path rfl (.int .i64 (n0:Int)) rfl ?_;intro w5 R N qG
    have F:Hid (lA w5 g B (some ⟨t,o1,none⟩) n c (look (jr S y.m.path n0))∧Kept (aA B) W w5):=by
     have M:Kept (aA B) W2 w5:=((Kept.refl (aA B) W2).drew).trans N.out;refine Qh ⟨⟨Ej.out.obj.bZ M Sb.out,?_⟩,(Kept.aR PV.out (aA B)).trans M⟩;rw[wI];exact R.out
    clear R N qG;go_wp2;go_ret;exact⟨by rw[E.out];rfl,by rw[E.out];exact F.out.1,F.out.2⟩
   ·rw[decide_eq_false D,Bool.not_false]at ev
    have E:Hid (jY (xs.map MP.m) S i=none):=Qh (by
     unfold jY;rw[X.out]
     dsimp only
     rw[if_pos d.out,Y.out]
     dsimp only
     rw[dh.out,if_neg D])
    clear D;go_wp2_with fail
    go_quiet (fail)
    go_wp2;go_ret;exact⟨by rw[E.out];rfl,by rw[E.out];exact A.out.below (below_drewN (Below.refl _ _) _),(Kept.aR O.out (aA B)).drewN _⟩
 ·rw[decide_eq_false G]at u
  have E:Hid (jY (xs.map MP.m) S i=some (jr S y.m.path i)):=Qh (by
   unfold jY;rw[X.out]
   dsimp only
   rw[if_neg G])
  clear G;go_wp2_with fail
  go_still_tail 7,(by kernel_rfl)
  refine cR (K:=im) rfl (.tmp 45) (.tmp 47) (.tmp 48) rfl Tryz.underlying99 Tryz.underlying9 B (A.out.map.kept (Kept.refl ag W1).drew id) rfl y.m.path rfl (.int .i64 (i:Int)) rfl ?_;intro w5 R N qG
  have F:Hid (lA w5 g B (some ⟨t,o1,none⟩) n c (look (jr S y.m.path i))∧Kept (aA B) W w5):=by
   have M:Kept (aA B) W1 w5:=((Kept.refl (aA B) W1).drew).trans N.out;refine Qh ⟨⟨A.out.obj.bZ M Sb.out,?_⟩,(Kept.aR O.out (aA B)).trans M⟩;rw[wI];exact R.out
  clear R N qG;go_wp2;go_ret;exact⟨by rw[E.out];rfl,by rw[E.out];exact F.out.1,F.out.2⟩
end Tre
namespace Tre
open Mem
variable {ms:List aq} {f:Nat} {S T:St}
def iW (S:St):Prop:=(S.map (·.1)).Nodup
theorem iW.put (h:iW S) (p:List UInt8) (n:Nat):iW (jr S p n):=by
 unfold iW jr at*;rw[List.map_append,List.nodup_append];refine⟨(List.Sublist.nodup (List.Sublist.map _ (List.filter_sublist)) h),by simp,?_⟩;intro a A b B;simp only[List.map_cons,List.map_nil,List.mem_singleton]at B;subst B;rw[List.mem_map]at A;obtain⟨e,he,rfl⟩:=A;rw[List.mem_filter]at he
 simpa using he.2
theorem Ao (h:iW S) {e:List UInt8 × Nat} (he:e∈S):look S e.1=some e.2:=by
 unfold look iW at*
 induction S with
 |nil=>cases he
 |cons a S ih=>
  rw[List.map_cons,List.nodup_cons]at h;rw[List.find?_cons]
  by_cases A:a.1=e.1
  ·have:(a.1==e.1)=true:=by simpa using A
   rw[this];rcases List.mem_cons.1 he with rfl|X5
   ·rfl
   ·exact absurd (List.mem_map.2 ⟨e,X5,A.symm⟩) h.1
  ·have:(a.1==e.1)=false:=by simpa using A
   rw[this];rcases List.mem_cons.1 he with rfl|X5
   ·exact absurd rfl A
   ·exact ih h.2 X5
theorem lW (x:List UInt8):(look S x).isSome=true↔x∈S.map (·.1):=by
 unfold look;rw[Option.isSome_map,List.find?_isSome,List.mem_map];constructor
 ·rintro⟨e,he,h⟩;exact⟨e,he,by simpa using h⟩
 ·rintro⟨e,he,h⟩;exact⟨e,he,by simpa using h⟩
theorem Da {S':St} (h:jY ms S i=some S') (hS:iW S):iW S':=by
 unfold jY at h
 dsimp only at h
 split at h
 ·split at h
  ·cases h
  ·split at h
   ·cases h;exact hS.put _ _
   ·cases h
 ·cases h;exact hS.put _ _
theorem qK (ms:List aq):∀k S,eH ms k=.ok S→iW S
 |0,S,h=>by cases h;exact List.nodup_nil
 |k+1,S,h=>by
  unfold eH at h;split at h
  ·cases h
  ·next A B=>
   split at h
   ·cases h
   ·next D h1=>cases h;exact Da h1 (qK ms k A B)
theorem tk (ms:List aq):∀k S,k≤ms.length→eH ms k=.ok S→MF S ms.length
 |0,S,_,h=>by cases h;intro e he;cases he
 |k+1,S,hk,h=>by
  unfold eH at h;split at h
  ·cases h
  ·next A B=>
   split at h
   ·cases h
   ·next D h1=>cases h;exact Oc h1 (tk ms k A (by omega) B) (by omega)
def Eu (T:St):Prop:=T.Pairwise fun a b=>dx a.1 b.1=true
theorem Hr (a b c:List UInt8 × Nat) (h1:Lh a b=true) (h2:Lh b c=true):Lh a c=true:=by
 unfold Lh at*;simp only[Bool.not_eq_true']at*
 cases h:dx c.1 a.1 with
 |false=>rfl
 |true=>rw[yr (a:=b.1) (b:=c.1) (c:=a.1) h2 h]at h1;cases h1
theorem Hq (a b:List UInt8 × Nat):(Lh a b||Lh b a)=true:=by
 unfold Lh
 cases h:dx b.1 a.1 with
 |false=>simp
 |true=>rw[oS h];simp
theorem nV (S:St):(lf S).Perm S:=List.mergeSort_perm S Lh
theorem ud (h:iW S):Eu (lf S):=by
 have h1:=List.pairwise_mergeSort Hr Hq S;have A:((lf S).map (·.1)).Nodup:=((nV S).map _).nodup_iff.2 h;have B:(lf S).Pairwise fun a b=>a.1≠b.1:=(List.pairwise_map (f:=fun e:List UInt8 × Nat=>e.1)).1 A
 refine((show(lf S).Pairwise (fun a b=>Lh a b=true)from h1).and B).imp fun⟨h4,h5⟩=>?_
 unfold Lh at h4;exact kS (by simpa using h4) (fun e=>h5 e.symm)
theorem DZ (h:iW S) (hp:T.Perm S) (hr:Eu T):T=lf S:=by
 have A:T.Pairwise fun(a b:List UInt8 × Nat)=>dx a.1 b.1=true:=hr
 have B:(lf S).Pairwise fun(a b:List UInt8 × Nat)=>dx a.1 b.1=true:=ud h
 refine List.Perm.eq_of_pairwise (fun a b _ _ (h1:dx a.1 b.1=true) (h2:dx b.1 a.1=true)=>?_) A B (hp.trans (nV S).symm);rw[oS h1]at h2;cases h2
theorem Hk (h:iW S) {ts:List (List UInt8)} (hp:ts.Perm (S.map (·.1))) (hr:ts.Pairwise fun a b=>dx a b=true):lf S=ts.map fun x=>(x,(look S x).getD 0):=by
 symm
 refine DZ h ?_ ?_
 ·have:=hp.map fun x=>(x,(look S x).getD 0)
  refine this.trans (List.Perm.of_eq ?_);rw[List.map_map]
  conv=>rhs;rw[←List.map_id S]
  refine List.map_congr_left fun e he=>?_
  simp only[Function.comp,Ao h he,Option.getD_some,id]
 ·unfold Eu
  rw[List.pairwise_map];exact hr
theorem De (hk:k<T.length) (h:∀j,j<k→(T.getD j ([],0)).2≠(T.getD k ([],0)).2):np T (T.getD k ([],0)).2=(T.getD k ([],0)).1:=by
 unfold np;have A:T.getD k ([],0)=T[k]:=by rw[List.getD,Qd hk];rfl
 rw[A]at h⊢
 have:T.find? (fun e=>e.2==T[k].2)=some T[k]:=by
  rw[List.find?_eq_some_iff_getElem];refine⟨by simp,k,hk,rfl,fun j B=>?_⟩;have:=h j B;rw[List.getD,Qd (show j<T.length by omega)]at this
  simpa using this
 rw[this];rfl
def fk (T:St) (n:Nat):Option Nat:=T.findIdx? fun e=>e.2==n
theorem Ah (h:fk T n=some f):np T n=(T.getD f ([],0)).1:=by
 unfold fk at h;rw[List.findIdx?_eq_some_iff_getElem]at h;obtain⟨hf,h1,A⟩:=h;unfold np
 have:T.find? (fun e=>e.2==n)=some T[f]:=by
  rw[List.find?_eq_some_iff_getElem];exact⟨h1,f,hf,rfl,fun j B=>by simpa using A j B⟩
 rw[this,List.getD,Qd hf];rfl
theorem fJ (T:St) (k n:Nat) (hk:k<T.length):fk (T.take (k+1)) n=(fk (T.take k) n).or (if(T.getD k ([],0)).2=n then some k else none):=by
 unfold fk;rw[List.take_succ_eq_append_getElem hk,List.findIdx?_append]
 congr 1
 have A:T.getD k ([],0)=T[k]:=by rw[List.getD,Qd hk];rfl
 rw[A]
 by_cases h:T[k].2=n
 ·simp[h,List.findIdx?_cons]
  omega
 ·have:(T[k].2==n)=false:=by simpa using h
  simp[h,List.findIdx?_cons,this]
theorem xN (h:fk (T.take k) n=some f):fk T n=some f:=by
 unfold fk at*
 conv=>lhs;rw[←List.take_append_drop k T,List.findIdx?_append,h]
 rfl
def leads (ms:List aq) (T:St) (k n:Nat):Option Nat:=if(ms.getD n bB).kind=48 then fk (T.take k) n else none
theorem Df (ms:List aq) (T:St) (n:Nat):leads ms T 0 n=none:=by
 unfold leads;split<;>rfl
theorem Ai (hk:k<T.length) (h:(ms.getD (T.getD k ([],0)).2 bB).kind≠48):leads ms T (k+1)=leads ms T k:=by
 funext n
 unfold leads;split
 ·next A=>
  rw[fJ T k n hk,if_neg (fun e=>h (by rw[e];exact A)),Option.or_none]
 ·rfl
theorem Ht (hk:k<T.length) (h:leads ms T k (T.getD k ([],0)).2=some f):leads ms T (k+1)=leads ms T k:=by
 funext n
 unfold leads at*;split
 ·next A=>
  rw[fJ T k n hk]
  by_cases e:(T.getD k ([],0)).2=n
  ·rw[e,if_pos A]at h
   rw[h];rfl
  ·rw[if_neg e,Option.or_none]
 ·rfl
theorem Hs (hk:k<T.length) (hf:(ms.getD (T.getD k ([],0)).2 bB).kind=48) (h:leads ms T k (T.getD k ([],0)).2=none):leads ms T (k+1)=fun n=>if n=(T.getD k ([],0)).2 then some k else leads ms T k n:=by
 funext n
 unfold leads at*;rw[if_pos hf]at h
 by_cases e:n=(T.getD k ([],0)).2
 ·rw[if_pos e,e,if_pos hf,fJ T k _ hk,h,if_pos rfl];rfl
 ·rw[if_neg e]
  split
  ·rw[fJ T k n hk,if_neg (fun h=>e h.symm),Option.or_none]
  ·rfl
theorem tt (hk:k<T.length) (hf:(ms.getD (T.getD k ([],0)).2 bB).kind=48):np T (T.getD k ([],0)).2=(T.getD ((leads ms T k (T.getD k ([],0)).2).getD k) ([],0)).1:=by
 have h1:fk (T.take (k+1)) (T.getD k ([],0)).2=some ((leads ms T k (T.getD k ([],0)).2).getD k):=by
  rw[fJ T k _ hk,if_pos rfl];unfold leads;rw[if_pos hf]
  cases fk (T.take k) (T.getD k ([],0)).2<;>rfl
 exact Ah (xN h1)
theorem Li (h:leads ms T k n=some f):f<k∧f<T.length:=by
 unfold leads at h;split at h
 ·unfold fk at h
  rw[List.findIdx?_eq_some_iff_getElem]at h;obtain⟨h1,_⟩:=h;rw[Qg]at h1;omega
 ·cases h
end Tre
namespace Tre
open Go.ChangeShapes Go.WideShapes Go.ChangeAt Go.RowKit Base bM cr Bk Mk Mem Go.Lib
variable {ms:List aq} {S S':St}
theorem tX {fn:Func} (hf:fn.results=#[.tmp 2,.cell 3 32]) (tmps:Array Value) (w:World) (g:Nat) (v:Value) (ht:tmps.getD 3 undef=.pointer (some ⟨g,0,none⟩)) (hv:tmps.getD 2 undef=v)
 (a b:Int) (hb:ao w g 32 #[.int .i64 a,.int .i64 b]):(results fn tmps).run Tryz.prog w=.ok (.tuple #[v,.agg #[.int .i64 a,.int .i64 b]]) w:=by
 have c0:=hb.cell 0;have c1:=hb.cell 1;simp only[Qc,Qa,Qb]at c0 c1;clear hb;have hl:(loadVar 32 ⟨g,0,none⟩).run Tryz.prog w=.ok (.agg #[.int .i64 a,.int .i64 b]) w:=by go_simp
 have B:tmps[3]?.getD undef=.pointer (some ⟨g,0,none⟩):=by simpa using ht
 have A:tmps[2]?.getD undef=v:=by simpa using hv
 simp only[results,hf];simp[Result.andThen,B,A,asAddr,hl]
theorem ow {x y:Value} (h:ao w g 32 #[x,y]) (a b:Value):ao ((w.setCell ⟨g,0,none⟩ a).setCell ⟨g,1,none⟩ b) g 32 #[a,b]:=
 (h.set 0 a (by show 0<2;decide)).set 1 b (by show 1<2;decide)
theorem LP (S:St) (p:List UInt8) (n:Nat):(jr S p n).length≤S.length+1:=by
 unfold jr;rw[Qf];have:=List.length_filter_le (fun e:List UInt8 × Nat=>!(e.1==p)) S
 simpa using this
structure Qt (ms:List aq) (S:St) (k:Nat):Prop where
 len:S.length≤k
 from_:∀e∈S,∃j,j<k∧e.1=(ms.getD j bB).path
theorem Qt.put (h:Qt ms S k) (n:Nat):Qt ms (jr S (ms.getD k bB).path n) (k+1):=by
 refine⟨Nat.le_trans (LP _ _ _) (Nat.succ_le_succ h.len),fun e he=>?_⟩;unfold jr at he;rw[List.mem_append,List.mem_filter]at he;rcases he with he|he
 ·obtain⟨j,B,A⟩:=h.from_ e he.1
  exact⟨j,by omega,A⟩
 ·rw[List.mem_singleton.1 he]
  exact⟨k,by omega,rfl⟩
theorem Qt.lay (h:Qt ms S k) (hl:jY ms S k=some S'):Qt ms S' (k+1):=by
 unfold jY at hl
 dsimp only at hl
 split at hl
 ·split at hl
  ·cases hl
  ·split at hl
   ·cases hl;exact h.put _
   ·cases hl
 ·cases hl;exact h.put _
theorem Af (ms:List aq):∀k S,eH ms k=.ok S→Qt ms S k
 |0,S,h=>by cases h;exact⟨Qk _,fun e he=>by cases he⟩
 |k+1,S,h=>by
  unfold eH at h;split at h
  ·cases h
  ·next A B=>
   split at h
   ·cases h
   ·next D h1=>cases h;exact(Af ms k A B).lay h1
theorem tq (h:eH ms k=.ok S) (hl:jY ms S k=some S'):eH ms (k+1)=.ok S':=by
 unfold eH;rw[h]
 dsimp only
 rw[hl]
theorem Db (h:eH ms k=.ok S) (hl:jY ms S k=none):eH ms (k+1)=.error k:=by
 unfold eH;rw[h]
 dsimp only
 rw[hl]
theorem tn {ms:List aq} {k:Nat} {i:Nat} (h:eH ms k=.error i):∀d,eH ms (k+d)=.error i
 |0=>h
 |d+1=>by
  show eH ms ((k+d)+1)=_;unfold eH;rw[tn h d]
theorem GX (h:jB ms=some i):gR ms=([],1,i):=by
 unfold jB at h;unfold gR;rw[h]
theorem Cx (h:jB ms=none) (h2:eH ms ms.length=.error i):gR ms=([],7,i):=by
 unfold jB at h;unfold gR;rw[h]
 dsimp only
 rw[h2]
theorem zJ (h:jB ms=none) (h2:eH ms ms.length=.ok S):gR ms=(mC ms S,0,0):=by
 unfold jB at h;unfold gR;rw[h]
 dsimp only
 rw[h2]
end Tre
namespace Mem
open Go.ChangeShapes Go.WideShapes Go.ChangeAt Go.RowKit Base bM cr Bk Hp Head ql Path Go.Lib
theorem GG (p q:Option Addr) (n c m d:Nat) (a b:List UInt8) (w:World) (ha:a.length=n) (hb:b.length=m) (h1:cD w p n a) (h2:cD w q m b):
 Calls Tryz.prog 78 #[.slice p n c,.slice q m d] w fun e w'=>e=.returned (.bool (decide (a=b)))∧w=w':=by
 have c1:(convert 26 9 (.slice p n c)).run Tryz.prog w=.ok (.string (str a)) w:=cF h1 ha _ _ _ Tryz.underlying26 Tryz.underlying5 Tryz.underlying9 _;have c2:(convert 26 9 (.slice q m d)).run Tryz.prog w=.ok (.string (str b)) w:=cF h2 hb _ _ _ Tryz.underlying26 Tryz.underlying5 Tryz.underlying9 _
 have A:((str a).toList==(str b).toList)=decide (a=b):=by
  rw[av,av]
  by_cases h:a=b<;>simp[h]
 clear h1 h2
 go_enter Tryz.func78,Tryz.ntmps78
 go_wp2;go_ret;exact⟨rfl,rfl⟩
theorem qy (a b c d a' b' c' d':Int) (n:Nat) (w:World):(Op.equalIn (n+1+1) 46 (.agg #[.int .i64 a,.int .i64 b,.int .i64 c,.int .i64 d]) (.agg #[.int .i64 a',.int .i64 b',.int .i64 c',.int .i64 d'])).run Tryz.prog w=.ok (decide (a=a'∧b=b'∧c=c'∧d=d')) w:=by
 have A:Tryz.prog.underlying 46=some (.struct (Tryz.prog.fieldsOf 46)):=by kernel_rfl
 have B:Tryz.prog.stoodInHeld 46=false:=by kernel_rfl
 rw[run_equalIn_agg (P:=Tryz.prog) w (n+1) 46 _ _ A B];clear A B;simp only[Program.fieldsOf,Tryz.underlying46]
 go_simp
 by_cases D:a=a'<;>by_cases E:b=b'<;>by_cases G:c=c'<;>by_cases H:d=d'<;>simp[D,E,G,H]
theorem QC (a b c d a' b' c' d':Int) (w:World):(binOp .eql 46 (.agg #[.int .i64 a,.int .i64 b,.int .i64 c,.int .i64 d]) (.agg #[.int .i64 a',.int .i64 b',.int .i64 c',.int .i64 d'])).run Tryz.prog w=.ok (.bool (decide (a=a'∧b=b'∧c=c'∧d=d'))) w:=by
 rw[run_eql_struct,show(10000:Nat)=9998+1+1 from rfl,qy];rfl
end Mem
namespace Tre
open Go.ChangeShapes Go.WideShapes Go.ChangeAt Go.RowKit Base bM cr Bk Mem Go.Lib
theorem Ih {t:TypeId} {a b:Int} {q:Option Addr} {zs:List NP} (hb:ao w g t #[.int .i64 a,.int .i64 b]) (h:aY w q n zs) (hk:Kept (aA g) w w'):aY w' q n zs:=by
 have E:∀{i:Nat} {v:Value},w.cell? ⟨g,i,none⟩=some v→v=.int .i64 a∨v=.int .i64 b:=fun {i v} hv=>by
  rw[hb.cell]at hv
  match i,hv with
  |0,hv=>cases hv;exact .inl rfl
  |1,hv=>cases hv;exact .inr rfl
 refine⟨h.1,fun y hy=>(h.2.1 y hy).kept hk (fun B z J H=>?_),fun B=>?_⟩
 ·obtain⟨A,o,he,_,hc⟩:=(h.2.1 y hy).ib.cell B
  rw[J]at he
  cases he
  have e:A=g:=H;have c0:=hc 0 B;rw[e]at c0;rcases E c0 with h|h<;>cases h
 ·obtain⟨A,o,he,G,hc⟩:=h.2.2 B
  refine⟨A,o,he,Nat.lt_of_lt_of_le G hk.size,fun i hi j I=>?_⟩
  have D:A≠g:=fun e=>by
   have c0:=hc 0 B 0 (by omega);rw[e]at c0;rcases E c0 with h|h<;>cases h
  rw[World.cell?_of_block (hk.block A G (fun h=>D h))];exact hc i hi j I
theorem Y0 (a b:List UInt8):((str a).toList==(str b).toList)=decide (a=b):=by
 rw[av,av]
 by_cases h:a=b<;>simp[h]
end Tre
namespace Wr
open Go.ChangeShapes Go.WideShapes Go.ChangeAt Go.RowKit Base bM cr Bk Hp Head Rec Attr Mem Block Go.Lib
theorem Mc (w:World) (B:Nat):rH (w.alloc (.cells #[.slice none 0 0] 105)) w.heap.size B (.slice none 0 0) []:=
 ⟨ao.new w _ _,World.ownsRow_nil _ _ _ _⟩
def vx (w:World) (bs:List UInt8) (e:Ending) (w':World):Prop:=∃v,e=.returned (.tuple #[v,.int .i64 0])∧eY w' w.heap.size v bs.length bs∧Below w.heap.size w w'
end Wr
namespace Mem
open Go.ChangeShapes Go.WideShapes Go.ChangeAt Go.RowKit Go.Shelf Base bM cr Bk Hp Head Go.Proofs.YtdhibldkldlfpaaGreatDoor.Mp Block Go.Lib
structure LH where
 v1:Value
 vp:Value
 v2:Value
structure Xe (w:World) (B bm:Nat) (M:Array Value) (v0:Value) (X Y P:List UInt8) (w1:World) (γ:LH) (listed:Array Bool) (w':World):Prop where
 bel:Below w.heap.size w w'
 le:w1.heap.size≤w'.heap.size
 mem:ao w' bm 48 M
 Zh:listed.getD 2 false=false→∀b o,cD w1 (some ⟨b,o,none⟩) 512 Y→(∀k,v0.ownBlock=some k→k≠b)→cD w' (some ⟨b,o,none⟩) 512 Y
 o0:listed.getD 2 false=false→eY w' B v0 X.length X
 o1:listed.getD 2 false=true→listed.getD 6 false=false→eY w' B γ.v1 (X++Y).length (X++Y)
 pd:listed.getD 5 false=true→listed.getD 6 false=false→eY w' w1.heap.size γ.vp P.length P
 fin:listed.getD 6 false=true→eY w' B γ.v2 ((X++Y)++P).length ((X++Y)++P)
 c6:listed.getD 6 false=true→listed.getD 2 false=true∧listed.getD 5 false=true
theorem Xe.cK {w1:World} {bm:Nat} {v0:Value} {X Y P:List UInt8} {γ:LH} {listed:Array Bool} (hW:Xe w B bm M v0 X Y P w1 γ listed w') {j:Nat} (ax:j<listed.size) (hj:j≠2∧j≠5∧j≠6):Xe w B bm M v0 X Y P w1 γ (listed.setIfInBounds j true) w':=by
 have A:(listed.setIfInBounds j true).getD 2 false=listed.getD 2 false:=by rw[ai ax,if_neg (by omega)]
 have E:(listed.setIfInBounds j true).getD 5 false=listed.getD 5 false:=by rw[ai ax,if_neg (by omega)]
 have D:(listed.setIfInBounds j true).getD 6 false=listed.getD 6 false:=by rw[ai ax,if_neg (by omega)]
 exact⟨hW.bel,hW.le,hW.mem,by rw[A];exact hW.Zh,by rw[A];exact hW.o0,by rw[A,D];exact hW.o1,by rw[E,D];exact hW.pd,by rw[D];exact hW.fin,by rw[A,E,D];exact hW.c6⟩
end Mem
namespace Mem
open Go.ChangeShapes Go.WideShapes Go.ChangeAt Go.RowKit Base bM cr Bk Hp Head ql Path Block Rec Attr Go.Proofs.YtdhibldkldlfpaaGreatDoor.Mp Go.Lib
variable {wx wy:World} {h:ak}
structure PM (w:World) (M:Array Value) (wx:World) (h:ak):Prop where
 bel:Below w.heap.size w wx
 mem:ao wx w.heap.size 48 M
 hd:ao wx (w.heap.size+1) 66 (aa h)
theorem PM.below (hm:PM w M wx h) (hb:Below wx.heap.size wx wy):PM w M wy h:=
 ⟨hm.bel.trans (hb.mono hm.bel.size),hm.mem.below hb hm.mem.lt,hm.hd.below hb hm.hd.lt⟩
theorem PM.kept (hm:PM w M wx h) (hk:Kept ag wx wy):PM w M wy h:=hm.below (hk.below (Qk _) (fun _ h=>h.elim))
end Mem
namespace Mem
open Go.ChangeShapes Go.WideShapes Go.ChangeAt Go.RowKit Base bM cr Bk Hp Head ql Path Block Rec Go.Lib
theorem LK {m:aq} (h:dd m):(fY m).length≤3000000:=by
 have D:=(j9 m.body.length).2;have hl:=(j9 (aN (aO m)).length).2;have E:=km h;have G:=h.body;obtain⟨H,_,A,_,(⟨_,e⟩|⟨X,_,B,_,e⟩)⟩:=kt h
 ·rw[e,Qf,bE,A];omega
 ·rw[e,Qf,Qf,Qf,bE,bE,A,B];omega
theorem qP:∀(ms:List aq),(∀m∈ms,dd m)→(cA ms).length≤ms.length*3000000
 |[],_=>Nat.zero_le _
 |m::ms,h=>by
  rw[fS,Qf,List.length_cons];have h1:=LK (h m (List.mem_cons_self ..));have B:=qP ms (fun x A=>h x (List.mem_cons_of_mem _ A));omega
end Mem
namespace Wr
open Go.ChangeShapes Go.WideShapes Go.ChangeAt Go.RowKit Base bM cr Bk Hp Head Rec Attr Mem Block Go.Lib
variable {xs:List MP}
def Fit (xs:List MP):Prop:=∀x∈xs,x.m.path.length≤1000000000000∧x.m.target.length≤1000000000000
def Gn (xs:List MP):Bool:=xs.all fun x=>bD x.m
theorem sj:Gn xs=true↔∀x∈xs,bD x.m=true:=by simp[Gn]
theorem Bc (xs:List MP) (k:Nat) (h:k<xs.length):xs.take (k+1)=xs.take k++[xs.getD k bC]:=by
 rw[List.take_succ_eq_append_getElem h,List.getD,Qd h];rfl
theorem lZ (m:aq) (p:Option Addr) (c:Nat) (w:World) (h1:m.path.length≤1000000000000) (h2:m.target.length≤1000000000000) (hN:Need w):
 Calls Tryz.prog 51 #[.agg (cP m p c)] w fun e w'=>e=.returned (.bool (!bD m))∧Below w.heap.size w w':=by
 obtain⟨W0,D⟩:∃W0,w.alloc (.cells (cP m p c) 48)=W0:=⟨_,rfl⟩
 have B:Below w.heap.size w W0:=by rw[←D];exact(Below.refl _ _).alloc (Qk _) _
 have A:=lX m p c W0 (by omega) (by omega) (hN.below B).yL;obtain⟨r,I⟩:∃r,bD m=r:=⟨_,rfl⟩
 rw[I]at A⊢;have J:=Qh B;have G:=Qh D;have E:=Qh A;unfold cP at G E⊢;clear B D A I
 go_enter Tryz.func51,Tryz.ntmps51
 go_wp2_with fail
 rw[G.out];refine E.out.mono ?_;rintro e M ⟨rfl,H⟩;have L:=Qh (J.out.trans (H.mono J.out.size));clear H;go_wp2;go_ret;exact⟨rfl,L.out⟩
def Nn (xs:List MP) (w:World) (e:Ending) (w':World):Prop:=∃k:Int,e=.returned (.int .i64 k)∧decide (0≤k)=!Gn xs∧Below w.heap.size w w'
theorem pR (p:Option Addr) (n c:Nat) (xs:List MP) (w:World) (h:cN w p n xs) (hn:n≤100000) (hF:Fit xs) (hN:Need w):
 Calls Tryz.prog 57 #[.slice p n c,.func (.func 51) #[] #[]] w (Nn xs w):=by
 have W:=Qh h;have O:=Qh h.1;have V:=Qh hF;have X:=Qh hN;clear h hF hN
 go_enter Tryz.func57,Tryz.ntmps57
 go_wp2_with fail
 go_loopw [5,8] (fun _ i wr=>∃(j:Nat),j≤n∧i=.int .i64 (j:Int)∧Hid (∀x∈xs.take j,bD x.m=true)∧Hid (Below w.heap.size w wr)) (fun _ i _=>n - (RowKit.intOf i).toNat)
 case atStart=>exact⟨0,Nat.zero_le _,rfl,Qh (by simp),Qh (Below.refl _ _)⟩
 case round=>
  obtain⟨j,g,rfl,hA,A⟩:=hrel
  by_cases T:j<n
  ·have I:j<xs.length:=by rw[O.out];exact T
   have H:=lN xs j I;have L:=Bc xs j I;have G:=V.out _ H;obtain⟨b,o,rfl,d,U,c0,c1,c2,c3,c4,c5,c6,c7⟩:=(W.out.below A.out).cells T;obtain⟨y,hy⟩:∃y,xs.getD j bC=y:=⟨_,rfl⟩
   rw[hy]at L H G U c0 c1 c2 c3 c4 c5 c6 c7;rw[Nat.mul_comm]at c0 c1 c2 c3 c4 c5 c6 c7;have D:=lZ y.m y.p y.c wr G.1 G.2 (X.out.below A.out);unfold cP at D;obtain⟨r,M⟩:∃r,bD y.m=r:=⟨_,rfl⟩
   rw[M]at D;have Y:=Qh L;have R:=Qh M;have Z:=Qh H;have N:=Qh D;have l:(j:Int)<(n:Int):=by omega
   clear L d hy D M H I G U
   cases r with
   |true=>
    go_wp2_with fail
    refine N.out.mono ?_;rintro e f ⟨rfl,B⟩;have J:=Qh (A.out.trans (B.mono A.out.size));clear B c0 c1 c2 c3 c4 c5 c6 c7;go_wp2;go_roundw
    case rel=>exact⟨j+1,by omega,by go_num,Qh (fun x hx=>by
     rw[Y.out,List.mem_append]at hx;rcases hx with hx|hx
     ·exact hA.out x hx
     ·rw[List.mem_singleton.1 hx];exact R.out),J⟩
    case measure=>simp[RowKit.intOf];omega
   |false=>
    go_wp2_with fail
    refine N.out.mono ?_;rintro e f ⟨rfl,B⟩;have J:=Qh (A.out.trans (B.mono A.out.size))
    have E:Hid (Gn xs=false):=Qh (by
     rw[Bool.eq_false_iff];intro h;have:=sj.1 h _ Z.out;rw[R.out]at this
     cases this)
    clear B c0 c1 c2 c3 c4 c5 c6 c7;go_wp2;go_ret;exact⟨(j:Int),rfl,by rw[E.out];simp,J.out⟩
  ·have q:¬((j:Int)<(n:Int)):=by omega
   have E:Hid (Gn xs=true):=Qh (sj.2 (fun x hx=>hA.out x (by rw[List.take_of_length_le (by rw[O.out];omega)];exact hx)));go_wp2;go_ret;exact⟨-1,rfl,by rw[E.out];decide,A.out⟩
theorem iE (p:Option Addr) (n c:Nat) (xs:List MP) (w:World) (h:cN w p n xs) (hn:n≤100000) (hF:Fit xs) (hN:Need w):
 Calls Tryz.prog 50 #[.slice p n c,.func (.func 51) #[] #[]] w fun e w'=>e=.returned (.bool (!Gn xs))∧Below w.heap.size w w':=by
 have D:=Qh (pR p n c xs w h hn hF hN);clear h hF hN
 go_enter Tryz.func50,Tryz.ntmps50
 go_wp2_with fail
 refine D.out.mono ?_;rintro e E ⟨k,rfl,hk,A⟩;have B:=Qh A;clear A;go_wp2;go_ret;exact⟨by first|rw[hk]|rfl,B.out⟩
structure vw (w:World) (g:Nat) (xs:List MP) (j:Nat) (wr:World):Prop where
 qW:∃v,rH wr g w.heap.size v (cA ((xs.take j).map MP.m))
 bel:Below w.heap.size w wr
theorem vw.below {wr:World} {j:Nat} (h:vw w g xs j wr) (hb:Below wr.heap.size wr w'):vw w g xs j w':=by
 obtain⟨v,A⟩:=h.qW;exact⟨⟨v,A.kept (Kept.aR hb ag) id (fun _ _=>id)⟩,h.bel.trans (hb.mono h.bel.size)⟩
theorem I9 (p:Option Addr) (n c:Nat) (xs:List MP) (w:World) (h:cN w p n xs) (hn:n≤4096) (hA:∀x∈xs,bD x.m=true) (hN:Need w):
 Calls Tryz.prog 23 #[.slice p n c] w (vx w (vF (xs.map MP.m))):=by
 have H:∀x∈xs,dd x.m:=fun x A=>eF (hA x A)
 have Z:=iE p n c xs w h (by omega) (fun x A=>⟨by have:=(H x A).tN;omega,by have:=(H x A).xk;omega⟩) hN;rw[sj.2 hA]at Z
 have hlen:∀j,(cA ((xs.take j).map MP.m)).length≤12288000000:=fun j=>by
  have:=qP ((xs.take j).map MP.m) (fun m hm=>by
   obtain⟨x,A,rfl⟩:=List.mem_map.1 hm
   exact H x (List.mem_of_mem_take A))
  rw[Qi,Qg]at this;have h1:=h.1;omega
 have hm:¬(4096:Int)<(n:Int):=by omega
 have HC:=Qh Z;have z:=Qh h;have u:=Qh h.1;have PZ:=Qh H;have lg:=Qh hlen;have HN:=Qh hN;clear h hA hN Z H hlen
 go_enter Tryz.func23,Tryz.ntmps23
 go_wp2_with fail
 refine HC.out.mono ?_;rintro e E ⟨rfl,cg⟩;have X:=Qh cg;clear cg;go_wp2_with fail;obtain⟨w2,L⟩:∃w2,E.alloc (.cells #[.slice none 0 0] 105)=w2:=⟨_,rfl⟩
 have rP:rH w2 E.heap.size w.heap.size (.slice none 0 0) []:=by rw[←L];exact Mc E _
 have TX:Below E.heap.size E w2:=by rw[←L];exact(Below.refl _ _).alloc (Qk _) _
 have S2:Hid (vw w E.heap.size xs 0 w2):=Qh ⟨⟨_,by simpa [cA]using rP⟩,X.out.trans (TX.mono X.out.size)⟩;have l:Hid (w.heap.size≤E.heap.size):=Qh X.out.size;obtain⟨g,hg⟩:∃g,E.heap.size=g:=⟨_,rfl⟩
 rw[hg]at S2 l⊢;rw[L];clear rP TX L hg
 go_loopw [6,15] (fun _ i wr=>∃(j:Nat),j≤n∧i=.int .i64 (j:Int)∧Hid (vw w g xs j wr)) (fun _ i _=>n - (RowKit.intOf i).toNat)
 case atStart=>exact⟨0,Nat.zero_le _,rfl,S2⟩
 case round=>
  obtain⟨j,hj,rfl,G⟩:=hrel
  by_cases V:j<n
  ·have M:j<xs.length:=by rw[u.out];exact V
   have T:=PZ.out _ (lN xs j M);have d:=uw xs j M;obtain⟨b,o,rfl,hb,q,c0,c1,c2,c3,c4,c5,c6,c7⟩:=(z.out.below G.out.bel).cells V
   have t:∀x,0<(xs.getD j bC).m.body.length→(xs.getD j bC).p=some x→x.block<w.heap.size:=fun x Y A=>by
    obtain⟨b',o',he,j6,_⟩:=(z.out.cells V).choose_spec.choose_spec.2.2.1.ib.cell Y;rw[A]at he
    cases he
    exact j6
   obtain⟨y,hy⟩:∃y,xs.getD j bC=y:=⟨_,rfl⟩
   rw[hy]at d T q c0 c1 c2 c3 c4 c5 c6 c7 t;rw[Nat.mul_comm]at c0 c1 c2 c3 c4 c5 c6 c7;obtain⟨W,f⟩:∃W,wr.alloc (.cells #[.string (str y.m.path),.string (str y.m.target),.int .u8 (y.m.kind.toNat:Int),.int .i64 y.m.mode,.int .i64 y.m.uid,.int .i64 y.m.gid,.int .i64 y.m.time,.slice y.p y.m.body.length y.c] 48)=W:=⟨_,rfl⟩
   have R:Below wr.heap.size wr W:=by rw[←f];exact(Below.refl _ _).alloc (Qk _) _
   have I:=G.out.below R;obtain⟨v,D⟩:=I.qW
   have U:=yh W g w.heap.size v _ D I.bel.size y.m y.p y.c T (q.ib.below R) (fun Y x A e=>by
    have h1:=t x Y A;have h2:=(D.own.lt _ e).1
    omega) (by have:=lg.out j;omega) (HN.out.below I.bel)
   unfold cP at U;have Sf:=Qh U;have HT:=Qh d;have B:=Qh f;have Zq:=Qh I;have N:=Qh D;have kh:(j:Int)<(n:Int):=by omega
   clear d hb hy U M f R I D t q T;go_upto_region 9 with fail;rw[B.out];have m0:W.cell? ⟨wr.heap.size,0,none⟩=some (.string (str y.m.path)):=by rw[←B.out];exact(ao.new wr _ _).cell 0
   have m1:W.cell? ⟨wr.heap.size,1,none⟩=some (.string (str y.m.target)):=by rw[←B.out];exact(ao.new wr _ _).cell 1
   have m2:W.cell? ⟨wr.heap.size,2,none⟩=some (.int .u8 (y.m.kind.toNat:Int)):=by rw[←B.out];exact(ao.new wr _ _).cell 2
   have m3:W.cell? ⟨wr.heap.size,3,none⟩=some (.int .i64 y.m.mode):=by rw[←B.out];exact(ao.new wr _ _).cell 3
   have m4:W.cell? ⟨wr.heap.size,4,none⟩=some (.int .i64 y.m.uid):=by rw[←B.out];exact(ao.new wr _ _).cell 4
   have m5:W.cell? ⟨wr.heap.size,5,none⟩=some (.int .i64 y.m.gid):=by rw[←B.out];exact(ao.new wr _ _).cell 5
   have m6:W.cell? ⟨wr.heap.size,6,none⟩=some (.int .i64 y.m.time):=by rw[←B.out];exact(ao.new wr _ _).cell 6
   have m7:W.cell? ⟨wr.heap.size,7,none⟩=some (.slice y.p y.m.body.length y.c):=by rw[←B.out];exact(ao.new wr _ _).cell 7
   go_wp2_with fail
   refine Sf.out.mono ?_;rintro e w3 ⟨v3,rfl,uS,dv,MS⟩
   have Eg:Hid (vw w g xs (j+1) w3):=Qh ⟨⟨v3,by
    have e:cA ((xs.take (j+1)).map MP.m)=cA ((xs.take j).map MP.m)++fY y.m:=by
     rw[HT.out,AJ,fS];simp[cA]
    rw[e]
    exact uS⟩,Zq.out.bel.trans (dv.below Zq.out.bel.size (fun k hk=>by
     rcases hk with hk|hk
     ·rw[hk];exact l.out
     ·exact(N.out.own.lt _ hk).1))⟩
   clear uS dv MS m0 m1 m2 m3 m4 m5 m6 m7 c0 c1 c2 c3 c4 c5 c6 c7;go_wp2;go_roundw
   case rel=>exact⟨j+1,by omega,by go_num,Eg⟩
   case measure=>simp[RowKit.intOf];omega
  ·have nj:¬((j:Int)<(n:Int)):=by omega
   have e:xs.take j=xs:=List.take_of_length_le (by rw[u.out];omega);obtain⟨v,D⟩:=G.out.qW;have hl:=lg.out j;rw[e]at D hl;have HE:=Qh (xM wr g w.heap.size v _ D G.out.bel.size (by omega));have N:=Qh D;have Jz:=Qh hl;clear D hl e;go_wp2_with fail;refine HE.out.mono ?_;rintro e w4 ⟨v4,rfl,O,lP,_⟩;rw[←lH]at O
   have r:Hid (Below w.heap.size w w4):=Qh (G.out.bel.trans (lP.below G.out.bel.size (fun k hk=>by
    rcases hk with hk|hk
    ·rw[hk];exact l.out
    ·exact(N.out.own.lt _ hk).1)))
   have HO:=Qh (Ow w4 g w.heap.size v4 _ O (by rw[lH,Qf,List.length_replicate];have:=Jz.out;omega));clear O lP;go_wp2_with fail;refine HO.out.mono ?_;rintro e w5 ⟨v5,rfl,J,ik⟩;have yR:Hid (eY w5 w.heap.size v5 (vF (xs.map MP.m)).length (vF (xs.map MP.m))∧Below w.heap.size w w5):=Qh ⟨J.mono r.out.size,r.out.trans (ik.below r.out.size (fun _ h=>h.elim))⟩;clear J ik;go_wp2;go_ret2;exact⟨v5,rfl,yR.out⟩
end Wr
namespace Attr
open Go.ChangeShapes Go.WideShapes Go.ChangeAt Go.RowKit Go.Shelf Base bM cr Rec Bk Go.Lib
attribute [local go_sem] Oper.semAt_some
abbrev Qv:=Nat × (List UInt8 × List UInt8)
def encI (x:Qv):Array Value:=#[.int .i64 (x.1:Int),.agg #[.string (str x.2.1),.string (str x.2.2)]]
def cO (rs:ca) (m:Nat):List Qv:=(List.range m).map fun t=>(rs.length - 1 - t,rs.getD (rs.length - 1 - t) ([],[]))
theorem zo (rs:ca) (m:Nat):cO rs (m+1)=cO rs m++[(rs.length - 1 - m,rs.getD (rs.length - 1 - m) ([],[]))]:=by simp[cO,List.range_succ]
theorem uJ (rs:ca) (m:Nat):(cO rs m).length=m:=by simp[cO]
theorem sr (rs:ca):(cO rs rs.length).map (·.2)=rs.reverse:=by
 apply List.ext_getElem
 ·simp[cO]
 ·intro i h1 A
  have hi:i<rs.length:=by simpa using A
  simp[cO,List.getD,show rs.length - 1 - i<rs.length by omega]
theorem Ca (rs:ca) (m:Nat) (hm:m≤rs.length):cO rs m<+:cO rs rs.length:=by
 refine⟨(cO rs rs.length).drop m,?_⟩
 have:cO rs m=(cO rs rs.length).take m:=by
  simp[cO,←List.map_take,List.take_range,Nat.min_eq_left hm]
 rw[this,List.take_append_drop]
theorem Nv (F:Fence) (n:Nat) (hF:F=Fence.wide) (hn:1≤n) (l Bs n₀:Nat) (p:Option Addr) (c:Nat) (rs:ca) (CW:rs.length≤4611686018427387904) (J Jx:List Qv→World→Prop)
 (hY:∀pre x W,J pre W→pre.length<rs.length→YieldAt F (n - 1) Tryz.prog l (encI x) W fun e W'=>
  (e=.returned (.bool true)∧J (pre++[x]) W'∧Below n₀ W W')∨(e=.returned (.bool false)∧Jx (pre++[x]) W'))
 (W:World) (QM:Bs<n₀) (VG:W.cell? ⟨Bs,0,none⟩=some (.slice p rs.length c))
 (hR:0<rs.length→∃b o,p=some ⟨b,o,none⟩∧b<n₀∧∀i,i<rs.length→W.cell? ⟨b,o+2*i,none⟩=some (.string (str (rs.getD i ([],[])).1))∧W.cell? ⟨b,o+2*i+1,none⟩=some (.string (str (rs.getD i ([],[])).2))) (h0:J [] W):
 CallsIn F n Tryz.prog 229 #[.func (.yield l) #[] #[],.pointer (some ⟨Bs,0,none⟩)] W fun e W'=>(∃v,e=.returned v)∧
  ((∃ys,ys=cO rs rs.length∧J ys W')∨(∃pre,pre<+:cO rs rs.length∧Jx pre W')):=by
 subst hF;obtain⟨N,H⟩:∃N,rs.length=N:=⟨_,rfl⟩
 rw[H]at VG CW;refine callsIn_of_wp Tryz.func229 rfl trivial ?_ rfl;simp only[Tryz.ntmps229,List.size_toArray,List.length_cons,List.length_nil,Nat.reduceAdd,Nat.reduceSub,Array.replicate_succ,Array.replicate_zero,List.push_toArray,List.append_toArray,List.nil_append,List.cons_append]
 gi_wp2
 gi_loopw [3] (fun i wr=>∃k:Nat,k≤N∧i=.int .i64 ((k:Int) - 1)∧J (cO rs (N - k)) wr∧Below n₀ W wr)
  (fun i _=>(RowKit.intOf i+1).toNat)
 case atStart=>exact⟨N,Qk _,rfl,by rw[Nat.sub_self];exact h0,Below.refl _ _⟩
 case round=>
  obtain⟨k,hk,rfl,B,A⟩:=hrel
  cases k with
  |zero=>
   have D:J (cO rs rs.length) wr:=by rw[H];exact B
   clear B hY
   gi_wp2
   go_end0
   exact⟨⟨_,rfl⟩,.inl ⟨_,rfl,D⟩⟩
  |succ j=>
   rw[show(((j+1:Nat):Int) - 1)=(j:Int) by omega];obtain⟨b,o,rfl,I,hc⟩:=hR (by omega);obtain⟨c0,c1⟩:=hc j (by omega);have V:=(A.cell (p:=⟨Bs,0,none⟩) QM).trans VG;have d0:=(A.cell (p:=⟨b,o+2*j,none⟩) I).trans c0;have d1:=(A.cell (p:=⟨b,o+2*j+1,none⟩) I).trans c1;rw[Nat.mul_comm]at d0 d1;obtain⟨r,E⟩:∃r,rs.getD j ([],[])=r:=⟨_,rfl⟩
   rw[E]at d0 d1
   have hs:cO rs (N - j)=cO rs (N - (j+1))++[(j,r)]:=by
    have:N - j=N - (j+1)+1:=by omega
    rw[this,zo,show rs.length - 1 - (N - (j+1))=j by omega,E]
   obtain⟨fn,tmps,assign,body,hy,G⟩:=hY (cO rs (N - (j+1))) (j,r) wr B (by rw[uJ];omega);simp only[encI]at hy;have U:=Qh hs;have L:=Ca rs (N - j) (by omega);have M:=Qh L;rw[←hs]at G;clear hs hY hR B c0 c1 hc L VG E
   gi_wp2
   refine G.mono ?_;rintro e X (⟨rfl,R,T⟩|⟨rfl,O⟩)
   ·gi_wp2
    go_roundw
    case rel=>exact⟨j,by omega,rfl,R,A.trans T⟩
    case measure=>simp[RowKit.intOf]
   ·gi_wp2
    refine bodyPost_ret (results_none rfl _ _ _) rfl ?_;exact⟨⟨_,rfl⟩,.inr ⟨_,M.out,O⟩⟩
theorem Cb (n:Nat) (hn:1≤n) (Bs:Nat) (p:Option Addr) (c:Nat) (rs:ca) (CW:rs.length≤4611686018427387904) (w:World) (QM:Bs<w.heap.size) (hc:w.cell? ⟨Bs,0,none⟩=some (.slice p rs.length c)) (hR:cf w p rs.length rs):
 SeqStopsK Fence.wide n Tryz.prog 229 #[.pointer (some ⟨Bs,0,none⟩)] encI (Below w.heap.size) (fun ys=>ys=cO rs rs.length) (fun pre=>pre<+:cO rs rs.length) rs.length w:=fun l J E W B _ _ G A=>
 Nv Fence.wide n rfl hn l Bs w.heap.size p c rs CW J E G W QM ((B.cell (p:=⟨Bs,0,none⟩) QM).trans hc)
  (fun A=>by
   obtain⟨b,o,H,D,hc⟩:=hR.2 A
   exact⟨b,o,H,D,fun i hi=>⟨(B.cell (p:=⟨b,o+2*i,none⟩) D).trans (hc i hi).1,(B.cell (p:=⟨b,o+2*i+1,none⟩) D).trans (hc i hi).2⟩⟩) A
theorem xE (p:Option Addr) (n c:Nat) (w:World):
 Calls Tryz.prog 209 #[.slice p n c] w fun e w'=>e=.returned (.func (.func 229) #[] #[.pointer (some ⟨w.heap.size,0,none⟩)])∧w'=w.alloc (.cells #[.slice p n c] 64):=by
 go_enter Tryz.func209,Tryz.ntmps209
 go_wp2;go_ret;exact⟨rfl,rfl⟩
end Attr
namespace Attr
open Go.ChangeShapes Go.WideShapes Go.ChangeAt Go.RowKit Go.Shelf Base bM cr Rec Bk Go.Lib
attribute [local go_sem] Oper.semAt_some
def recC (k v:List UInt8):Array Value:=#[.string (str k),.string (str v)]
def oO (rs:ca) (k:List UInt8):Value:=match aG rs k with
 |some v=>.tuple #[.agg (recC k v),.bool true]
 |none=>.tuple #[.agg (recC [] []),.bool false]
theorem Hl {rs pre:ca} {x:List UInt8 × List UInt8} {rest:ca} {k:List UInt8} (h:rs.reverse=pre++x::rest) (hp:∀r∈pre,r.1≠k) (hx:x.1=k):aG rs k=some x.2:=by
 have e:rs=rest.reverse++x::pre.reverse:=by
  have:=congrArg List.reverse h;rw[List.reverse_reverse,List.reverse_append,List.reverse_cons,List.append_assoc]at this;exact this
 rw[e,mP,aG,tj (rs:=pre.reverse) fun r A=>hp r (List.mem_reverse.1 A)];simp[hx]
theorem Fz (tmps:Array Value) (w:World) (b0 b1:Nat) (a b:ByteArray) (o:Bool) (h0:tmps[4]? =some (.pointer (some ⟨b0,0,none⟩))) (h1:tmps[5]? =some (.pointer (some ⟨b1,0,none⟩)))
 (c0:ao w b0 121 #[.string a,.string b]) (c1:ao w b1 4 #[.bool o]):
 (results Tryz.f182 tmps).run Tryz.prog w=.ok (.tuple #[.agg #[.string a,.string b],.bool o]) w:=by
 have d0:=c0.cell 0;have d1:=c0.cell 1;have d2:=c1.cell 0;simp at d0 d1 d2;simp[results,Tryz.f182,go_sem,h0,h1,d0,d1,d2]
theorem Lb (k:List UInt8) (p:Option Addr) (n c:Nat) (rs:ca) (w:World) (hn:n≤4611686018427387904) (h:cf w p n rs):
 Calls Tryz.prog 182 #[.string (str k),.slice p n c] w fun e w'=>e=.returned (oO rs k)∧Below w.heap.size w w':=by
 obtain rfl:rs.length=n:=h.1;have H:=Qh h;clear h;refine(callsIn_wide (n:=3)).1 ?_;refine callsIn_of_wp_marks Tryz.func182 rfl trivial ?_ rfl;simp only[Tryz.ntmps182,List.size_toArray,List.length_cons,List.length_nil,Nat.reduceAdd,Nat.reduceSub,Array.replicate_succ,Array.replicate_zero,List.push_toArray,List.append_toArray,List.nil_append,List.cons_append]
 gi_wp2_with fail
 refine⟨trivial,(callsIn_wide.2 (xE _ _ _ _)).mono ?_⟩;rintro e w' ⟨rfl,rfl⟩
 gi_wp2_with fail
 have g:ao _ w.heap.size 9 #[.string (str k)]:=(((ao.new w 9 #[.string (str k)]).alloc (.cells #[.string ⟨#[]⟩,.string ⟨#[]⟩] 121)).alloc (.cells #[.bool false] 4)).alloc (.cells #[.slice p rs.length c] 64);have Z:=((ao.new (w.alloc (.cells #[.string (str k)] 9)) 121 #[.string ⟨#[]⟩,.string ⟨#[]⟩]).alloc (.cells #[.bool false] 4)).alloc (.cells #[.slice p rs.length c] 64);have V:=(ao.new ((w.alloc (.cells #[.string (str k)] 9)).alloc (.cells #[.string ⟨#[]⟩,.string ⟨#[]⟩] 121)) 4 #[.bool false]).alloc (.cells #[.slice p rs.length c] 64);have b:=ao.new (((w.alloc (.cells #[.string (str k)] 9)).alloc (.cells #[.string ⟨#[]⟩,.string ⟨#[]⟩] 121)).alloc (.cells #[.bool false] 4)) 64 #[.slice p rs.length c]
 have o:Below w.heap.size w ((((w.alloc (.cells #[.string (str k)] 9)).alloc (.cells #[.string ⟨#[]⟩,.string ⟨#[]⟩] 121)).alloc (.cells #[.bool false] 4)).alloc (.cells #[.slice p rs.length c] 64)):=
  ((((Below.refl _ w).alloc (Qk _) _).alloc (by simp) _).alloc (by simp;omega) _).alloc (by simp;omega) _
 have m:((((w.alloc (.cells #[.string (str k)] 9)).alloc (.cells #[.string ⟨#[]⟩,.string ⟨#[]⟩] 121)).alloc (.cells #[.bool false] 4)).alloc (.cells #[.slice p rs.length c] 64)).heap.size=w.heap.size+4:=by simp
 simp only[World.size_alloc]at Z V b;obtain⟨W0,sN⟩:∃W0,(((w.alloc (.cells #[.string (str k)] 9)).alloc (.cells #[.string ⟨#[]⟩,.string ⟨#[]⟩] 121)).alloc (.cells #[.bool false] 4)).alloc (.cells #[.slice p rs.length c] 64)=W0:=⟨_,rfl⟩
 rw[sN]at g Z V b o m⊢;clear sN;have u:=Qh m;have ir:=Qh o;have q:=H.out.below o
 refine wpIn_rangeFunc_ownH rfl (by omega) (gf:=229) (lb:=#[.pointer (some ⟨w.heap.size+1+1+1,0,none⟩)]) rfl trivial (enters_of Tryz.func229 (by kernel_rfl) rfl)
  (Cb _ (by omega) (w.heap.size+1+1+1) p c rs hn W0 (by omega) (b.cell 0) q) belowK_t (belowK_b (Qk _)) (Below.refl _ _) (fun _=>rfl)
  (fun pre W=>(ao W w.heap.size 9 #[.string (str k)]∧ao W (w.heap.size+1) 121 #[.string ⟨#[]⟩,.string ⟨#[]⟩]∧ao W (w.heap.size+1+1) 4 #[.bool false]∧∀x∈pre,x.2.1≠k)∧Below W0.heap.size W0 W)
  (fun c pre W=>(c=.ret∧∃f x,pre=f++[x]∧(∀y∈f,y.2.1≠k)∧x.2.1=k∧ao W (w.heap.size+1) 121 #[.string (str x.2.1),.string (str x.2.2)]∧ao W (w.heap.size+1+1) 4 #[.bool true])∧Below w.heap.size w W)
  (OwnFrom.and (Own.from (fun s A B row hs R M=>⟨hs.1.kept R M,hs.2.1.kept R M,hs.2.2.1.kept R M,hs.2.2.2⟩) _) (ownFrom_below (Qk _) (Qk _)))
  (fun c=>OwnFrom.and (Own.from (fun s A B row hs R M=>by obtain⟨h0,f,x,h1,d,h3,h4,h5⟩:=hs;exact⟨h0,f,x,h1,d,h3,h4.kept R M,h5.kept R M⟩) _) (ownFrom_below (Qk _) (by omega)))
  ⟨⟨g,Z,V,by simp⟩,Below.refl _ _⟩
  (fun x a' W=>∃U,W0.heap.size≤U∧ao W U 121 #[.string (str x.2.1),.string (str x.2.2)]∧a'={tmps:=#[.string (str k),.slice p rs.length c,.pointer (some ⟨w.heap.size,0,none⟩),undef,.pointer (some ⟨w.heap.size+1,0,none⟩),.pointer (some ⟨w.heap.size+1+1,0,none⟩),undef,.pointer (some ⟨U,0,none⟩),.slice p rs.length c,.func (.func 229) #[] #[.pointer (some ⟨w.heap.size+1+1+1,0,none⟩)],.int .i64 (x.1:Int),.agg #[.string (str x.2.1),.string (str x.2.2)],undef,undef,undef,undef,undef,undef],defers:=[]})
  (fun x a' _ X Y row hs R M=>by obtain⟨U,h1,d,h3⟩:=hs;exact⟨U,h1,d.kept R (fun r e=>(M r e).2),h3⟩)
  ?assign ?body ?done ?stop
 case assign=>
  rintro l pre x W K ⟨⟨L,E,G,J⟩,I⟩ O;have hs:=I.size;have HKP:=Qh O;have N:=Qh (And.intro (And.intro L (And.intro E (And.intro G J))) I);clear O L E G J I;simp only[encI]
  gi_wp2
  obtain⟨⟨L,E,G,J⟩,I⟩:=N.out;exact HKP.out _ _ ((KeepsOthers.alloc _ _).from _) ((Below.refl _ W).alloc hs _) ⟨⟨L.alloc _,E.alloc _,G.alloc _,J⟩,I.alloc hs _⟩ ⟨W.heap.size,hs,ao.new _ _ _,rfl⟩
 case body=>
  rintro l pre x a' W hl M ⟨⟨L,E,G,J⟩,I⟩ ⟨U,hBx,t,rfl⟩ ax;have hs:=I.size;have c0:=L.cell 0;have d0:=t.cell 0;have d1:=t.cell 1;simp only[Qc,Qa,Qb]at c0 d0 d1
  by_cases hk:x.2.1=k
  ·have e1:((str x.2.1).toList==(str k).toList)=true:=by rw[av,av];simpa using hk
   have f0:=E.frozen 0;have f1:=E.frozen 1;have r0:=E.cell 0;have r1:=E.cell 1;have f2:=G.frozen 0;have r2:=G.cell 0;simp only[Qc,Qa,Qb]at r0 r1 r2;have N:=Qh (And.intro (And.intro L (And.intro E (And.intro G J))) I);have T:=Qh hk;clear hk L E G J I t q g Z V b o
   gi_wp2
   obtain⟨⟨L,E,G,J⟩,I⟩:=N.out;have Ks:Below w.heap.size w W:=ir.out.trans (I.mono (by have:=u.out;omega))
   exact⟨(((KeepsOthers.setCell _ _ _).trans (KeepsOthers.setCell _ _ _)).trans (KeepsOthers.setCell _ _ _)).from _,
    ⟨rfl,pre,x,rfl,J,T.out,((E.set 0 _ (by decide)).set 1 _ (by simp)).other (by omega) _,((G.other (by omega) _).other (by omega) _).set 0 _ (by decide)⟩,
    ((Ks.setCell (p:=⟨w.heap.size+1,0,none⟩) (by simp) _).setCell (p:=⟨w.heap.size+1,1,none⟩) (by simp) _).setCell (p:=⟨w.heap.size+1+1,0,none⟩) (by simp;omega) _⟩
  ·have e1:((str x.2.1).toList==(str k).toList)=false:=by rw[av,av];simpa using hk
   have N:=Qh (And.intro (And.intro L (And.intro E (And.intro G J))) I);have T:=Qh hk;clear hk L E G J I t q g Z V b o
   gi_wp2
   obtain⟨⟨L,E,G,J⟩,I⟩:=N.out
   exact⟨KeepsFrom.refl _ _,Below.refl _ _,⟨L,E,G,fun y hy=>by
    rcases List.mem_append.1 hy with hy|hy
    ·exact J y hy
    ·rw[List.mem_singleton.1 hy];exact T.out⟩,I⟩
 case done=>
  rintro D ys W hD rfl ⟨⟨L,E,G,J⟩,I⟩ O;have f0:=E.frozen 0;have f1:=E.frozen 1;have r0:=E.cell 0;have r1:=E.cell 1;have f2:=G.frozen 0;have r2:=G.cell 0;simp only[Qc,Qa,Qb]at r0 r1 r2;have N:=Qh (And.intro (And.intro L (And.intro E (And.intro G J))) I);have T:=Qh O;clear O L E G J I q g Z V b
  gi_wp2
  obtain⟨⟨L,E,G,J⟩,I⟩:=N.out;have Ks:Below w.heap.size w W:=ir.out.trans (I.mono (by have:=u.out;omega));have hK':=(((KeepsOthers.setCell W ⟨w.heap.size+1,0,none⟩ (.string ⟨#[]⟩)).trans (KeepsOthers.setCell _ ⟨w.heap.size+1,1,none⟩ (.string ⟨#[]⟩))).trans (KeepsOthers.setCell _ ⟨w.heap.size+1+1,0,none⟩ (.bool false))).same D _ T.out rfl;refine⟨by simp,.inl ⟨_,_,rfl,run_takeDeferred hK',?_⟩⟩;have k0:=(((E.set 0 (.string ⟨#[]⟩) (by decide)).set 1 (.string ⟨#[]⟩) (by decide)).other (b':=w.heap.size+1+1) (i:=0) (by omega) (.bool false)).kept (grownBy_putObj' _ D (.deferred none)) (fun r e=>by cases e;exact⟨_,hK',rfl⟩);have k1:=(((G.other (b':=w.heap.size+1) (i:=0) (by omega) (.string ⟨#[]⟩)).other (b':=w.heap.size+1) (i:=1) (by omega) (.string ⟨#[]⟩)).set 0 (.bool false) (by decide)).kept (grownBy_putObj' _ D (.deferred none)) (fun r e=>by cases e;exact⟨_,hK',rfl⟩)
  have hv:oO rs k=.tuple #[.agg #[.string ⟨#[]⟩,.string ⟨#[]⟩],.bool false]:=by
   unfold oO;rw[tj fun r M=>?_]
   ·rfl
   ·have:r∈(cO rs rs.length).map (·.2):=by rw[sr];exact List.mem_reverse.2 M
    obtain⟨y,hy,rfl⟩:=List.mem_map.1 this;exact J y hy
  rw[hv]
  exact⟨_,Fz _ _ (w.heap.size+1) (w.heap.size+1+1) ⟨#[]⟩ ⟨#[]⟩ false rfl rfl k0 k1,rfl,
   (((Ks.setCell (p:=⟨w.heap.size+1,0,none⟩) (by simp) _).setCell (p:=⟨w.heap.size+1,1,none⟩) (by simp) _).setCell (p:=⟨w.heap.size+1+1,0,none⟩) (by simp;omega) _).trans (belowK_b (w:=w) (Qk _) _ D _ _ (by have:=u.out;omega) hK' rfl rfl)⟩
 case stop=>
  rintro D c pre W hD Rl ⟨⟨rfl,f,x,rfl,h1,d,E,G⟩,z⟩ O;have N:=Qh (And.intro E (And.intro G z));have T:=Qh O;clear E G z O
  gi_wp2
  obtain⟨E,G,z⟩:=N.out;have hK':=T.out;refine⟨by simp,.inl ⟨_,_,rfl,run_takeDeferred hK',?_⟩⟩;have k0:=E.kept (grownBy_putObj' _ D (.deferred none)) (fun r e=>by cases e;exact⟨_,hK',rfl⟩);have k1:=G.kept (grownBy_putObj' _ D (.deferred none)) (fun r e=>by cases e;exact⟨_,hK',rfl⟩)
  have hv:oO rs k=.tuple #[.agg #[.string (str x.2.1),.string (str x.2.2)],.bool true]:=by
   obtain⟨rest,lS⟩:=Rl;have e:=sr rs;rw[←lS,List.map_append,List.map_append,List.map_singleton,List.append_assoc,List.singleton_append]at e;unfold oO;rw[Hl e.symm (fun r M=>by obtain⟨y,hy,rfl⟩:=List.mem_map.1 M;exact h1 y hy) d,←d];rfl
  rw[hv];exact⟨_,Fz _ _ (w.heap.size+1) (w.heap.size+1+1) _ _ true rfl rfl k0 k1,rfl,z.trans (belowK_b (w:=w) (Qk _) _ D _ _ (by have:=u.out;omega) hK' rfl rfl)⟩
end Attr
namespace Attr
open Go.ChangeShapes Go.WideShapes Go.ChangeAt Go.RowKit Go.Shelf Base bM cr Rec Bk Mk Go.Lib
variable {S:Nat→Prop} {rs:ca}
abbrev r9:=List UInt8→Option (List UInt8)
def AV (F:r9):List UInt8→Option Value:=fun k=>(F k).map fun v=>.agg (recC k v)
def St (w:World) (g:Nat) (mb:Option Nat) (F:r9):Prop:=
 ao w g 128 #[.map mb]∧(mb=none→F=oY)∧∀B,mb=some B→cH im w B (AV F)
def O6 (w:World) (p:Option Addr) (F:r9):Prop:=(p=none∧F=oY)∨∃g mb,p=some ⟨g,0,none⟩∧St w g mb F
def vm (g:Nat) (mb:Option Nat):Nat→Prop:=fun k=>k=g∨mb=some k
section
variable {w w':World} {g:Nat} {mb:Option Nat} {F:r9} {p:Option Addr}
theorem St.lt (h:St w g mb F):g<w.heap.size:=h.1.lt
theorem St.dx (h:St w g mb F) (hB:mb=some B):B<w.heap.size:=(h.2.2 B hB).lt
theorem St.kept (h:St w g mb F) (hk:Kept S w w') (hn:∀k,vm g mb k→¬S k):St w' g mb F:=
 ⟨h.1.bZ hk (hn g (.inl rfl)),h.2.1,fun B A=>(h.2.2 B A).kept hk (hn B (.inr A))⟩
theorem St.below (h:St w g mb F) (hb:Below w.heap.size w w'):St w' g mb F:=h.kept (Kept.aR hb ag) (fun _ _=>id)
theorem O6.below (h:O6 w p F) (hb:Below w.heap.size w w'):O6 w' p F:=h.imp id fun⟨g,mb,hp,hs⟩=>⟨g,mb,hp,hs.below hb⟩
theorem St.new (w:World):St (w.alloc (.cells #[.map none] 128)) w.heap.size none oY:=⟨ao.new w _ _,fun _=>rfl,fun _ h=>by cases h⟩
theorem St.ptr (h:St w g mb F):O6 w (some ⟨g,0,none⟩) F:=.inr ⟨g,mb,rfl,h⟩
theorem O6.nil (w:World):O6 w none oY:=.inl ⟨rfl,rfl⟩
theorem ph {p:Option Addr} (h:St w g mb F) (hr:cf w p n rs) (h0:0<n) {a:Addr} (ha:p=some a):¬vm g mb a.block:=by
 obtain⟨b,o,rfl,A,hc⟩:=hr.2 h0
 cases ha
 have c0:=(hc 0 h0).1;rintro(e|e)
 ·subst e
  rw[h.1.cell]at c0;rcases Nat.eq_zero_or_pos o with rfl|ho
  ·simp at c0
  ·rw[Array.getElem?_eq_none (by simp;omega)]at c0;cases c0
 ·obtain⟨es,clock,hm,_⟩:=h.2.2 _ e
  simp[World.cell?,hm]at c0
theorem dr {p:Option Addr} (hr:cf w p n rs) (hk:Kept S w w') (hn:0<n→∀a,p=some a→¬S a.block):cf w' p n rs:=by
 refine⟨hr.1,fun A=>?_⟩;obtain⟨b,o,rfl,B,hc⟩:=hr.2 A;have e:=hk.block b B (hn A _ rfl);exact⟨b,o,rfl,Nat.lt_of_lt_of_le B hk.size,fun i hi=>⟨by rw[World.cell?_of_block e];exact(hc i hi).1,by rw[World.cell?_of_block e];exact(hc i hi).2⟩⟩
theorem Fx (w:World):(zeroValue 121).run Tryz.prog w=.ok (.agg #[.string ⟨#[]⟩,.string ⟨#[]⟩]) w:=Tryz.zeroValue121 w
theorem LV (w:World) (a b:ByteArray):(Instr.field 121 (.agg #[.string a,.string b]) 1).run Tryz.prog w=.ok (.string b) w:=by
 kernel_rfl
theorem OL (h:St w g mb F) (k:List UInt8):
 ∃x:ByteArray,(Instr.lookup 126 (.map mb) (.string (str k)) false).run Tryz.prog w=.ok (.agg #[.string x,.string (str ((F k).getD []))]) w:=by
 cases mb with
 |none=>
  refine⟨⟨#[]⟩,?_⟩;rw[h.2.1 rfl];exact look_nil (K:=im) Tryz.underlying126 Tryz.underlying9 Fx k w
 |some B=>
  have hl:=(h.2.2 B rfl).look Tryz.underlying126 Tryz.underlying9 Fx k
  cases hf:F k with
  |none=>
   refine⟨⟨#[]⟩,?_⟩;rw[show AV F k=none by unfold AV;rw[hf];rfl]at hl;exact hl
  |some v=>
   refine⟨str k,?_⟩;rw[show AV F k=some (.agg (recC k v)) by unfold AV;rw[hf];rfl]at hl;exact hl
end
theorem I8 (s:Option Addr) (F:r9) (k:List UInt8) (p:Option Addr) (n c:Nat) (rs:ca) (w:World) (hs:O6 w s F) (hn:n≤4611686018427387904) (h:cf w p n rs):
 Calls Tryz.prog 144 #[.pointer s,.string (str k),.slice p n c] w fun e w'=>e=.returned (.string (str (dZ F rs k)))∧Below w.heap.size w w':=by
 have hl:=Lb k p n c rs w hn h;have H:=Qh hs;clear hs h hn;unfold dZ
 cases D:aG rs k with
 |some v=>
  rw[show oO rs k=.tuple #[.agg #[.string (str k),.string (str v)],.bool true] by unfold oO;rw[D];rfl]at hl;clear D
  go_enter Tryz.func144,Tryz.ntmps144
  go_wp2_with fail
  refine hl.mono ?_;rintro e G ⟨rfl,A⟩;have B:=Qh A;clear A hl;go_wp2;go_ret;exact⟨rfl,B.out.alloc B.out.size _⟩
 |none=>
  rw[show oO rs k=.tuple #[.agg #[.string ⟨#[]⟩,.string ⟨#[]⟩],.bool false] by unfold oO;rw[D];rfl]at hl;clear D;rcases H.out with⟨rfl,rfl⟩|⟨g,mb,rfl,mO⟩
  ·go_enter Tryz.func144,Tryz.ntmps144
   go_wp2_with fail
   refine hl.mono ?_;rintro e G ⟨rfl,A⟩;have B:=Qh A;clear A hl;go_wp2;go_ret;exact⟨rfl,B.out.alloc B.out.size _⟩
  ·have L:=Qh mO
   clear mO
   go_enter Tryz.func144,Tryz.ntmps144
   go_wp2_with fail
   refine hl.mono ?_;rintro e G ⟨rfl,A⟩;have E:=L.out.below (A.alloc A.size (.cells #[.string ⟨#[]⟩,.string ⟨#[]⟩] 121));obtain⟨a,I⟩:=OL E k;have c0:=E.1.cell 0;simp only[Qc,Qa]at c0;have B:=Qh A;have J:=fun w=>LV w a (str ((F k).getD []))
   clear A hl E;go_wp2;go_ret;exact⟨rfl,B.out.alloc B.out.size _⟩
def ob (w:World) (g:Nat) (mb:Option Nat) (F:r9) (rs:ca) (e:Ending) (w':World):Prop:=
 e=.returned (.tuple #[])∧∃B,St w' g (some B) (fQ F rs)∧Kept (vm g mb) w w'∧(mb=some B∨w.heap.size≤B)
theorem wT (F:r9) (rs:ca) (k v:List UInt8):(fun y=>if y=k then some (Value.agg (recC k v))else AV (fQ F rs) y)=AV (fQ F (rs++[(k,v)])):=by
 funext y
 rw[Dp];unfold AV
 by_cases h:y=k
 ·subst h;simp
 ·simp[h]
theorem take_one (rs:ca) (j:Nat) (hj:j<rs.length):rs.take (j+1)=rs.take j++[rs.getD j ([],[])]:=by
 rw[List.take_add_one];simp[List.getD,hj]
theorem St.ne {w:World} {g:Nat} {F:r9} (h:St w g (some B) F):¬aA B g:=fun e=>by
 obtain⟨es,clock,hm,_⟩:=h.2.2 B rfl;have e:g=B:=e;have h1:=h.1;unfold ao at h1;rw[e,hm]at h1
 cases h1
theorem CB (g B:Nat) (F:r9) (p:Option Addr) (n c:Nat) (rs:ca) (w:World) (hs:St w g (some B) F) (hn:n≤4611686018427387904) (h:cf w p n rs):
 Calls Tryz.prog 111 #[.pointer (some ⟨g,0,none⟩),.slice p n c] w (ob w g (some B) F rs):=by
 have l:=Qh hs;have f:=Qh h;have O:=Qh h.1;have c0:=hs.1.cell 0;simp only[Qc,Qa]at c0;have Z:Hid (∀wr,Kept (vm g (some B)) w wr→Kept (vm g (some B)) w wr):=Qh (fun _ h=>h);have q:Hid (some B=some B∨w.heap.size≤B):=Qh (.inl rfl);clear hs h;have R:=fun w=>run_eql_map_nil (P:=Tryz.prog) w 126 _ _ (some B) Tryz.underlying126
 simp only[Option.isNone_some]at R
 go_enter Tryz.func111,Tryz.ntmps111
 go_wp2_with fail
 clear c0 R
 go_loopw [19] (fun i wr=>∃(j:Nat),j≤n∧i=.int .i64 (j:Int)∧Hid (St wr g (some B) (fQ F (rs.take j))∧cf wr p n rs∧Kept (vm g (some B)) w wr)) (fun i _=>n - (RowKit.intOf i).toNat)
 case atStart=>exact⟨0,Nat.zero_le _,rfl,Qh ⟨by rw[List.take_zero,wE];exact l.out,f.out,Kept.refl _ _⟩⟩
 case round=>
  obtain⟨j,hj,rfl,A⟩:=hrel
  by_cases U:j<n
  ·obtain⟨G,E,hk⟩:=A.out
   have z:(j:Int)<(n:Int):=by omega
   obtain⟨b,o,rfl,y,hc⟩:=E.2 (by omega);obtain⟨x0,N⟩:=hc j U;obtain⟨⟨D,H⟩,J⟩:∃u,rs.getD j ([],[])=u:=⟨_,rfl⟩
   rw[J,Nat.mul_comm]at x0 N;simp only at x0 N;have M:=G.below ((Below.refl _ wr).alloc (Qk _) (.cells #[.string (str D),.string (str H)] 121));have T:=E.below ((Below.refl _ wr).alloc (Qk _) (.cells #[.string (str D),.string (str H)] 121));have V:=hk.alloc (.cells #[.string (str D),.string (str H)] 121);have d0:=M.1.cell 0;simp only[Qc,Qa]at d0;obtain⟨r0,r1⟩:=sA wr 121 (.string (str D)) (.string (str H));have I:=Qh (And.intro M (And.intro T V));have m:=Qh J;clear G E hk y hc J M T V A;go_wp2_with fail;obtain⟨w4,X⟩:∃w4,wr.alloc (.cells #[.string (str D),.string (str H)] 121)=w4:=⟨_,rfl⟩
   rw[X]at d0 I r0 r1⊢;clear X x0 N
   go_still_tail 7,(by kernel_rfl)
   refine cR (K:=im) rfl (.tmp 26) (.tmp 28) (.tmp 29) rfl Tryz.underlying126 Tryz.underlying9 B ((I.out.1.2.2 B rfl).kept (Kept.refl ag w4).drew id) rfl D rfl (.agg (recC D H)) rfl ?_;intro w5 Y W qG
   have d:Hid (St w5 g (some B) (fQ F (rs.take (j+1)))∧cf w5 (some ⟨b,o,none⟩) n rs∧Kept (vm g (some B)) w w5):=by
    obtain⟨G,E,hk⟩:=I.out;have L:Kept (aA B) w4 w5:=((Kept.refl (aA B) w4).drew).trans W.out;refine Qh ⟨⟨G.1.bZ L G.ne,(fun h=>by cases h),fun B' h=>?_⟩,dr E L (fun r a t e=>ph G E r t (.inr (by rw[show a.block=B from e]))),hk.then L (fun i hi=>.inr (.inr (by rw[show i=B from hi])))⟩
    cases h
    rw[take_one rs j (by rw[O.out];exact U),m.out,←wT];exact Y.out
   clear Y W qG;go_wp2;go_roundw
   case rel=>exact⟨j+1,by omega,by go_num,d⟩
   case measure=>simp[RowKit.intOf];omega
  ·obtain rfl:j=n:=by omega
   have z:¬((j:Int)<(j:Int)):=by omega
   go_wp2
   go_end0
   have A:=A.out;rw[List.take_of_length_le (by rw[O.out];exact Qk _)]at A;exact⟨rfl,B,A.1,Z.out _ A.2.2,by first|exact q.out|exact .inl rfl⟩
theorem zL (g:Nat) (p:Option Addr) (n c:Nat) (rs:ca) (w:World) (hs:St w g none oY) (hn:n≤4611686018427387904) (h:cf w p n rs):
 Calls Tryz.prog 111 #[.pointer (some ⟨g,0,none⟩),.slice p n c] w (ob w g none oY rs):=by
 have c0:=hs.1.cell 0;simp only[Qc,Qa]at c0;have f0:=hs.1.frozen 0;have f1:=(hs.1.alloc (.map #[] 0)).frozen 0;have c1:=(hs.1.alloc (.map #[] 0)).cell 0;simp only[Qc,Qa]at c1;have yU:=@run_makeMap Tryz.prog;have l:=fun w=>run_eql_map_nil (P:=Tryz.prog) w 126 _ _ none Tryz.underlying126
 simp only[Option.isNone_none]at l;have Ug:g<w.heap.size:=hs.lt;obtain⟨F,hF⟩:∃F,F=oY:=⟨_,rfl⟩
 have M:Kept (vm g none) w ((w.alloc (.map #[] 0)).setCell ⟨g,0,none⟩ (.map (some w.heap.size))):=((Kept.refl (vm g none) w).alloc _).setCell (a:=⟨g,0,none⟩) (.inr (.inl rfl)) _;have q:=dr h M (fun O a R=>ph hs h O R)
 have J:St ((w.alloc (.map #[] 0)).setCell ⟨g,0,none⟩ (.map (some w.heap.size))) g (some w.heap.size) F:=by
  refine⟨(hs.1.alloc (.map #[] 0)).set 0 _ (by decide),(fun h=>by cases h),fun B' I=>?_⟩
  cases I
  have hm:=(iU im w).kept (((Kept.refl (aA g) (w.alloc (.map #[] 0)))).setCell (a:=⟨g,0,none⟩) (.inr rfl) (.map (some w.heap.size))) (fun e=>by have:w.heap.size=g:=e;omega);rw[hF];exact hm
 have Y:Hid (∀wr,Kept (vm g (some w.heap.size)) ((w.alloc (.map #[] 0)).setCell ⟨g,0,none⟩ (.map (some w.heap.size))) wr→Kept (vm g none) w wr):=Qh (fun wr h=>M.then h (fun i hi=>by
  rcases hi with hi|hi
  ·exact .inr (.inl hi)
  ·cases hi;exact .inl (Qk _)))
 have N:Hid ((none:Option Nat)=some w.heap.size∨w.heap.size≤w.heap.size):=Qh (.inr (Qk _));have Z:=Qh h.1;have f:=Qh J;have d:=Qh q;rw[←hF];clear J q M h hs Ug hF
 go_enter Tryz.func111,Tryz.ntmps111
 go_wp2_with fail
 obtain⟨W0,V⟩:∃W0,(w.alloc (.map #[] 0)).setCell ⟨g,0,none⟩ (.map (some w.heap.size))=W0:=⟨_,rfl⟩
 obtain⟨B,I⟩:∃B,w.heap.size=B:=⟨_,rfl⟩
 rw[V,I]at f Y;rw[V]at d⊢;rw[I];clear N;have N:Hid ((none:Option Nat)=some B∨w.heap.size≤B):=Qh (.inr (by omega));clear c0 f0 c1 f1 l yU V I
 go_loopw [19] (fun i wr=>∃(j:Nat),j≤n∧i=.int .i64 (j:Int)∧Hid (St wr g (some B) (fQ F (rs.take j))∧cf wr p n rs∧Kept (vm g (some B)) W0 wr)) (fun i _=>n - (RowKit.intOf i).toNat)
 case atStart=>exact⟨0,Nat.zero_le _,rfl,Qh ⟨by rw[List.take_zero,wE];exact f.out,d.out,Kept.refl _ _⟩⟩
 case round=>
  obtain⟨j,hj,rfl,A⟩:=hrel
  by_cases r:j<n
  ·obtain⟨G,E,hk⟩:=A.out
   have kh:(j:Int)<(n:Int):=by omega
   obtain⟨b,o,rfl,hb,hc⟩:=E.2 (by omega);obtain⟨x0,X⟩:=hc j r;obtain⟨⟨D,H⟩,T⟩:∃u,rs.getD j ([],[])=u:=⟨_,rfl⟩
   rw[T,Nat.mul_comm]at x0 X;simp only at x0 X;have W:=G.below ((Below.refl _ wr).alloc (Qk _) (.cells #[.string (str D),.string (str H)] 121));have m:=E.below ((Below.refl _ wr).alloc (Qk _) (.cells #[.string (str D),.string (str H)] 121));have t:=hk.alloc (.cells #[.string (str D),.string (str H)] 121);have d0:=W.1.cell 0;simp only[Qc,Qa]at d0;obtain⟨r0,r1⟩:=sA wr 121 (.string (str D)) (.string (str H));have L:=Qh (And.intro W (And.intro m t));have Tq:=Qh T;clear G E hk hb hc T W m t A;go_wp2_with fail;obtain⟨w4,z⟩:∃w4,wr.alloc (.cells #[.string (str D),.string (str H)] 121)=w4:=⟨_,rfl⟩
   rw[z]at d0 L r0 r1⊢;clear z x0 X
   go_still_tail 7,(by kernel_rfl)
   refine cR (K:=im) rfl (.tmp 26) (.tmp 28) (.tmp 29) rfl Tryz.underlying126 Tryz.underlying9 B ((L.out.1.2.2 B rfl).kept (Kept.refl ag w4).drew id) rfl D rfl (.agg (recC D H)) rfl ?_;intro w5 vZ y qG
   have HN:Hid (St w5 g (some B) (fQ F (rs.take (j+1)))∧cf w5 (some ⟨b,o,none⟩) n rs∧Kept (vm g (some B)) W0 w5):=by
    obtain⟨G,E,hk⟩:=L.out;have U:Kept (aA B) w4 w5:=((Kept.refl (aA B) w4).drew).trans y.out;refine Qh ⟨⟨G.1.bZ U G.ne,(fun h=>by cases h),fun B' h=>?_⟩,dr E U (fun O a R e=>ph G E O R (.inr (by rw[show a.block=B from e]))),hk.then U (fun i hi=>.inr (.inr (by rw[show i=B from hi])))⟩
    cases h
    rw[take_one rs j (by rw[Z.out];exact r),Tq.out,←wT];exact vZ.out
   clear vZ y qG;go_wp2;go_roundw
   case rel=>exact⟨j+1,by omega,by go_num,HN⟩
   case measure=>simp[RowKit.intOf];omega
  ·obtain rfl:j=n:=by omega
   have kh:¬((j:Int)<(j:Int)):=by omega
   go_wp2
   go_end0
   have A:=A.out;rw[List.take_of_length_le (by rw[Z.out];exact Qk _)]at A;exact⟨rfl,B,A.1,Y.out _ A.2.2,by first|exact N.out|exact .inl rfl⟩
theorem CA (g:Nat) (mb:Option Nat) (F:r9) (p:Option Addr) (n c:Nat) (rs:ca) (w:World) (hs:St w g mb F) (hn:n≤4611686018427387904) (h:cf w p n rs):
 Calls Tryz.prog 111 #[.pointer (some ⟨g,0,none⟩),.slice p n c] w (ob w g mb F rs):=by
 cases mb with
 |some B=>exact CB g B F p n c rs w hs hn h
 |none=>
  obtain rfl:=hs.2.1 rfl;exact zL g p n c rs w hs hn h
end Attr
namespace Mem
open Go.ChangeShapes Go.WideShapes Go.ChangeAt Go.RowKit Base bM cr Bk Mk Block Attr Rec Go.Lib
variable {y:Addr} {m:Nat} {v':Value} {rs:ca}
structure RK where
 r:Nat
 g:Nat
 gs:Nat
 mw:Nat
 S:Sv
def b6 (s:RS) (q:Option Addr) (n c:Nat):UInt8→Option Value:=fun k=>
 if k=120 then(if s.eD=true then some (.agg #[.string ⟨#[]⟩,.slice q n c])else none)
 else if k=76 then s.name.map (fun t=>.agg #[.string (str t),.slice none 0 0])
 else if k=75 then s.link.map (fun t=>.agg #[.string (str t),.slice none 0 0])
 else none
def Fw (K:RK) (v:Value):Array Value:=#[.pointer (some ⟨K.g,0,none⟩),.pointer (some ⟨K.gs,0,none⟩),.map (some K.mw),v]
def Ot (K:RK) (mb:Option Nat) (v:Value):Nat→Prop:=fun k=>k=K.r∨k=K.gs∨k=K.mw∨mb=some k∨v.ownBlock=some k
structure Rd (w0 w:World) (K:RK) (a:Nat) (s:RS) (mb:Option Nat) (v:Value) (xs:List MP) (q:Option Addr) (n c:Nat):Prop where
 bel:Below w0.heap.size w0 w
 eh:ao w K.r 91 (Fw K v)
 src:∃t,Block.Src w K.g K.S a t
 off:K.S.off K.g
 st:St w K.gs mb (aG s.cW)
 map:cH MX w K.mw (b6 s q n c)
 own:cf w q n s.own
 o7:s.eD=false→s.own=[]
 row:w.ownsRow w0.heap.size 48 8 v xs.length (fK xs)
 out:xs.map MP.m=s.out
 bodies:∀x∈xs,cV w x
 apart:∀x∈xs,0<x.m.body.length→∀y,x.p=some y→¬Ot K mb v y.block∧y.block≠K.g
 sp:0<K.S.n→∀y,K.S.p=some y→¬Ot K mb v y.block
 sq:0<K.S.m→∀y,K.S.q=some y→¬Ot K mb v y.block
 ne:K.r≠K.g∧K.r≠K.gs∧K.r≠K.mw∧K.g≠K.gs∧K.g≠K.mw∧K.gs≠K.mw
 uZ:∀b,mb=some b→b≠K.r∧b≠K.g∧b≠K.gs∧b≠K.mw∧w0.heap.size≤b
 rS:∀b,v.ownBlock=some b→b≠K.r∧b≠K.g∧b≠K.gs∧b≠K.mw∧mb≠some b
 base:w0.heap.size≤K.r∧w0.heap.size≤K.g∧w0.heap.size≤K.gs∧w0.heap.size≤K.mw
 many:s.out.length≤4096
 gl:∀r∈s.cW,r.2.length≤1048576
 ol:(∀r∈s.own,r.2.length≤1048576)∧s.own.length≤1048576
 nl:∀t,s.name=some t→t.length≤1048576
 ll:∀t,s.link=some t→t.length≤1048576
section
variable {w0 w w':World} {K:RK} {a:Nat} {s:RS} {mb:Option Nat} {v:Value} {xs:List MP} {q:Option Addr} {n c:Nat}
theorem ye {zs:List Int} (h:FL w p m zs) (h0:0<m) (hy:p=some y):y.block<w.heap.size:=by
 obtain⟨b,o,he,A,hc⟩:=h h0;rw[hy]at he
 cases he
 exact A
theorem yE {t:TypeId} {cs:Array Value} (hb:ao w b t cs) (hs:∀(i:Nat) (x:ByteArray),cs[i]? ≠some (.string x)) (hr:cf w p m rs) (h0:0<m) (hy:p=some y):y.block≠b:=by
 obtain⟨B,o,rfl,A,hc⟩:=hr.2 h0
 cases hy
 rintro rfl;have c0:=(hc 0 h0).1;rw[hb.cell]at c0;exact hs _ _ c0
theorem yF {Ky:ij α} {f:α→Option Value} (hm:cH Ky w b f) (hr:cf w p m rs) (h0:0<m) (hy:p=some y):y.block≠b:=by
 obtain⟨B,o,rfl,A,hc⟩:=hr.2 h0
 cases hy
 rintro rfl;obtain⟨es,clock,hm,_⟩:=hm;have c0:=(hc 0 h0).1;simp[World.cell?,hm]at c0
theorem Rd.AA (h:Rd w0 w K a s mb v xs q n c):0<n→∀y,q=some y→¬aA K.g y.block:=fun A y hy e=>by
 obtain⟨t,hs⟩:=h.src;refine yE (show ao w K.g 132 _ from hs.eh) ?_ h.own A hy e;intro i x B;rcases i with _|_|_|_|i<;>simp at B
theorem Rd.DA (h:Rd w0 w K a s mb v xs q n c):0<n→∀y,q=some y→¬vm K.gs mb y.block:=fun A y hy e=>ph h.st h.own A hy e
theorem Rd.Ie (h:Rd w0 w K a s mb v xs q n c) (hN:Need w0):Need w:=hN.below h.bel
theorem Rd.idle (h:Rd w0 w K a s mb v xs q n c) (hk:Kept ag w w'):Rd w0 w' K a s mb v xs q n c where
 bel:=h.bel.trans (hk.below h.bel.size (fun k hk=>hk.elim))
 eh:=h.eh.bZ hk id
 src:=by obtain⟨t,hs⟩:=h.src;exact⟨t,hs.cL hk⟩
 off:=h.off
 st:=h.st.kept hk (fun _ _=>id)
 map:=h.map.kept hk id
 own:=dr h.own hk (fun _ _ _=>id)
 o7:=h.o7
 row:=bQ h.row hk (fun _ _=>id)
 out:=h.out
 bodies:=fun x A=>(h.bodies x A).kept hk (fun _ _ _=>id)
 apart:=h.apart
 sp:=h.sp
 sq:=h.sq
 ne:=h.ne
 uZ:=h.uZ
 rS:=h.rS
 base:=h.base
 many:=h.many
 gl:=h.gl
 ol:=h.ol
 nl:=h.nl
 ll:=h.ll
theorem Rd.below (h:Rd w0 w K a s mb v xs q n c) (hb:Below w.heap.size w w'):Rd w0 w' K a s mb v xs q n c:=h.idle (Kept.aR hb ag)
theorem Rd.fy (h:Rd w0 w K a s mb v xs q n c) {a':Nat} (hk:Kept (aA K.g) w w') (hs:∃t,Block.Src w' K.g K.S a' t):Rd w0 w' K a' s mb v xs q n c where
 bel:=h.bel.trans (hk.below h.bel.size (fun k hk=>by rw[show k=K.g from hk];exact h.base.2.1))
 eh:=h.eh.bZ hk h.ne.1
 src:=hs
 off:=h.off
 st:=h.st.kept hk (fun k hk e=>by
  rcases hk with rfl|hk
  ·exact h.ne.2.2.2.1 (show K.gs=K.g from e).symm
  ·exact(h.uZ k hk).2.1 e)
 map:=h.map.kept hk (fun e=>h.ne.2.2.2.2.1 (show K.mw=K.g from e).symm)
 own:=dr h.own hk h.AA
 o7:=h.o7
 row:=bQ h.row hk (fun k hk e=>(h.rS k hk).2.1 e)
 out:=h.out
 bodies:=fun x A=>(h.bodies x A).kept hk (fun B y hy e=>(h.apart x A B y hy).2 e)
 apart:=h.apart
 sp:=h.sp
 sq:=h.sq
 ne:=h.ne
 uZ:=h.uZ
 rS:=h.rS
 base:=h.base
 many:=h.many
 gl:=h.gl
 ol:=h.ol
 nl:=h.nl
 ll:=h.ll
theorem Rd.waits (h:Rd w0 w K a s mb v xs q n c) {s':RS} {q':Option Addr} {n' c':Nat} (hk:Kept (aA K.mw) w w') (hm:cH MX w' K.mw (b6 s' q' n' c')) (ho:cf w q' n' s'.own)
 (h1:s'.out=s.out) (h2:s'.cW=s.cW) (h3:s'.eD=false→s'.own=[]) (h4:(∀r∈s'.own,r.2.length≤1048576)∧s'.own.length≤1048576)
 (h5:∀t,s'.name=some t→t.length≤1048576) (h6:∀t,s'.link=some t→t.length≤1048576):Rd w0 w' K a s' mb v xs q' n' c' where
 bel:=h.bel.trans (hk.below h.bel.size (fun k hk=>by rw[show k=K.mw from hk];exact h.base.2.2.2))
 eh:=h.eh.bZ hk h.ne.2.2.1
 src:=by
  obtain⟨t,hs⟩:=h.src;exact⟨t,hs.kept hk h.ne.2.2.2.2.1 (fun A y hy e=>h.sp A y hy (.inr (.inr (.inl e)))) (fun A y hy e=>h.sq A y hy (.inr (.inr (.inl e))))⟩
 off:=h.off
 st:=by
  rw[h2];refine h.st.kept hk (fun k hk e=>?_);rcases hk with rfl|hk
  ·exact h.ne.2.2.2.2.2 e
  ·exact(h.uZ k hk).2.2.2.1 e
 map:=hm
 own:=dr ho hk (fun A y hy e=>yF h.map ho A hy e)
 o7:=h3
 row:=bQ h.row hk (fun k hk e=>(h.rS k hk).2.2.2.1 e)
 out:=by rw[h1];exact h.out
 bodies:=fun x B=>(h.bodies x B).kept hk (fun A y hy e=>(h.apart x B A y hy).1 (.inr (.inr (.inl e))))
 apart:=h.apart
 sp:=h.sp
 sq:=h.sq
 ne:=h.ne
 uZ:=h.uZ
 rS:=h.rS
 base:=h.base
 many:=by rw[h1];exact h.many
 gl:=by rw[h2];exact h.gl
 ol:=h4
 nl:=h5
 ll:=h6
theorem Rd.TB (h:Rd w0 w K a s mb v xs q n c) (mO:St w' K.gs (some B) (fQ (aG s.cW) rs)) (hk:Kept (vm K.gs mb) w w') (hB:mb=some B∨w.heap.size≤B) (hl:∀r∈rs,r.2.length≤1048576):
 Rd w0 w' K a {s with cW:=s.cW++rs} (some B) v xs q n c:=by
 have U:=h.bel.size
 have I:∀k,k<w.heap.size→¬Ot K mb v k→¬Ot K (some B) v k:=fun k O E e=>by
  rcases e with e|e|e|e|e
  ·exact E (.inl e)
  ·exact E (.inr (.inl e))
  ·exact E (.inr (.inr (.inl e)))
  ·rcases hB with hB|hB
   ·exact E (.inr (.inr (.inr (.inl (hB.trans e)))))
   ·cases e;omega
  ·exact E (.inr (.inr (.inr (.inr e))))
 have H:∀k,vm K.gs mb k→Ot K mb v k:=fun k hk=>by
  rcases hk with rfl|hk
  ·exact .inr (.inl rfl)
  ·exact .inr (.inr (.inr (.inl hk)))
 obtain⟨t,hs⟩:=h.src
 have W:∀k,vm K.gs mb k→w0.heap.size≤k:=fun k hk=>by
  rcases hk with rfl|hk
  ·exact h.base.2.2.1
  ·exact(h.uZ k hk).2.2.2.2
 have hr:¬vm K.gs mb K.r:=fun e=>by
  rcases e with e|e
  ·exact h.ne.2.1 e
  ·exact(h.uZ _ e).1 rfl
 have T:¬vm K.gs mb K.g:=fun e=>by
  rcases e with e|e
  ·exact h.ne.2.2.2.1 e
  ·exact(h.uZ _ e).2.1 rfl
 have J:¬vm K.gs mb K.mw:=fun e=>by
  rcases e with e|e
  ·exact h.ne.2.2.2.2.2 e.symm
  ·exact(h.uZ _ e).2.2.2.1 rfl
 have V:∀k,v.ownBlock=some k→¬vm K.gs mb k:=fun k hk e=>by
  rcases e with e|e
  ·exact(h.rS k hk).2.2.1 e
  ·exact(h.rS k hk).2.2.2.2 e
 exact {
  bel:=h.bel.trans (hk.below h.bel.size W)
  eh:=h.eh.bZ hk hr
  src:=⟨t,hs.kept hk T (fun A y hy e=>h.sp A y hy (H _ e)) (fun A y hy e=>h.sq A y hy (H _ e))⟩
  off:=h.off
  st:=by rw[←C8];exact mO
  map:=h.map.kept hk J
  own:=dr h.own hk h.DA
  o7:=h.o7
  row:=bQ h.row hk V
  out:=h.out
  bodies:=fun x D=>(h.bodies x D).kept hk (fun A y hy e=>(h.apart x D A y hy).1 (H _ e))
  apart:=fun x D A y hy=>⟨I _ (kF (h.bodies x D).ib A hy) (h.apart x D A y hy).1,(h.apart x D A y hy).2⟩
  sp:=fun A y hy=>I _ (kF hs.ib A hy) (h.sp A y hy)
  sq:=fun A y hy=>I _ (ye hs.N8 A hy) (h.sq A y hy)
  ne:=h.ne
  uZ:=fun b G=>by
   cases G
   rcases hB with hB|hB
   ·exact h.uZ B hB
   ·have h1:=h.eh.lt
    have L:=hs.lt;have M:=h.st.lt;have N:=h.map.lt;exact⟨by omega,by omega,by omega,by omega,by omega⟩
  rS:=fun b G=>by
   obtain⟨h1,L,M,N,R⟩:=h.rS b G;have O:=(h.row.lt b G).2;refine⟨h1,L,M,N,fun e=>?_⟩;rcases hB with hB|hB
   ·exact R (hB.trans e)
   ·cases e;omega
  base:=h.base
  many:=h.many
  gl:=fun r hr=>by
   rcases List.mem_append.1 hr with hr|hr
   ·exact h.gl r hr
   ·exact hl r hr
  ol:=h.ol
  nl:=h.nl
  ll:=h.ll}
theorem Rd.H5 (h:Rd w0 w K a s mb v xs q n c) (hg:w.grownBy w' v.ownBlock):cH MX (w'.setCell ⟨K.r,3,none⟩ v') K.mw (b6 s q n c):=
 (h.map.kept ((Kept.refl _ w).grown hg (fun k hk=>.inr hk):Kept (fun k=>v.ownBlock=some k) w w') (fun e=>(h.rS _ e).2.2.2.1 rfl)).kept ((Kept.refl (aA K.r) w').setCell (a:=⟨K.r,3,none⟩) (.inr rfl) v') h.ne.2.2.1.symm
theorem Rd.added (h:Rd w0 w K a s mb v xs q n c) {y:MP} (cJ:w'.ownsRow w0.heap.size 48 8 v' (xs++[y]).length (fK (xs++[y]))) (hg:w.grownBy w' v.ownBlock) (CR:ff w v v')
 (hy:cV w y) (Rz:0<y.m.body.length→∀z,y.p=some z→¬Ot K mb v z.block∧z.block≠K.g) (hm:s.out.length<4096) {w2:World}
 (uQ:cH MX w2 K.mw (fun _=>none)) (dv:Kept (aA K.mw) (w'.setCell ⟨K.r,3,none⟩ v') w2):
 Rd w0 w2 K a {s with out:=s.out++[y.m],own:=[],name:=none,link:=none,eD:=false} mb v' (xs++[y]) none 0 0:=by
 have R:Kept (fun k=>v.ownBlock=some k) w w':=(Kept.refl _ w).grown hg (fun k hk=>.inr hk);have T:Kept (aA K.r) w' (w'.setCell ⟨K.r,3,none⟩ v'):=(Kept.refl (aA K.r) w').setCell (a:=⟨K.r,3,none⟩) (.inr rfl) v';have O:Kept (fun k=>k=K.r∨k=K.mw) w' w2:=(T.mono (fun k hk=>.inl hk)).trans (dv.mono (fun k hk=>.inr hk));have hk:Kept (fun k=>v.ownBlock=some k∨k=K.r∨k=K.mw) w w2:=(R.mono (fun k hk=>.inl hk)).trans (O.mono (fun k hk=>.inr hk));have N:∀k,v'.ownBlock=some k→(v.ownBlock=some k∨w.heap.size≤k):=CR
 have G:∀k,(v.ownBlock=some k∨k=K.r∨k=K.mw)→Ot K mb v k:=fun k hk=>by
  rcases hk with hk|rfl|rfl
  ·exact .inr (.inr (.inr (.inr hk)))
  ·exact .inl rfl
  ·exact .inr (.inr (.inl rfl))
 have H:∀k,k<w.heap.size→¬Ot K mb v k→¬Ot K mb v' k:=fun k U E e=>by
  rcases e with e|e|e|e|e
  ·exact E (.inl e)
  ·exact E (.inr (.inl e))
  ·exact E (.inr (.inr (.inl e)))
  ·exact E (.inr (.inr (.inr (.inl e))))
  ·rcases N k e with e'|e'
   ·exact E (.inr (.inr (.inr (.inr e'))))
   ·omega
 obtain⟨t,hs⟩:=h.src;have h1:=h.eh.lt;have V:=hs.lt;have W:=h.st.lt;have X:=h.map.lt
 have I:∀b,v'.ownBlock=some b→b≠K.r∧b≠K.g∧b≠K.gs∧b≠K.mw∧mb≠some b:=fun b D=>by
  rcases N b D with e|e
  ·exact h.rS b e
  ·exact⟨by omega,by omega,by omega,by omega,fun hm=>by have:=h.st.dx hm;omega⟩
 have M:∀k,k≠K.r→k≠K.mw→(∀b,v.ownBlock=some b→k≠b)→¬(v.ownBlock=some k∨k=K.r∨k=K.mw):=fun k J hw E e=>by
  rcases e with e|e|e
  ·exact E k e rfl
  ·exact J e
  ·exact hw e
 exact {
  bel:=h.bel.trans (hk.below h.bel.size (fun k hk=>by
   rcases hk with hk|rfl|rfl
   ·exact(h.row.lt k hk).1
   ·exact h.base.1
   ·exact h.base.2.2.2))
  eh:=((h.eh.bZ R (fun e=>(h.rS _ e).1 rfl)).set 3 v' (by decide:3<4)).bZ dv h.ne.2.2.1
  src:=⟨t,hs.kept hk (M _ h.ne.1.symm h.ne.2.2.2.2.1 (fun b D e=>(h.rS b D).2.1 e.symm)) (fun A y hy e=>h.sp A y hy (G _ e)) (fun A y hy e=>h.sq A y hy (G _ e))⟩
  off:=h.off
  st:=h.st.kept hk (fun k hk=>by
   rcases hk with rfl|hk
   ·exact M _ h.ne.2.1.symm h.ne.2.2.2.2.2 (fun b D e=>(h.rS b D).2.2.1 e.symm)
   ·exact M _ (h.uZ k hk).1 (h.uZ k hk).2.2.2.1 (fun b D e=>(h.rS b D).2.2.2.2 (by rw[←e];exact hk)))
  map:=by
   have:b6 {s with out:=s.out++[y.m],own:=[],name:=none,link:=none,eD:=false} none 0 0=fun _=>none:=by
    funext k
    unfold b6;simp
   rw[this];exact uQ
  own:=⟨rfl,fun h=>by omega⟩
  o7:=fun _=>rfl
  row:=bQ cJ O (fun k hk e=>by
   rcases e with e|e
   ·exact(I k hk).1 e
   ·exact(I k hk).2.2.2.1 e)
  out:=by rw[List.map_append,h.out];rfl
  bodies:=fun x hx=>by
   rcases List.mem_append.1 hx with hx|hx
   ·exact(h.bodies x hx).kept hk (fun A y hy e=>(h.apart x hx A y hy).1 (G _ e))
   ·rw[List.mem_singleton]at hx
    subst hx;exact hy.kept hk (fun A z B e=>(Rz A z B).1 (G _ e))
  apart:=fun x hx A z B=>by
   rcases List.mem_append.1 hx with hx|hx
   ·exact⟨H _ (kF (h.bodies x hx).ib A B) (h.apart x hx A z B).1,(h.apart x hx A z B).2⟩
   ·rw[List.mem_singleton]at hx
    subst hx;exact⟨H _ (kF hy.ib A B) (Rz A z B).1,(Rz A z B).2⟩
  sp:=fun A y hy=>H _ (kF hs.ib A hy) (h.sp A y hy)
  sq:=fun A y hy=>H _ (ye hs.N8 A hy) (h.sq A y hy)
  ne:=h.ne
  uZ:=h.uZ
  rS:=I
  base:=h.base
  many:=by show(s.out++[y.m]).length≤4096;rw[Qf,List.length_singleton];omega
  gl:=h.gl
  ol:=⟨fun r J=>by simp at J,by simp⟩
  nl:=fun t L=>by cases L
  ll:=fun t L=>by cases L}
end
end Mem
end Go.Proofs.YtdhibldkldlfpaaGreatDoor
