/- Merged. -/
import Derived.Test.YtdhibldkldlfpaaGreatDoorEmitLeastX12
import Derived.Test.YtdhibldkldlfpaaGreatDoorEmitLeastX16
import Derived.Lib.SliceRun
import Derived.Test.YtdhibldkldlfpaaGreatDoorEmitLeastX14
namespace Go.Proofs.YtdhibldkldlfpaaGreatDoor
set_option linter.unusedVariables false
set_option maxHeartbeats 1600000
open Go.ChangeShapes Go.WideShapes Go.ChangeAt Go.RowKit Base bJ qd Go.Lib
namespace Block
variable {n:Nat}
theorem JO {w:World} {bs:List UInt8} (h:cB w none n bs):n=0:=by
 rcases Nat.eq_zero_or_pos n with h0|h0
 ·exact h0
 ·obtain⟨_,_,he,_⟩:=h h0
  cases he
def iM (w:World) (n:Nat) (bs:List UInt8) (e:Ending) (w':World):Prop:=∃v,e=.returned v∧eR w' w.heap.size v n bs∧Kept ag w w'
theorem j6 (w:World) (p:Option Addr) (n c:Nat) (bs:List UInt8) (hb:cB w p n bs) (hl:bs.length=n) (hn:n≤140737488351232):
 Calls Tryz.prog 49 #[.slice p n c] w (iM w n bs):=by
 obtain⟨i0,hi,L,I,J⟩:=info_parts lR;have V:∀(w:World) (a:Option Addr) (n c B A:Nat),(binOp .eql 26 (.slice a n c) (.slice none B A)).run Tryz.prog w=.ok (.bool a.isNone) w:=fun w a n c B A=>Lib.run_eql_slice_nil w _ _ a n c B A Tryz.underlying26
 have M:=Qh hi;have T:=Qh L;have R:=Qh I;have U:=Qh J;have D:=Qh hb;have E:=Qh hl;clear hi L I J hb hl;rcases p with _|x
 ·obtain rfl:=JO D.out
  obtain rfl:bs=[]:=List.eq_nil_of_length_eq_zero E.out
  go_enter Tryz.func49,Tryz.ntmps49
  go_wp2;go_ret;exact⟨_,rfl,World.ownsRow_nil _ _ _ _,Kept.refl _ _⟩
 ·go_enter Tryz.func49,Tryz.ntmps49
  go_wp2_with (at_builtin;refine kt rfl _ _ 26 rfl w.heap.size 5 i0 Tryz.underlying26 M.out T.out R.out U.out _ 0 [] rfl (World.ownsRow_made w #[] 0 (Qk _) (by decide) rfl) (some x) n c bs rfl (D.out.alloc _) E.out ?d2 ?d3 ?_)
  case d2=>omega
  case d3=>simp
  intro v' w1 G H;have O:=Qh G;have hk:Kept ag w w1:=(((Kept.refl ag w).alloc _)).grown H (by intro k hk;simp[Value.ownBlock]at hk;omega);have N:=Qh hk;clear G H hk;go_wp2;go_ret;exact⟨v',rfl,O.out,N.out⟩
def Ee (w:World) (bs:List UInt8) (zs:List Int) (e:Ending) (w':World):Prop:=
 ∃(g:Nat) (S:Sv),e=.returned (.pointer (some ⟨g,0,none⟩))∧w.heap.size≤g∧S.bs=bs∧S.n=bs.length∧S.zs=zs∧S.off g∧(∀x,S.p=some x→w.heap.size≤x.block)∧(∀x,S.q=some x→w.heap.size≤x.block)∧Src w' g S 0 0∧Kept ag w w'
theorem NW (w:World) (p:Option Addr) (n c:Nat) (bs:List UInt8) (q:Option Addr) (m d:Nat) (zs:List Int) (hb:cB w p n bs) (hl:bs.length=n) (hn:n≤140737488351232) (hq:Fx w q m zs) (hz:zs.length=m) (hm:m*8≤140737488351232):
 Calls Tryz.prog 70 #[.slice p n c,.slice q m d] w (Ee w bs zs):=by
 obtain⟨i0,hi,X,V,W⟩:=info_parts NK;have y:=Qh hi;have lr:=Qh X;have jZ:=Qh V;have lu:=Qh W;have u:=Qh hb;have M:=Qh hl;have z:=Qh hq;have HZ:=Qh hz;clear hi X V W hb hl hq hz
 go_enter Tryz.func70,Tryz.ntmps70
 go_wp2_with fail
 refine(j6 w p n c bs u.out M.out hn).mono ?_;rintro e J ⟨v,rfl,L,T⟩;have V9:=Qh L;have B:=Qh T;clear L T
 go_wp2_with (at_builtin;refine yQ rfl _ _ 23 rfl J.heap.size 3 i0 Tryz.underlying23 y.out lr.out jZ.out lu.out _ 0 [] rfl (World.ownsRow_nil _ _ _ _) q m d zs rfl (z.out.kept B.out (fun _ _ _=>id)) HZ.out ?d2 ?d3 ?_)
 case d2=>omega
 case d3=>exact Qk _
 intro v' w2 O R;have N:=Qh O;have U:Kept ag J w2:=(Kept.refl ag J).grown R (by intro k hk;simp[Value.ownBlock]at hk);have G:=Qh U;clear O R U;obtain⟨H,c1,rfl,h1,Y,Z,b,f⟩:=V9.out.slice;obtain⟨I,d1,rfl,g,l,o,r,t⟩:=CE N.out;have D:=vY N.out rfl
 have F:Hid (Ee w bs zs (.returned (.pointer (some ⟨w2.heap.size,0,none⟩))) (w2.alloc (.cells #[.slice H n c1,.int .i64 0,.slice I m d1,.int .i64 0] 132))):=Qh (by
  have E:Kept ag w2 (w2.alloc (.cells #[.slice H n c1,.int .i64 0,.slice I m d1,.int .i64 0] 132)):=(Kept.refl ag w2).alloc _;refine⟨w2.heap.size,⟨H,n,c1,bs,I,m,d1,zs⟩,rfl,(B.out.trans G.out).size,rfl,M.out.symm,rfl,?_,fun x A=>(f x A).1,fun x A=>Nat.le_trans B.out.size (D x A).1,⟨?_,?_,b,h1,Y,hn,Nat.zero_le _,?_,r,g,l,fun h=>h,fun _=>rfl⟩,(B.out.trans G.out).trans E⟩
  ·intro _ x A
   have:=(D x A).2.1;omega
  ·exact heap_alloc_new _ _
  ·exact(Z.kept G.out (fun _ _ _=>id)).kept E (fun _ _ _=>id)
  ·exact o.kept E (fun _ _ _=>id))
 clear h1 Y Z b f g l o r t D;go_wp2;go_ret;exact F.out
def Ft (w:World) (g a:Nat) (S:Sv) (e:Ending) (w':World):Prop:=
 (a=S.n∧e=.returned (.tuple #[.slice none 0 0,.int .i64 14])∧(∃t',Src w' g S a t')∧Kept (aA g) w w')∨(a<S.n∧lB w g a S 512 e w')
theorem lB.from {w w1 w':World} {g a N:Nat} {S:Sv} {e:Ending} (hk:Kept (aA g) w w1) (h:lB w1 g a S N e w'):lB w g a S N e w':=by
 rcases h with⟨h1,v,h2,h3,h4,h5⟩|⟨h1,h2,h3,h4⟩
 ·exact Or.inl ⟨h1,v,h2,h3.mono hk.size,h4,hk.trans h5⟩
 ·exact Or.inr ⟨h1,h2,h3,hk.trans h4⟩
theorem kW (w:World) (g a t:Nat) (S:Sv) (h:Src w g S a t) (ho:S.off g):
 Calls Tryz.prog 71 #[.pointer (some ⟨g,0,none⟩)] w (Ft w g a S):=by
 have hle:=h.le;have H:=Qh h;have N:=Qh ho;clear h ho
 by_cases O:a=S.n
 ·have R:Hid (S.n - a=0):=Qh (by omega)
  go_enter Tryz.func71,Tryz.ntmps71
  go_wp2_with fail
  refine(lS _ g a t S H.out).mono ?_;rintro e T ⟨rfl,A,B⟩;obtain⟨p,D,_,_⟩:=je A;rw[D,R.out];have J:=Qh A;have I:=Qh B;clear A B D;go_wp2;go_ret2;exact Or.inl ⟨O,rfl,⟨t,J.out⟩,I.out.dZ _⟩
 ·obtain⟨l,hl⟩:∃l,S.n - a=l+1:=⟨S.n - a - 1,by omega⟩
  have G:=Qh hl;clear hl
  go_enter Tryz.func71,Tryz.ntmps71
  go_wp2_with fail
  refine(lS _ g a t S H.out).mono ?_;rintro e T ⟨rfl,A,B⟩;obtain⟨p,D,_,_⟩:=je A;rw[D,G.out];have J:=Qh A;have I:=Qh B;clear A B D;have U:((((l+1:Nat):Int))==0)=false:=by simp;omega
  go_wp2_with fail
  refine(qR _ g a t S J.out N.out 512 (by decide)).mono ?_;intro e V L;have E:=Qh (L.from (I.out.dZ _));clear L;have M:=E.out;rcases M with⟨h1,v,rfl,h3,h4,h5⟩|⟨h1,rfl,h3,h4⟩
  ·clear h1 h3 h4 h5
   go_wp2;go_ret2;exact Or.inr ⟨by have:=G.out;omega,E.out⟩
  ·clear h1 h3 h4
   go_wp2;go_ret2;exact Or.inr ⟨by have:=G.out;omega,E.out⟩
theorem pS (w:World) (g a t:Nat) (S:Sv) (h:Src w g S a t):
 Calls Tryz.prog 43 #[.pointer (some ⟨g,0,none⟩)] w fun e w'=>e=.returned (.int .i64 a)∧w=w':=by
 have h1:=h.c1;clear h
 go_enter Tryz.func43,Tryz.ntmps43
 go_wp2;go_ret;exact⟨rfl,rfl⟩
def eK (k:Nat):Nat:=(k+511) / 512*512
theorem Af (k:Nat) (h:k≤4611686018427387904):yf (k:Int)=(eK k:Int):=by
 unfold yf eK;rw[if_pos ⟨by omega,by omega⟩]
 by_cases A:((k:Int) % 512=0)
 ·rw[if_pos A];omega
 ·rw[if_neg A];omega
theorem jE (k:Nat):k≤eK k:=by unfold eK;omega
theorem rP (k:Nat):eK k≤k+511:=by unfold eK;omega
def rT (w:World) (g a:Nat) (S:Sv) (k:Nat) (e:Ending) (w':World):Prop:=
 (a+eK k≤S.n∧∃p,e=.returned (.tuple #[.slice p k k,.int .i64 0])∧cB w' p k ((S.bs.drop a).take k)∧(∀x,p=some x→w.heap.size≤x.block)∧(∃t',Src w' g S (a+eK k) t')∧Kept (aA g) w w')∨
 (S.n<a+eK k∧e=.returned (.tuple #[.slice none 0 0,.int .i64 2])∧(∃t',Src w' g S S.n t')∧Kept (aA g) w w')
theorem yY (w:World) (g a t:Nat) (S:Sv) (h:Src w g S a t) (ho:S.off g) (k:Nat) (hn:k≤4611686018427387904):
 Calls Tryz.prog 108 #[.pointer (some ⟨g,0,none⟩),.int .i64 k] w (rT w g a S k):=by
 have H:=Qh h;have O:=Qh ho;clear h ho
 go_enter Tryz.func108,Tryz.ntmps108
 go_wp2_with fail
 refine(Fa k _).mono ?_;rintro e X ⟨rfl,J⟩;rw[fK (by omega) (by omega),Af k hn];have L:=Qh (Kept.aS J ag);clear J;have A:=jE k;have U:=rP k;obtain⟨P,E⟩:∃P,P=eK k:=⟨_,rfl⟩
 rw[←E]at A U⊢;have B:=Qh E;clear E;go_wp2_with fail;refine(qR _ g a t S (H.out.cJ L.out) O.out P (by omega)).mono ?_;intro e N G;rcases G.from (L.out.dZ _)with⟨h1,v,rfl,h3,h4,h5⟩|⟨h1,rfl,h3,h4⟩
 ·obtain⟨p,c,rfl,V,W,M,R,I⟩:=h3.slice
  have D:=M.take A;rw[List.take_take,Nat.min_eq_left A]at D;have F:Hid (rT w g a S k (.returned (.tuple #[.slice p k k,.int .i64 0])) N):=Qh (Or.inl ⟨by rw[←B.out];exact h1,p,rfl,D,fun x T=>(I x T).1,by rw[←B.out];exact h4,h5⟩);clear h1 h3 h4 h5 M R I D G;go_wp2;go_ret2;exact F.out
 ·have F:Hid (rT w g a S k (.returned (.tuple #[.slice none 0 0,.int .i64 2])) N):=Qh (Or.inr ⟨by rw[←B.out];exact h1,rfl,h3,h4⟩)
  clear h1 h3 h4 G;go_wp2;go_ret2;exact F.out
structure rA (w:World) (g B:Nat) (v:Value) (bs:List UInt8):Prop where
 ei:w.heap[g]? =some (.cells #[v] 105 (0,0))
 own:eR w B v bs.length bs
section
variable {w w':World} {g B:Nat} {v:Value} {bs:List UInt8}
theorem rA.c0 (h:rA w g B v bs):w.cell? ⟨g,0,none⟩=some v:=gO h.ei 0
theorem rA.lt (h:rA w g B v bs):g<w.heap.size:=(Array.getElem?_eq_some_iff.1 h.ei).1
theorem rA.off (h:rA w g B v bs):v.ownBlock≠some g:=fun e=>by
 rcases h.own.2 with⟨rfl,_⟩|⟨b,cap,cur,rfl,_,hb,_⟩
 ·cases e
 ·simp only[Value.ownBlock,Option.some.injEq]at e
  subst e;rw[h.ei]at hb;have:105=5:=by injection hb with h1;injection h1
  exact absurd this (by decide)
theorem rA.kept {T:Nat→Prop} (h:rA w g B v bs) (hk:Kept T w w') (hg:¬T g) (hv:∀k,v.ownBlock=some k→¬T k):rA w' g B v bs:=⟨hk.some_ h.ei hg,h.own.kept hk hv⟩
theorem nC {p:Option Addr} {xs:List UInt8} (h:cB w p n xs) (hs:rA w g B v bs):0<n→∀x,p=some x→x.block≠g:=fun A x E e=>by
 obtain⟨b,o,G,hc⟩:=h A;rw[G]at E;cases E;have h1:=hc 0 A;change b=g at e;subst e;rw[gO hs.ei]at h1
 match o,h1 with
 |0,h1=>
  have D:v=.int .u8 (xs.getD 0 0).toNat:=by simpa using h1
  rcases hs.own.2 with⟨h2,_⟩|⟨b',cap,cur,h2,_⟩
  ·rw[D]at h2;cases h2
  ·rw[D]at h2;cases h2
 |o+1,h1=>simp at h1
end
def Dt (g:Nat) (v:Value):Nat→Prop:=fun k=>k=g∨v.ownBlock=some k
def LAt (w:World) (p:Option Addr) (n:Nat) (A:Nat→Option Addr) (M C:Nat→Nat) (Bs:Nat→List UInt8):Prop:=
 0<n→∃b o,p=some ⟨b,o,none⟩∧b<w.heap.size∧∀i,i<n→w.cell? ⟨b,o+i,none⟩=some (.slice (A i) (M i) (C i))∧cB w (A i) (M i) (Bs i)∧(Bs i).length=M i
def j5 (Bs:Nat→List UInt8):Nat→List UInt8
 |0=>[]
 |k+1=>j5 Bs k++Bs k
theorem Ej (Bs:Nat→List UInt8) (k:Nat):∀n,k≤n→(j5 Bs k).length≤(j5 Bs n).length
 |0,h=>by obtain rfl:k=0:=by omega
          exact Qk _
 |n+1,h=>by
  by_cases hk:k=n+1
  ·subst hk;exact Qk _
  ·have:=Ej Bs k n (by omega)
   rw[j5,Qf];omega
structure Jy (w:World) (g B:Nat) (v:Value) (bs:List UInt8) (Bs:Nat→List UInt8) (k:Nat) (v':Value) (wr:World):Prop where
 qQ:rA wr g B v' (bs++j5 Bs k)
 kept:Kept (Dt g v) w wr
 new:eW w v v'
def dz (w:World) (g B:Nat) (v:Value) (bs xs:List UInt8) (e:Ending) (w':World):Prop:=
 ∃v',e=.returned (.tuple #[])∧rA w' g B v' (bs++xs)∧Kept (Dt g v) w w'∧eW w v v'
theorem tX (w:World) (g B:Nat) (v:Value) (bs:List UInt8) (h:rA w g B v bs) (hB:B≤w.heap.size) (lp:Option Addr) (ln lc:Nat) (A:Nat→Option Addr) (M C:Nat→Nat) (Bs:Nat→List UInt8)
 (hl:LAt w lp ln A M C Bs) (T7:ln≤maxLen) (fA:0<ln→∀x,lp=some x→x.block≠g∧v.ownBlock≠some x.block) (O8:∀i,i<ln→0<M i→∀x,A i=some x→v.ownBlock≠some x.block)
 (lQ:(bs++j5 Bs ln).length≤140737488351232):
 Calls Tryz.prog 85 #[.pointer (some ⟨g,0,none⟩),.slice lp ln lc] w (dz w g B v bs (j5 Bs ln)):=by
 obtain⟨i0,hi,q,o,p⟩:=info_parts lR;unfold maxLen at T7;have u:=Qh hi;have lr:=Qh q;have jZ:=Qh o;have lu:=Qh p;have H:=Qh h;have y:=Qh hl;have ic:=Qh fA;have SI:=Qh O8;have z:=Qh lQ;clear hi q o p h hl fA O8 lQ
 go_enter Tryz.func85,Tryz.ntmps85
 go_wp2
 go_loopw [10] (fun i wr=>∃(k:Nat) (v':Value),k≤ln∧i=.int .i64 k∧Hid (Jy w g B v bs Bs k v' wr)) (fun i _=>ln - (RowKit.intOf i).toNat)
 case atStart=>exact⟨0,v,Nat.zero_le _,rfl,Qh ⟨by rw[j5,List.append_nil];exact H.out,Kept.refl _ _,eW.refl _ _⟩⟩
 case round=>
  obtain⟨k,v',hk,rfl,D⟩:=hrel
  by_cases l:k<ln
  ·obtain⟨lb,lo,Si,U,Z⟩:=y.out (by omega)
   subst Si;obtain⟨hcell,L,V⟩:=Z k l
   have d:¬Dt g v lb:=fun hh=>by
    have:=ic.out (by omega) _ rfl;rcases hh with hh|hh
    ·exact this.1 hh
    ·exact this.2 hh
   have Xy:=(World.cell?_of_block (a:=⟨lb,lo+k,none⟩) (D.out.kept.block lb U d)).trans hcell
   have m:cB wr (A k) (M k) (Bs k):=L.kept D.out.kept (fun r x E hh=>by
    rcases hh with hh|hh
    ·exact nC L H.out r x E hh
    ·exact SI.out k l r x E hh)
   have Nu:=D.out.qQ.c0;have hf0:=iB D.out.qQ.ei 0
   have G:(bs++j5 Bs k).length+M k≤140737488351232:=by
    have h1:=Ej Bs (k+1) ln (by omega);have h2:=z.out;rw[Qf]at h2⊢;rw[j5,Qf,V]at h1;omega
   have bI:=Qh m;have X:=Qh V;have fZ:=Qh G;have Y:B≤wr.heap.size:=Nat.le_trans hB D.out.kept.size;have VV:=Qh Y;clear Z L V d hcell m G Y
   go_wp2_with (at_builtin;refine pr rfl _ _ 26 rfl B 5 i0 Tryz.underlying26 u.out lr.out jZ.out lu.out v' _ _ rfl D.out.qQ.own (A k) (M k) (C k) (Bs k) rfl bI.out X.out fZ.out VV.out ?_)
   intro v2 w2 W b N;have R:Kept (fun x=>v'.ownBlock=some x) wr w2:=(Kept.refl _ wr).grown b (fun x E=>Or.inr E);have J:w2.heap[g]? =some (.cells #[v'] 105 (0,0)):=R.some_ D.out.qQ.ei (fun hh=>D.out.qQ.off hh)
   have O:eR w2 B v2 (bs++j5 Bs (k+1)).length (bs++j5 Bs (k+1)):=by
    unfold eR;have e:bs++j5 Bs (k+1)=(bs++j5 Bs k)++Bs k:=by rw[j5,List.append_assoc]
    rw[e,Qf,Qf,X.out];unfold nums at W⊢;rw[List.map_append,List.map_append];exact W
   have c:v2.ownBlock≠some g:=fun e=>by
    rcases N g e with h1|h1
    ·exact D.out.qQ.off h1
    ·have:=D.out.qQ.lt
     omega
   have R2:Hid (Jy w g B v bs Bs (k+1) v2 (w2.setCell ⟨g,0,none⟩ v2)):=Qh ⟨⟨px J 0 _ (by simp),O.kept (T:=aA g) ((Kept.refl (aA g) w2).setCell (Or.inr (show aA g g from rfl)) _) (fun x E e=>c (by rw[E];exact congrArg some e))⟩,
    ((D.out.kept.then R (fun x E=>by
      rcases D.out.new x E with h1|h1
      ·exact Or.inr (Or.inr h1)
      ·exact Or.inl h1)).setCell (Or.inr (Or.inl rfl)) _),D.out.new.trans N D.out.kept.size⟩
   have hf2:=iB J 0;have kr:=gO J 0;obtain⟨p2,c2,I,_⟩:=O.slice;obtain⟨t,f⟩:∃t,t=(bs++j5 Bs (k+1)).length:=⟨_,rfl⟩
   rw[←f]at I;subst I;clear W b N R J O c f;go_wp2;go_roundw
   case rel=>exact⟨k+1,_,by omega,by go_num,R2⟩
   case measure=>simp[RowKit.intOf];omega
  ·obtain rfl:k=ln:=by omega
   go_wp2
   go_end0
   exact⟨v',rfl,D.out.qQ,D.out.kept,D.out.new⟩
theorem y9 (x y:List UInt8):j5 (fun i=>if i=0 then x else y) 2=x++y:=by simp[j5]
theorem sr (x:List UInt8):j5 (fun _=>x) 1=x:=by simp[j5]
def jK (k:Nat):List UInt8:=List.replicate (eK k - k) 0
theorem wN (w:World) (g B:Nat) (v:Value) (bs:List UInt8) (h:rA w g B v bs) (hB:B≤w.heap.size) (p:Option Addr) (n c:Nat) (xs:List UInt8) (hb:cB w p n xs) (hl:xs.length=n) (fA:0<n→∀x,p=some x→v.ownBlock≠some x.block) (lQ:bs.length+eK n≤140737488351232):
 Calls Tryz.prog 84 #[.pointer (some ⟨g,0,none⟩),.slice p n c] w (dz w g B v bs (xs++jK n)):=by
 obtain⟨i0,hi,b,X,Y⟩:=info_parts lR;have f:=jE n;have zA:=rP n;have m:=Qh hi;have u:=Qh b;have t:=Qh X;have y:=Qh Y;have H:=Qh h;have l:=Qh hb;have L:=Qh hl;have r:=Qh fA;clear hi b X Y h hb hl fA
 go_enter Tryz.func84,Tryz.ntmps84
 go_wp2_with fail
 refine(Fa n _).mono ?_;rintro e A ⟨rfl,V⟩;rw[fK (by omega) (by omega),Af n (by omega)];obtain⟨P,G⟩:∃P,P=eK n:=⟨_,rfl⟩
 rw[←G]at f zA lQ⊢;have o:=Qh G;have Z:=Qh (Kept.aS V ag);clear G V
 go_wp2_with (at_make;refine wpList_make_full _ rfl _ _ 26 rfl A.heap.size 5 i0 (.int .u8 0) 1 Tryz.underlying26 m.out u.out t.out .i64 .i64 ((P:Int) - (n:Int)) ((P:Int) - (n:Int)) (P - n) rfl rfl (by omega) (by omega) (by rw[y.out];omega) (by unfold maxLen;omega) (Qk _) ?_)
 intro E T U;have D:=Qh (Z.out.trans ((Kept.refl ag A).grown U (by intro k hk;cases hk)))
 have d:eR E A.heap.size (.slice (some ⟨A.heap.size,0,none⟩) (P - n) (P - n)) (P - n) (jK n):=by
  unfold eR jK;rw[←o.out,←EY];exact T
 obtain⟨_,_,q,_,_,M,R,_⟩:=d.slice
 cases q
 have z:=Qh M;have O:=Qh R;clear T U d M R;go_wp2_with fail;refine(tX (E.alloc (.cells #[.slice p n c,.slice (some ⟨A.heap.size,0,none⟩) (P - n) (P - n)] 26)) g B v bs ?e1 ?e2 _ 2 2 (fun i=>if i=0 then p else some ⟨A.heap.size,0,none⟩) (fun i=>if i=0 then n else P - n) (fun i=>if i=0 then c else P - n) (fun i=>if i=0 then xs else jK n) ?e3 (by decide) ?e4 ?e5 ?e6).mono ?_
 case e1=>exact H.out.kept (D.out.alloc _) id (fun _ _=>id)
 case e2=>exact Nat.le_trans hB (D.out.alloc _).size
 case e3=>
  intro _;refine⟨E.heap.size,0,rfl,by simp,fun i hi=>?_⟩
  match i,hi with
  |0,_=>exact⟨by simp,(l.out.kept D.out (fun _ _ _=>id)).alloc _,L.out⟩
  |1,_=>exact⟨by simp,z.out.alloc _,O.out⟩
 case e4=>
  intro _ x I
  cases I
  have h1:=H.out.lt;have h2:=D.out.size;refine⟨by show E.heap.size≠g;omega,fun e=>?_⟩;have:E.heap.size<w.heap.size:=(H.out.own.lt _ e).2;omega
 case e5=>
  intro i hi
  match i,hi with
  |0,_=>exact r.out
  |1,_=>
   intro _ x I e
   cases I
   have:A.heap.size<w.heap.size:=(H.out.own.lt _ e).2;have:=Z.out.size;omega
 case e6=>rw[y9,Qf,Qf,L.out,O.out];omega
 rintro e w3 ⟨v',rfl,J,W,N⟩;rw[y9]at J
 have F:Hid (dz w g B v bs (xs++jK n) (.returned (.tuple #[])) w3):=Qh ⟨v',rfl,J,((D.out.dZ _).alloc _).trans W,fun k hk=>by
  rcases N k hk with h1|h1
  ·exact Or.inl h1
  ·exact Or.inr (Nat.le_trans (D.out.alloc _).size h1)⟩
 clear J W N;go_wp2
 go_end0
 exact F.out
theorem xu (w:World) (g B:Nat) (v:Value) (bs:List UInt8) (h:rA w g B v bs) (hB:B≤w.heap.size) (lQ:bs.length+1024≤140737488351232):
 Calls Tryz.prog 54 #[.pointer (some ⟨g,0,none⟩)] w (dz w g B v bs (List.replicate 1024 0)):=by
 obtain⟨i0,hi,b,X,Y⟩:=info_parts lR;have d:=Qh hi;have o:=Qh b;have m:=Qh X;have p:=Qh Y;have H:=Qh h;clear hi b X Y h;obtain⟨N,I⟩:∃N:Nat,N=1024:=⟨_,rfl⟩
 have A:=Qh I;obtain⟨Z,G⟩:∃Z:List UInt8,Z=List.replicate 1024 0:=⟨_,rfl⟩
 have T:Z.length=N:=by rw[G,List.length_replicate,I]
 rw[←G];have f:=Qh G;have R:=Qh T;clear I G T
 go_enter Tryz.func54,Tryz.ntmps54
 go_wp2_with (at_make;refine wpList_make_full _ rfl _ _ 26 rfl w.heap.size 5 i0 (.int .u8 0) 1 Tryz.underlying26 d.out o.out m.out .i64 .i64 1024 1024 N rfl rfl (by have:=A.out;omega) (by have:=A.out;omega) (by rw[p.out];have:=A.out;omega) (by unfold maxLen;have:=A.out;omega) (Qk _) ?_)
 intro E U V;have D:=Qh ((Kept.refl ag w).grown V (by intro k hk;cases hk))
 have c:eR E w.heap.size (.slice (some ⟨w.heap.size,0,none⟩) N N) N Z:=by
  unfold eR;rw[f.out,←A.out,←EY];exact U
 obtain⟨_,_,l,_,_,M,_,_⟩:=c.slice
 cases l
 have q:=Qh M;clear U V c M;go_wp2_with fail;refine(tX (E.alloc (.cells #[.slice (some ⟨w.heap.size,0,none⟩) N N] 26)) g B v bs ?e1 ?e2 _ 1 1 (fun _=>some ⟨w.heap.size,0,none⟩) (fun _=>N) (fun _=>N) (fun _=>Z) ?e3 (by decide) ?e4 ?e5 ?e6).mono ?_
 case e1=>exact H.out.kept (D.out.alloc _) id (fun _ _=>id)
 case e2=>exact Nat.le_trans hB (D.out.alloc _).size
 case e3=>
  intro _;refine⟨E.heap.size,0,rfl,by simp,fun i hi=>?_⟩
  match i,hi with
  |0,_=>exact⟨by simp,q.out.alloc _,R.out⟩
 case e4=>
  intro _ x J
  cases J
  have h1:=H.out.lt;have r:=D.out.size;refine⟨by show E.heap.size≠g;omega,fun e=>?_⟩;have:E.heap.size<w.heap.size:=(H.out.own.lt _ e).2;omega
 case e5=>
  intro i hi _ x J e
  cases J
  have:w.heap.size<w.heap.size:=(H.out.own.lt _ e).2;omega
 case e6=>rw[sr,Qf,R.out,A.out];omega
 rintro e w3 ⟨v',rfl,L,W,O⟩;rw[sr]at L
 have F:Hid (dz w g B v bs Z (.returned (.tuple #[])) w3):=Qh ⟨v',rfl,L,((D.out.dZ _).alloc _).trans W,fun k hk=>by
  rcases O k hk with h1|h1
  ·exact Or.inl h1
  ·exact Or.inr (Nat.le_trans (D.out.alloc _).size h1)⟩
 clear L W O;go_wp2
 go_end0
 exact F.out
theorem N9 (w:World) (g B:Nat) (v:Value) (bs:List UInt8) (h:rA w g B v bs) (hn:bs.length≤140737488351232):
 Calls Tryz.prog 55 #[.pointer (some ⟨g,0,none⟩)] w (iM w bs.length bs):=by
 have N:=h.c0;have hs:=h.own.slice;clear h;obtain⟨p,c,rfl,h1,J,E,L,M⟩:=hs;have G:=Qh E;clear h1 J E L M
 go_enter Tryz.func55,Tryz.ntmps55
 go_wp2_with fail
 refine(j6 w p _ c bs G.out rfl hn).mono ?_;rintro e O ⟨v',rfl,A,D⟩;have I:=Qh A;have H:=Qh D;clear A D;go_wp2;go_ret;exact⟨v',rfl,I.out,H.out⟩
end Block
namespace Block
open Go.Proofs Go.Shelf
theorem zD:(Tryz.prog.info? (Tryz.kb.t 27)).map (fun i=>(i.zero,i.size))=some (some (.agg (Array.replicate 256 (.bool false))),256):=by kernel_rfl
theorem uW (p:Option Addr) (n c:Nat) (bs:List UInt8) (w:World) (hl:bs.length=n) (hc:n≤c) (hm:c≤maxLen) (h:cB w p n bs):
 Calls Tryz.prog 134 #[.slice p n c,.string ⟨#[0]⟩] w fun e w'=>e=.returned (Lib.leftV p n c (n - (Lib.trimLeftS bs [0]).length))∧Below w.heap.size w w':=
 Any.bytes_TrimLeft_ascii Tryz.xV (zero_of_info zD).1 (zero_of_info zD).2 p n c bs ⟨#[0]⟩ w hl hc (by unfold maxLen at hm;omega) h (by decide) (fun j b A=>by
  match j,A with
  |0,A=>cases A;decide)
def wH (bs:List UInt8):Bool:=bs.all (·==0)
theorem AA:∀bs:List UInt8,decide ((Lib.trimLeftS bs [0]).length=0)=wH bs
 |[]=>rfl
 |x::l=>by
  unfold Lib.trimLeftS wH
  by_cases h:x=0
  ·subst h
   have:=AA l;unfold Lib.trimLeftS wH at this
   simpa using this
  ·have A:([0]:List UInt8).contains x=false:=by simpa using h
   rw[List.dropWhile_cons_of_neg (by rw[A];decide)];simp[h]
theorem yv (l:List UInt8):(Lib.trimLeftS l [0]).length≤l.length:=(List.dropWhile_suffix _:Lib.trimLeftS l [0]<:+l).length_le
theorem He (p:Option Addr) (n c k:Nat) (hk:k≤n):∃p' c',Lib.leftV p n c (n - k)=.slice p' k c':=by
 unfold Lib.leftV Lib.fromV
 by_cases A:k=0
 ·subst A
  exact⟨none,0,by rw[if_pos (by omega)]⟩
 ·by_cases h1:n - k=n
  ·omega
  ·rw[if_neg h1,show n - (n - k)=k by omega]
   exact⟨_,_,rfl⟩
theorem LC (w:World) (g a t:Nat) (S:Sv) (h:Src w g S a t):
 Calls Tryz.prog 100 #[.pointer (some ⟨g,0,none⟩)] w fun e w'=>e=.returned (.bool (wH (S.bs.drop a)))∧Src w' g S a t∧Kept ag w w':=by
 have H:=Qh h;clear h
 go_enter Tryz.func100,Tryz.ntmps100
 go_wp2_with fail
 refine(lS _ g a t S H.out).mono ?_;rintro e X ⟨rfl,E,L⟩;obtain⟨p,N,J,_⟩:=je E;rw[N];have hlen:(S.bs.drop a).length=S.n - a:=by rw[Qe,H.out.len]
 have B:=Qh E;have M:=Qh L;have V:=Qh J;have T:=Qh hlen;clear E L J N hlen;go_wp2_with fail;refine(uW p _ _ (S.bs.drop a) X T.out (by have:=B.out.nc;omega) (by have:=B.out.cm;omega) V.out).mono ?_;rintro e f ⟨rfl,I⟩;obtain⟨k,hk⟩:∃k,k=(Lib.trimLeftS (S.bs.drop a) [0]).length:=⟨_,rfl⟩
 have R:k≤S.n - a:=by rw[hk,←T.out];exact yv _
 rw[←hk];obtain⟨d,Y,O⟩:=He p (S.n - a) (S.c - a) k R;rw[O];have U:=Qh hk;have A:=Qh (Kept.aS I ag);clear O hk R I;have F:∀b,b=decide (k=0)→(Ending.returned (.bool b)=.returned (.bool (wH (S.bs.drop a)))):=fun b W=>by rw[W,U.out,AA]
 have G:=Qh F;clear F
 by_cases D:k=0
 ·subst D
  go_wp2;go_ret;exact⟨G.out true rfl,B.out.cJ A.out,M.out.trans A.out⟩
 ·have Z:((k:Int)==0)=false:=by simpa using D
  go_wp2;go_ret;exact⟨G.out false (by simp[D]),B.out.cJ A.out,M.out.trans A.out⟩
end Block
end Go.Proofs.YtdhibldkldlfpaaGreatDoor
