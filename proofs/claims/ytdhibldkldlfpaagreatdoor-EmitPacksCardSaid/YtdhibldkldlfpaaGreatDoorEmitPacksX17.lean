/- Merged. -/
import Derived.Test.YtdhibldkldlfpaaGreatDoorEmitPacksX12
import Derived.Test.YtdhibldkldlfpaaGreatDoorEmitPacksX16
import Derived.Lib.SliceRun
import Derived.Test.YtdhibldkldlfpaaGreatDoorEmitPacksX14
namespace Go.Proofs.YtdhibldkldlfpaaGreatDoor
set_option linter.unusedVariables false
set_option maxHeartbeats 1600000
open Go.ChangeShapes Go.WideShapes Go.ChangeAt Go.RowKit Base cf rr Go.Lib
namespace Block
variable {n:Nat}
theorem Nv {w:World} {bs:List UInt8} (h:cK w none n bs):n=0:=by
 rcases Nat.eq_zero_or_pos n with h0|h0
 ·exact h0
 ·obtain⟨_,_,he,_⟩:=h h0
  cases he
def jM (w:World) (n:Nat) (bs:List UInt8) (e:Ending) (w':World):Prop:=∃v,e=.returned v∧cR w' w.heap.size v n bs∧Kept ai w w'
theorem lx (w:World) (p:Option Addr) (n c:Nat) (bs:List UInt8) (hb:cK w p n bs) (hl:bs.length=n) (hn:n≤140737488351232):
 Calls Tryz.prog 49 #[.slice p n c] w (jM w n bs):=by
 obtain⟨i0,hi,L,I,J⟩:=info_parts iy;have V:∀(w:World) (a:Option Addr) (n c B A:Nat),(binOp .eql 26 (.slice a n c) (.slice none B A)).run Tryz.prog w=.ok (.bool a.isNone) w:=fun w a n c B A=>Lib.run_eql_slice_nil w _ _ a n c B A Tryz.underlying26
 have M:=Qh hi;have T:=Qh L;have R:=Qh I;have U:=Qh J;have D:=Qh hb;have E:=Qh hl;clear hi L I J hb hl;rcases p with _|x
 ·obtain rfl:=Nv D.out
  obtain rfl:bs=[]:=List.eq_nil_of_length_eq_zero E.out
  go_enter Tryz.func49,Tryz.ntmps49
  go_wp2;go_ret;exact⟨_,rfl,World.ownsRow_nil _ _ _ _,Kept.refl _ _⟩
 ·go_enter Tryz.func49,Tryz.ntmps49
  go_wp2_with (at_builtin;refine eU rfl _ _ 26 rfl w.heap.size 5 i0 Tryz.underlying26 M.out T.out R.out U.out _ 0 [] rfl (World.ownsRow_made w #[] 0 (Qk _) (by decide) rfl) (some x) n c bs rfl (D.out.alloc _) E.out ?d2 ?d3 ?_)
  case d2=>omega
  case d3=>simp
  intro v' w1 G H;have O:=Qh G;have hk:Kept ai w w1:=(((Kept.refl ai w).alloc _)).grown H (by intro k hk;simp[Value.ownBlock]at hk;omega);have N:=Qh hk;clear G H hk;go_wp2;go_ret;exact⟨v',rfl,O.out,N.out⟩
def Hs (w:World) (bs:List UInt8) (zs:List Int) (e:Ending) (w':World):Prop:=
 ∃(g:Nat) (S:Sv),e=.returned (.pointer (some ⟨g,0,none⟩))∧w.heap.size≤g∧S.bs=bs∧S.n=bs.length∧S.zs=zs∧S.off g∧(∀x,S.p=some x→w.heap.size≤x.block)∧(∀x,S.q=some x→w.heap.size≤x.block)∧Src w' g S 0 0∧Kept ai w w'
theorem SJ (w:World) (p:Option Addr) (n c:Nat) (bs:List UInt8) (q:Option Addr) (m d:Nat) (zs:List Int) (hb:cK w p n bs) (hl:bs.length=n) (hn:n≤140737488351232) (hq:Ho w q m zs) (hz:zs.length=m) (hm:m*8≤140737488351232):
 Calls Tryz.prog 70 #[.slice p n c,.slice q m d] w (Hs w bs zs):=by
 obtain⟨i0,hi,W,R,T⟩:=info_parts Sj;have u:=Qh hi;have jr:=Qh W;have ib:=Qh R;have js:=Qh T;have t:=Qh hb;have L:=Qh hl;have y:=Qh hq;have z:=Qh hz;clear hi W R T hb hl hq hz
 go_enter Tryz.func70,Tryz.ntmps70
 go_wp2_with fail
 refine(lx w p n c bs t.out L.out hn).mono ?_;rintro e J ⟨v,rfl,r,V⟩;have Tx:=Qh r;have B:=Qh V;clear r V
 go_wp2_with (at_builtin;refine BQ rfl _ _ 23 rfl J.heap.size 3 i0 Tryz.underlying23 u.out jr.out ib.out js.out _ 0 [] rfl (World.ownsRow_nil _ _ _ _) q m d zs rfl (y.out.kept B.out (fun _ _ _=>id)) z.out ?d2 ?d3 ?_)
 case d2=>omega
 case d3=>exact Qk _
 intro v' w2 N O;have M:=Qh N;have U:Kept ai J w2:=(Kept.refl ai J).grown O (by intro k hk;simp[Value.ownBlock]at hk);have G:=Qh U;clear N O U;obtain⟨H,c1,rfl,h1,X,Y,Z,b⟩:=Tx.out.slice;obtain⟨I,d1,rfl,f,g,l,o,ni⟩:=FG M.out;have D:=yW M.out rfl
 have F:Hid (Hs w bs zs (.returned (.pointer (some ⟨w2.heap.size,0,none⟩))) (w2.alloc (.cells #[.slice H n c1,.int .i64 0,.slice I m d1,.int .i64 0] 132))):=Qh (by
  have E:Kept ai w2 (w2.alloc (.cells #[.slice H n c1,.int .i64 0,.slice I m d1,.int .i64 0] 132)):=(Kept.refl ai w2).alloc _;refine⟨w2.heap.size,⟨H,n,c1,bs,I,m,d1,zs⟩,rfl,(B.out.trans G.out).size,rfl,L.out.symm,rfl,?_,fun x A=>(b x A).1,fun x A=>Nat.le_trans B.out.size (D x A).1,⟨?_,?_,Z,h1,X,hn,Nat.zero_le _,?_,o,f,g,fun h=>h,fun _=>rfl⟩,(B.out.trans G.out).trans E⟩
  ·intro _ x A
   have:=(D x A).2.1;omega
  ·exact heap_alloc_new _ _
  ·exact(Y.kept G.out (fun _ _ _=>id)).kept E (fun _ _ _=>id)
  ·exact l.kept E (fun _ _ _=>id))
 clear h1 X Y Z b f g l o ni D;go_wp2;go_ret;exact F.out
def Jk (w:World) (g a:Nat) (S:Sv) (e:Ending) (w':World):Prop:=
 (a=S.n∧e=.returned (.tuple #[.slice none 0 0,.int .i64 14])∧(∃t',Src w' g S a t')∧Kept (ay g) w w')∨(a<S.n∧mX w g a S 512 e w')
theorem mX.from {w w1 w':World} {g a N:Nat} {S:Sv} {e:Ending} (hk:Kept (ay g) w w1) (h:mX w1 g a S N e w'):mX w g a S N e w':=by
 rcases h with⟨h1,v,h2,h3,h4,h5⟩|⟨h1,h2,h3,h4⟩
 ·exact Or.inl ⟨h1,v,h2,h3.mono hk.size,h4,hk.trans h5⟩
 ·exact Or.inr ⟨h1,h2,h3,hk.trans h4⟩
theorem mH (w:World) (g a t:Nat) (S:Sv) (h:Src w g S a t) (ho:S.off g):
 Calls Tryz.prog 71 #[.pointer (some ⟨g,0,none⟩)] w (Jk w g a S):=by
 have hle:=h.le;have H:=Qh h;have N:=Qh ho;clear h ho
 by_cases I:a=S.n
 ·have R:Hid (S.n - a=0):=Qh (by omega)
  go_enter Tryz.func71,Tryz.ntmps71
  go_wp2_with fail
  refine(nu _ g a t S H.out).mono ?_;rintro e T ⟨rfl,A,B⟩;obtain⟨p,D,_,_⟩:=j9 A;rw[D,R.out];have J:=Qh A;have G:=Qh B;clear A B D;go_wp2;go_ret2;exact Or.inl ⟨I,rfl,⟨t,J.out⟩,G.out.dY _⟩
 ·obtain⟨l,hl⟩:∃l,S.n - a=l+1:=⟨S.n - a - 1,by omega⟩
  have L:=Qh hl;clear hl
  go_enter Tryz.func71,Tryz.ntmps71
  go_wp2_with fail
  refine(nu _ g a t S H.out).mono ?_;rintro e T ⟨rfl,A,B⟩;obtain⟨p,D,_,_⟩:=j9 A;rw[D,L.out];have J:=Qh A;have G:=Qh B;clear A B D;have U:((((l+1:Nat):Int))==0)=false:=by simp;omega
  go_wp2_with fail
  refine(tz _ g a t S J.out N.out 512 (by decide)).mono ?_;intro e V M;have E:=Qh (M.from (G.out.dY _));clear M;have O:=E.out;rcases O with⟨h1,v,rfl,h3,h4,h5⟩|⟨h1,rfl,h3,h4⟩
  ·clear h1 h3 h4 h5
   go_wp2;go_ret2;exact Or.inr ⟨by have:=L.out;omega,E.out⟩
  ·clear h1 h3 h4
   go_wp2;go_ret2;exact Or.inr ⟨by have:=L.out;omega,E.out⟩
theorem rV (w:World) (g a t:Nat) (S:Sv) (h:Src w g S a t):
 Calls Tryz.prog 43 #[.pointer (some ⟨g,0,none⟩)] w fun e w'=>e=.returned (.int .i64 a)∧w=w':=by
 have h1:=h.c1;clear h
 go_enter Tryz.func43,Tryz.ntmps43
 go_wp2;go_ret;exact⟨rfl,rfl⟩
def fJ (k:Nat):Nat:=(k+511) / 512*512
theorem Dc (k:Nat) (h:k≤4611686018427387904):AK (k:Int)=(fJ k:Int):=by
 unfold AK fJ;rw[if_pos ⟨by omega,by omega⟩]
 by_cases A:((k:Int) % 512=0)
 ·rw[if_pos A];omega
 ·rw[if_neg A];omega
theorem kJ (k:Nat):k≤fJ k:=by unfold fJ;omega
theorem uv (k:Nat):fJ k≤k+511:=by unfold fJ;omega
def uz (w:World) (g a:Nat) (S:Sv) (k:Nat) (e:Ending) (w':World):Prop:=
 (a+fJ k≤S.n∧∃p,e=.returned (.tuple #[.slice p k k,.int .i64 0])∧cK w' p k ((S.bs.drop a).take k)∧(∀x,p=some x→w.heap.size≤x.block)∧(∃t',Src w' g S (a+fJ k) t')∧Kept (ay g) w w')∨
 (S.n<a+fJ k∧e=.returned (.tuple #[.slice none 0 0,.int .i64 2])∧(∃t',Src w' g S S.n t')∧Kept (ay g) w w')
theorem B0 (w:World) (g a t:Nat) (S:Sv) (h:Src w g S a t) (ho:S.off g) (k:Nat) (hn:k≤4611686018427387904):
 Calls Tryz.prog 108 #[.pointer (some ⟨g,0,none⟩),.int .i64 k] w (uz w g a S k):=by
 have H:=Qh h;have R:=Qh ho;clear h ho
 go_enter Tryz.func108,Tryz.ntmps108
 go_wp2_with fail
 refine(I0 k _).mono ?_;rintro e X ⟨rfl,I⟩;rw[gN (by omega) (by omega),Dc k hn];have J:=Qh (Kept.aO I ai);clear I;have A:=kJ k;have O:=uv k;obtain⟨P,E⟩:∃P,P=fJ k:=⟨_,rfl⟩
 rw[←E]at A O⊢;have B:=Qh E;clear E;go_wp2_with fail;refine(tz _ g a t S (H.out.du J.out) R.out P (by omega)).mono ?_;intro e N G;rcases G.from (J.out.dY _)with⟨h1,v,rfl,h3,h4,h5⟩|⟨h1,rfl,h3,h4⟩
 ·obtain⟨p,c,rfl,V,W,L,T,M⟩:=h3.slice
  have D:=L.take A;rw[List.take_take,Nat.min_eq_left A]at D;have F:Hid (uz w g a S k (.returned (.tuple #[.slice p k k,.int .i64 0])) N):=Qh (Or.inl ⟨by rw[←B.out];exact h1,p,rfl,D,fun x U=>(M x U).1,by rw[←B.out];exact h4,h5⟩);clear h1 h3 h4 h5 L T M D G;go_wp2;go_ret2;exact F.out
 ·have F:Hid (uz w g a S k (.returned (.tuple #[.slice none 0 0,.int .i64 2])) N):=Qh (Or.inr ⟨by rw[←B.out];exact h1,rfl,h3,h4⟩)
  clear h1 h3 h4 G;go_wp2;go_ret2;exact F.out
structure tX (w:World) (g B:Nat) (v:Value) (bs:List UInt8):Prop where
 fi:w.heap[g]? =some (.cells #[v] 105 (0,0))
 own:cR w B v bs.length bs
section
variable {w w':World} {g B:Nat} {v:Value} {bs:List UInt8}
theorem tX.c0 (h:tX w g B v bs):w.cell? ⟨g,0,none⟩=some v:=iW h.fi 0
theorem tX.lt (h:tX w g B v bs):g<w.heap.size:=(Array.getElem?_eq_some_iff.1 h.fi).1
theorem tX.off (h:tX w g B v bs):v.ownBlock≠some g:=fun e=>by
 rcases h.own.2 with⟨rfl,_⟩|⟨b,cap,cur,rfl,_,hb,_⟩
 ·cases e
 ·simp only[Value.ownBlock,Option.some.injEq]at e
  subst e;rw[h.fi]at hb;have:105=5:=by injection hb with h1;injection h1
  exact absurd this (by decide)
theorem tX.kept {T:Nat→Prop} (h:tX w g B v bs) (hk:Kept T w w') (hg:¬T g) (hv:∀k,v.ownBlock=some k→¬T k):tX w' g B v bs:=⟨hk.some_ h.fi hg,h.own.kept hk hv⟩
theorem px {p:Option Addr} {xs:List UInt8} (h:cK w p n xs) (hs:tX w g B v bs):0<n→∀x,p=some x→x.block≠g:=fun A x E e=>by
 obtain⟨b,o,G,hc⟩:=h A;rw[G]at E;cases E;have h1:=hc 0 A;change b=g at e;subst e;rw[iW hs.fi]at h1
 match o,h1 with
 |0,h1=>
  have D:v=.int .u8 (xs.getD 0 0).toNat:=by simpa using h1
  rcases hs.own.2 with⟨h2,_⟩|⟨b',cap,cur,h2,_⟩
  ·rw[D]at h2;cases h2
  ·rw[D]at h2;cases h2
 |o+1,h1=>simp at h1
end
def Gy (g:Nat) (v:Value):Nat→Prop:=fun k=>k=g∨v.ownBlock=some k
def LAt (w:World) (p:Option Addr) (n:Nat) (A:Nat→Option Addr) (M C:Nat→Nat) (Bs:Nat→List UInt8):Prop:=
 0<n→∃b o,p=some ⟨b,o,none⟩∧b<w.heap.size∧∀i,i<n→w.cell? ⟨b,o+i,none⟩=some (.slice (A i) (M i) (C i))∧cK w (A i) (M i) (Bs i)∧(Bs i).length=M i
def lu (Bs:Nat→List UInt8):Nat→List UInt8
 |0=>[]
 |k+1=>lu Bs k++Bs k
theorem H5 (Bs:Nat→List UInt8) (k:Nat):∀n,k≤n→(lu Bs k).length≤(lu Bs n).length
 |0,h=>by obtain rfl:k=0:=by omega
          exact Qk _
 |n+1,h=>by
  by_cases hk:k=n+1
  ·subst hk;exact Qk _
  ·have:=H5 Bs k n (by omega)
   rw[lu,Qf];omega
structure Nc (w:World) (g B:Nat) (v:Value) (bs:List UInt8) (Bs:Nat→List UInt8) (k:Nat) (v':Value) (wr:World):Prop where
 tx:tX wr g B v' (bs++lu Bs k)
 kept:Kept (Gy g v) w wr
 new:dN w v v'
def dV (w:World) (g B:Nat) (v:Value) (bs xs:List UInt8) (e:Ending) (w':World):Prop:=
 ∃v',e=.returned (.tuple #[])∧tX w' g B v' (bs++xs)∧Kept (Gy g v) w w'∧dN w v v'
theorem xa (w:World) (g B:Nat) (v:Value) (bs:List UInt8) (h:tX w g B v bs) (hB:B≤w.heap.size) (lp:Option Addr) (ln lc:Nat) (A:Nat→Option Addr) (M C:Nat→Nat) (Bs:Nat→List UInt8)
 (hl:LAt w lp ln A M C Bs) (Zo:ln≤maxLen) (gz:0<ln→∀x,lp=some x→x.block≠g∧v.ownBlock≠some x.block) (T5:∀i,i<ln→0<M i→∀x,A i=some x→v.ownBlock≠some x.block)
 (gA:(bs++lu Bs ln).length≤140737488351232):
 Calls Tryz.prog 85 #[.pointer (some ⟨g,0,none⟩),.slice lp ln lc] w (dV w g B v bs (lu Bs ln)):=by
 obtain⟨i0,hi,r,p,q⟩:=info_parts iy;unfold maxLen at Zo;have y:=Qh hi;have jr:=Qh r;have ib:=Qh p;have js:=Qh q;have H:=Qh h;have z:=Qh hl;have il:=Qh gz;have X6:=Qh T5;have HS:=Qh gA;clear hi r p q h hl gz T5 gA
 go_enter Tryz.func85,Tryz.ntmps85
 go_wp2
 go_loopw [10] (fun i wr=>∃(k:Nat) (v':Value),k≤ln∧i=.int .i64 k∧Hid (Nc w g B v bs Bs k v' wr)) (fun i _=>ln - (RowKit.intOf i).toNat)
 case atStart=>exact⟨0,v,Nat.zero_le _,rfl,Qh ⟨by rw[lu,List.append_nil];exact H.out,Kept.refl _ _,dN.refl _ _⟩⟩
 case round=>
  obtain⟨k,v',hk,rfl,D⟩:=hrel
  by_cases m:k<ln
  ·obtain⟨lb,lo,IA,U,b⟩:=z.out (by omega)
   subst IA;obtain⟨hcell,N,V⟩:=b k m
   have l:¬Gy g v lb:=fun hh=>by
    have:=il.out (by omega) _ rfl;rcases hh with hh|hh
    ·exact this.1 hh
    ·exact this.2 hh
   have af0:=(World.cell?_of_block (a:=⟨lb,lo+k,none⟩) (D.out.kept.block lb U l)).trans hcell
   have o:cK wr (A k) (M k) (Bs k):=N.kept D.out.kept (fun t x E hh=>by
    rcases hh with hh|hh
    ·exact px N H.out t x E hh
    ·exact X6.out k m t x E hh)
   have Oa:=D.out.tx.c0;have Y4:=jB D.out.tx.fi 0
   have G:(bs++lu Bs k).length+M k≤140737488351232:=by
    have h1:=H5 Bs (k+1) ln (by omega);have h2:=HS.out;rw[Qf]at h2⊢;rw[lu,Qf,V]at h1;omega
   have bT:=Qh o;have Z:=Qh V;have im:=Qh G;have Y:B≤wr.heap.size:=Nat.le_trans hB D.out.kept.size;have L:=Qh Y;clear b N V l hcell o G Y
   go_wp2_with (at_builtin;refine ry rfl _ _ 26 rfl B 5 i0 Tryz.underlying26 y.out jr.out ib.out js.out v' _ _ rfl D.out.tx.own (A k) (M k) (C k) (Bs k) rfl bT.out Z.out im.out L.out ?_)
   intro v2 w2 W c O;have R:Kept (fun x=>v'.ownBlock=some x) wr w2:=(Kept.refl _ wr).grown c (fun x E=>Or.inr E);have J:w2.heap[g]? =some (.cells #[v'] 105 (0,0)):=R.some_ D.out.tx.fi (fun hh=>D.out.tx.off hh)
   have X:cR w2 B v2 (bs++lu Bs (k+1)).length (bs++lu Bs (k+1)):=by
    unfold cR;have e:bs++lu Bs (k+1)=(bs++lu Bs k)++Bs k:=by rw[lu,List.append_assoc]
    rw[e,Qf,Qf,Z.out];unfold nums at W⊢;rw[List.map_append,List.map_append];exact W
   have d:v2.ownBlock≠some g:=fun e=>by
    rcases O g e with h1|h1
    ·exact D.out.tx.off h1
    ·have:=D.out.tx.lt
     omega
   have R2:Hid (Nc w g B v bs Bs (k+1) v2 (w2.setCell ⟨g,0,none⟩ v2)):=Qh ⟨⟨rB J 0 _ (by simp),X.kept (T:=ay g) ((Kept.refl (ay g) w2).setCell (Or.inr (show ay g g from rfl)) _) (fun x E e=>d (by rw[E];exact congrArg some e))⟩,
    ((D.out.kept.then R (fun x E=>by
      rcases D.out.new x E with h1|h1
      ·exact Or.inr (Or.inr h1)
      ·exact Or.inl h1)).setCell (Or.inr (Or.inl rfl)) _),D.out.new.trans O D.out.kept.size⟩
   have hf2:=jB J 0;have ju:=iW J 0;obtain⟨p2,c2,I,_⟩:=X.slice;obtain⟨u,f⟩:∃u,u=(bs++lu Bs (k+1)).length:=⟨_,rfl⟩
   rw[←f]at I;subst I;clear W c O R J X d f;go_wp2;go_roundw
   case rel=>exact⟨k+1,_,by omega,by go_num,R2⟩
   case measure=>simp[RowKit.intOf];omega
  ·obtain rfl:k=ln:=by omega
   go_wp2
   go_end0
   exact⟨v',rfl,D.out.tx,D.out.kept,D.out.new⟩
theorem B3 (x y:List UInt8):lu (fun i=>if i=0 then x else y) 2=x++y:=by simp[lu]
theorem uR (x:List UInt8):lu (fun _=>x) 1=x:=by simp[lu]
def kO (k:Nat):List UInt8:=List.replicate (fJ k - k) 0
theorem zn (w:World) (g B:Nat) (v:Value) (bs:List UInt8) (h:tX w g B v bs) (hB:B≤w.heap.size) (p:Option Addr) (n c:Nat) (xs:List UInt8) (hb:cK w p n xs) (hl:xs.length=n) (gz:0<n→∀x,p=some x→v.ownBlock≠some x.block) (gA:bs.length+fJ n≤140737488351232):
 Calls Tryz.prog 84 #[.pointer (some ⟨g,0,none⟩),.slice p n c] w (dV w g B v bs (xs++kO n)):=by
 obtain⟨i0,hi,Z,W,X⟩:=info_parts iy;have l:=kJ n;have f:=uv n;have o:=Qh hi;have y:=Qh Z;have t:=Qh W;have z:=Qh X;have H:=Qh h;have m:=Qh hb;have M:=Qh hl;have u:=Qh gz;clear hi Z W X h hb hl gz
 go_enter Tryz.func84,Tryz.ntmps84
 go_wp2_with fail
 refine(I0 n _).mono ?_;rintro e A ⟨rfl,V⟩;rw[gN (by omega) (by omega),Dc n (by omega)];obtain⟨P,I⟩:∃P,P=fJ n:=⟨_,rfl⟩
 rw[←I]at l f gA⊢;have q:=Qh I;have b:=Qh (Kept.aO V ai);clear I V
 go_wp2_with (at_make;refine wpList_make_full _ rfl _ _ 26 rfl A.heap.size 5 i0 (.int .u8 0) 1 Tryz.underlying26 o.out y.out t.out .i64 .i64 ((P:Int) - (n:Int)) ((P:Int) - (n:Int)) (P - n) rfl rfl (by omega) (by omega) (by rw[z.out];omega) (by unfold maxLen;omega) (Qk _) ?_)
 intro G T U;have D:=Qh (b.out.trans ((Kept.refl ai A).grown U (by intro k hk;cases hk)))
 have d:cR G A.heap.size (.slice (some ⟨A.heap.size,0,none⟩) (P - n) (P - n)) (P - n) (kO n):=by
  unfold cR kO;rw[←q.out,←IP];exact T
 obtain⟨_,_,r,_,_,N,E,_⟩:=d.slice
 cases r
 have mU:=Qh N;have R:=Qh E;clear T U d N E;go_wp2_with fail;refine(xa (G.alloc (.cells #[.slice p n c,.slice (some ⟨A.heap.size,0,none⟩) (P - n) (P - n)] 26)) g B v bs ?e1 ?e2 _ 2 2 (fun i=>if i=0 then p else some ⟨A.heap.size,0,none⟩) (fun i=>if i=0 then n else P - n) (fun i=>if i=0 then c else P - n) (fun i=>if i=0 then xs else kO n) ?e3 (by decide) ?e4 ?e5 ?e6).mono ?_
 case e1=>exact H.out.kept (D.out.alloc _) id (fun _ _=>id)
 case e2=>exact Nat.le_trans hB (D.out.alloc _).size
 case e3=>
  intro _;refine⟨G.heap.size,0,rfl,by simp,fun i hi=>?_⟩
  match i,hi with
  |0,_=>exact⟨by simp,(m.out.kept D.out (fun _ _ _=>id)).alloc _,M.out⟩
  |1,_=>exact⟨by simp,mU.out.alloc _,R.out⟩
 case e4=>
  intro _ x J
  cases J
  have h1:=H.out.lt;have h2:=D.out.size;refine⟨by show G.heap.size≠g;omega,fun e=>?_⟩;have:G.heap.size<w.heap.size:=(H.out.own.lt _ e).2;omega
 case e5=>
  intro i hi
  match i,hi with
  |0,_=>exact u.out
  |1,_=>
   intro _ x J e
   cases J
   have:A.heap.size<w.heap.size:=(H.out.own.lt _ e).2;have:=b.out.size;omega
 case e6=>rw[B3,Qf,Qf,M.out,R.out];omega
 rintro e w3 ⟨v',rfl,L,Y,O⟩;rw[B3]at L
 have F:Hid (dV w g B v bs (xs++kO n) (.returned (.tuple #[])) w3):=Qh ⟨v',rfl,L,((D.out.dY _).alloc _).trans Y,fun k hk=>by
  rcases O k hk with h1|h1
  ·exact Or.inl h1
  ·exact Or.inr (Nat.le_trans (D.out.alloc _).size h1)⟩
 clear L Y O;go_wp2
 go_end0
 exact F.out
theorem zR (w:World) (g B:Nat) (v:Value) (bs:List UInt8) (h:tX w g B v bs) (hB:B≤w.heap.size) (gA:bs.length+1024≤140737488351232):
 Calls Tryz.prog 54 #[.pointer (some ⟨g,0,none⟩)] w (dV w g B v bs (List.replicate 1024 0)):=by
 obtain⟨i0,hi,b,W,X⟩:=info_parts iy;have d:=Qh hi;have o:=Qh b;have m:=Qh W;have p:=Qh X;have H:=Qh h;clear hi b W X h;obtain⟨N,J⟩:∃N:Nat,N=1024:=⟨_,rfl⟩
 have A:=Qh J;obtain⟨Z,I⟩:∃Z:List UInt8,Z=List.replicate 1024 0:=⟨_,rfl⟩
 have E:Z.length=N:=by rw[I,List.length_replicate,J]
 rw[←I];have f:=Qh I;have T:=Qh E;clear J I E
 go_enter Tryz.func54,Tryz.ntmps54
 go_wp2_with (at_make;refine wpList_make_full _ rfl _ _ 26 rfl w.heap.size 5 i0 (.int .u8 0) 1 Tryz.underlying26 d.out o.out m.out .i64 .i64 1024 1024 N rfl rfl (by have:=A.out;omega) (by have:=A.out;omega) (by rw[p.out];have:=A.out;omega) (by unfold maxLen;have:=A.out;omega) (Qk _) ?_)
 intro G U V;have D:=Qh ((Kept.refl ai w).grown V (by intro k hk;cases hk))
 have c:cR G w.heap.size (.slice (some ⟨w.heap.size,0,none⟩) N N) N Z:=by
  unfold cR;rw[f.out,←A.out,←IP];exact U
 obtain⟨_,_,l,_,_,O,_,_⟩:=c.slice
 cases l
 have q:=Qh O;clear U V c O;go_wp2_with fail;refine(xa (G.alloc (.cells #[.slice (some ⟨w.heap.size,0,none⟩) N N] 26)) g B v bs ?e1 ?e2 _ 1 1 (fun _=>some ⟨w.heap.size,0,none⟩) (fun _=>N) (fun _=>N) (fun _=>Z) ?e3 (by decide) ?e4 ?e5 ?e6).mono ?_
 case e1=>exact H.out.kept (D.out.alloc _) id (fun _ _=>id)
 case e2=>exact Nat.le_trans hB (D.out.alloc _).size
 case e3=>
  intro _;refine⟨G.heap.size,0,rfl,by simp,fun i hi=>?_⟩
  match i,hi with
  |0,_=>exact⟨by simp,q.out.alloc _,T.out⟩
 case e4=>
  intro _ x L
  cases L
  have h1:=H.out.lt;have r:=D.out.size;refine⟨by show G.heap.size≠g;omega,fun e=>?_⟩;have:G.heap.size<w.heap.size:=(H.out.own.lt _ e).2;omega
 case e5=>
  intro i hi _ x L e
  cases L
  have:w.heap.size<w.heap.size:=(H.out.own.lt _ e).2;omega
 case e6=>rw[uR,Qf,T.out,A.out];omega
 rintro e w3 ⟨v',rfl,M,Y,R⟩;rw[uR]at M
 have F:Hid (dV w g B v bs Z (.returned (.tuple #[])) w3):=Qh ⟨v',rfl,M,((D.out.dY _).alloc _).trans Y,fun k hk=>by
  rcases R k hk with h1|h1
  ·exact Or.inl h1
  ·exact Or.inr (Nat.le_trans (D.out.alloc _).size h1)⟩
 clear M Y R;go_wp2
 go_end0
 exact F.out
theorem SU (w:World) (g B:Nat) (v:Value) (bs:List UInt8) (h:tX w g B v bs) (hn:bs.length≤140737488351232):
 Calls Tryz.prog 55 #[.pointer (some ⟨g,0,none⟩)] w (jM w bs.length bs):=by
 have N:=h.c0;have hs:=h.own.slice;clear h;obtain⟨p,c,rfl,h1,J,D,L,M⟩:=hs;have G:=Qh D;clear h1 J D L M
 go_enter Tryz.func55,Tryz.ntmps55
 go_wp2_with fail
 refine(lx w p _ c bs G.out rfl hn).mono ?_;rintro e O ⟨v',rfl,E,A⟩;have I:=Qh E;have H:=Qh A;clear E A;go_wp2;go_ret;exact⟨v',rfl,I.out,H.out⟩
end Block
namespace Block
open Go.Proofs Go.Shelf
theorem Cy:(Tryz.prog.info? (Tryz.lE.t 27)).map (fun i=>(i.zero,i.size))=some (some (.agg (Array.replicate 256 (.bool false))),256):=by kernel_rfl
theorem x9 (p:Option Addr) (n c:Nat) (bs:List UInt8) (w:World) (hl:bs.length=n) (hc:n≤c) (hm:c≤maxLen) (h:cK w p n bs):
 Calls Tryz.prog 134 #[.slice p n c,.string ⟨#[0]⟩] w fun e w'=>e=.returned (Lib.leftV p n c (n - (Lib.trimLeftS bs [0]).length))∧Below w.heap.size w w':=
 Any.bytes_TrimLeft_ascii Tryz.Ax (zero_of_info Cy).1 (zero_of_info Cy).2 p n c bs ⟨#[0]⟩ w hl hc (by unfold maxLen at hm;omega) h (by decide) (fun j b A=>by
  match j,A with
  |0,A=>cases A;decide)
def zf (bs:List UInt8):Bool:=bs.all (·==0)
theorem DA:∀bs:List UInt8,decide ((Lib.trimLeftS bs [0]).length=0)=zf bs
 |[]=>rfl
 |x::l=>by
  unfold Lib.trimLeftS zf
  by_cases h:x=0
  ·subst h
   have:=DA l;unfold Lib.trimLeftS zf at this
   simpa using this
  ·have A:([0]:List UInt8).contains x=false:=by simpa using h
   rw[List.dropWhile_cons_of_neg (by rw[A];decide)];simp[h]
theorem A8 (l:List UInt8):(Lib.trimLeftS l [0]).length≤l.length:=(List.dropWhile_suffix _:Lib.trimLeftS l [0]<:+l).length_le
theorem K9 (p:Option Addr) (n c k:Nat) (hk:k≤n):∃p' c',Lib.leftV p n c (n - k)=.slice p' k c':=by
 unfold Lib.leftV Lib.fromV
 by_cases A:k=0
 ·subst A
  exact⟨none,0,by rw[if_pos (by omega)]⟩
 ·by_cases h1:n - k=n
  ·omega
  ·rw[if_neg h1,show n - (n - k)=k by omega]
   exact⟨_,_,rfl⟩
theorem PQ (w:World) (g a t:Nat) (S:Sv) (h:Src w g S a t):
 Calls Tryz.prog 100 #[.pointer (some ⟨g,0,none⟩)] w fun e w'=>e=.returned (.bool (zf (S.bs.drop a)))∧Src w' g S a t∧Kept ai w w':=by
 have H:=Qh h;clear h
 go_enter Tryz.func100,Tryz.ntmps100
 go_wp2_with fail
 refine(nu _ g a t S H.out).mono ?_;rintro e X ⟨rfl,E,M⟩;obtain⟨p,R,J,_⟩:=j9 E;rw[R];have hlen:(S.bs.drop a).length=S.n - a:=by rw[Qe,H.out.len]
 have B:=Qh E;have N:=Qh M;have V:=Qh J;have O:=Qh hlen;clear E M J R hlen;go_wp2_with fail;refine(x9 p _ _ (S.bs.drop a) X O.out (by have:=B.out.nc;omega) (by have:=B.out.cm;omega) V.out).mono ?_;rintro e f ⟨rfl,I⟩;obtain⟨k,hk⟩:∃k,k=(Lib.trimLeftS (S.bs.drop a) [0]).length:=⟨_,rfl⟩
 have L:k≤S.n - a:=by rw[hk,←O.out];exact A8 _
 rw[←hk];obtain⟨d,Y,T⟩:=K9 p (S.n - a) (S.c - a) k L;rw[T];have U:=Qh hk;have A:=Qh (Kept.aO I ai);clear T hk L I;have F:∀b,b=decide (k=0)→(Ending.returned (.bool b)=.returned (.bool (zf (S.bs.drop a)))):=fun b W=>by rw[W,U.out,DA]
 have G:=Qh F;clear F
 by_cases D:k=0
 ·subst D
  go_wp2;go_ret;exact⟨G.out true rfl,B.out.du A.out,N.out.trans A.out⟩
 ·have Z:((k:Int)==0)=false:=by simpa using D
  go_wp2;go_ret;exact⟨G.out false (by simp[D]),B.out.du A.out,N.out.trans A.out⟩
end Block
end Go.Proofs.YtdhibldkldlfpaaGreatDoor
