/- Merged. -/
import Derived.Test.YtdhibldkldlfpaaGreatDoorEmitOnceX12
import Derived.Test.YtdhibldkldlfpaaGreatDoorEmitOnceX16
import Derived.Lib.SliceRun
import Derived.Test.YtdhibldkldlfpaaGreatDoorEmitOnceX14
namespace Go.Proofs.YtdhibldkldlfpaaGreatDoor
set_option linter.unusedVariables false
set_option maxHeartbeats 1600000
open Go.ChangeShapes Go.WideShapes Go.ChangeAt Go.RowKit Base bJ qR Go.Lib
namespace Block
variable {n:Nat}
theorem Iv {w:World} {bs:List UInt8} (h:cj w none n bs):n=0:=by
 rcases Nat.eq_zero_or_pos n with h0|h0
 ·exact h0
 ·obtain⟨_,_,he,_⟩:=h h0
  cases he
def il (w:World) (n:Nat) (bs:List UInt8) (e:Ending) (w':World):Prop:=∃v,e=.returned v∧eu w' w.heap.size v n bs∧Kept af w w'
theorem jN (w:World) (p:Option Addr) (n c:Nat) (bs:List UInt8) (hb:cj w p n bs) (hl:bs.length=n) (hn:n≤140737488351232):
 Calls Tryz.prog 49 #[.slice p n c] w (il w n bs):=by
 obtain⟨i0,hi,L,J,I⟩:=info_parts lx;have V:∀(w:World) (a:Option Addr) (n c B A:Nat),(binOp .eql 26 (.slice a n c) (.slice none B A)).run Tryz.prog w=.ok (.bool a.isNone) w:=fun w a n c B A=>Lib.run_eql_slice_nil w _ _ a n c B A Tryz.underlying26
 have M:=Qh hi;have T:=Qh L;have R:=Qh J;have U:=Qh I;have D:=Qh hb;have E:=Qh hl;clear hi L J I hb hl;rcases p with _|x
 ·obtain rfl:=Iv D.out
  obtain rfl:bs=[]:=List.eq_nil_of_length_eq_zero E.out
  go_enter Tryz.func49,Tryz.ntmps49
  go_wp2;go_ret;exact⟨_,rfl,World.ownsRow_nil _ _ _ _,Kept.refl _ _⟩
 ·go_enter Tryz.func49,Tryz.ntmps49
  go_wp2_with (at_builtin;refine j7 rfl _ _ 26 rfl w.heap.size 5 i0 Tryz.underlying26 M.out T.out R.out U.out _ 0 [] rfl (World.ownsRow_made w #[] 0 (Qk _) (by decide) rfl) (some x) n c bs rfl (D.out.alloc _) E.out ?d2 ?d3 ?_)
  case d2=>omega
  case d3=>simp
  intro v' w1 G H;have O:=Qh G;have hk:Kept af w w1:=(((Kept.refl af w).alloc _)).grown H (by intro k hk;simp[Value.ownBlock]at hk;omega);have N:=Qh hk;clear G H hk;go_wp2;go_ret;exact⟨v',rfl,O.out,N.out⟩
def Dc (w:World) (bs:List UInt8) (zs:List Int) (e:Ending) (w':World):Prop:=
 ∃(g:Nat) (S:Sv),e=.returned (.pointer (some ⟨g,0,none⟩))∧w.heap.size≤g∧S.bs=bs∧S.n=bs.length∧S.zs=zs∧S.off g∧(∀x,S.p=some x→w.heap.size≤x.block)∧(∀x,S.q=some x→w.heap.size≤x.block)∧Src w' g S 0 0∧Kept af w w'
theorem Ml (w:World) (p:Option Addr) (n c:Nat) (bs:List UInt8) (q:Option Addr) (m d:Nat) (zs:List Int) (hb:cj w p n bs) (hl:bs.length=n) (hn:n≤140737488351232) (hq:Eg w q m zs) (hz:zs.length=m) (hm:m*8≤140737488351232):
 Calls Tryz.prog 70 #[.slice p n c,.slice q m d] w (Dc w bs zs):=by
 obtain⟨i0,hi,X,W,V⟩:=info_parts L9;have u:=Qh hi;have kN:=Qh X;have jG:=Qh W;have kO:=Qh V;have t:=Qh hb;have M:=Qh hl;have y:=Qh hq;have z:=Qh hz;clear hi X W V hb hl hq hz
 go_enter Tryz.func70,Tryz.ntmps70
 go_wp2_with fail
 refine(jN w p n c bs t.out M.out hn).mono ?_;rintro e J ⟨v,rfl,L,U⟩;have UL:=Qh L;have B:=Qh U;clear L U
 go_wp2_with (at_builtin;refine x9 rfl _ _ 23 rfl J.heap.size 3 i0 Tryz.underlying23 u.out kN.out jG.out kO.out _ 0 [] rfl (World.ownsRow_nil _ _ _ _) q m d zs rfl (y.out.kept B.out (fun _ _ _=>id)) z.out ?d2 ?d3 ?_)
 case d2=>omega
 case d3=>exact Qk _
 intro v' w2 O R;have N:=Qh O;have T:Kept af J w2:=(Kept.refl af J).grown R (by intro k hk;simp[Value.ownBlock]at hk);have G:=Qh T;clear O R T;obtain⟨H,c1,rfl,h1,Y,Z,b,f⟩:=UL.out.slice;obtain⟨I,d1,rfl,g,l,o,r,zV⟩:=BF N.out;have D:=vm N.out rfl
 have F:Hid (Dc w bs zs (.returned (.pointer (some ⟨w2.heap.size,0,none⟩))) (w2.alloc (.cells #[.slice H n c1,.int .i64 0,.slice I m d1,.int .i64 0] 132))):=Qh (by
  have E:Kept af w2 (w2.alloc (.cells #[.slice H n c1,.int .i64 0,.slice I m d1,.int .i64 0] 132)):=(Kept.refl af w2).alloc _;refine⟨w2.heap.size,⟨H,n,c1,bs,I,m,d1,zs⟩,rfl,(B.out.trans G.out).size,rfl,M.out.symm,rfl,?_,fun x A=>(f x A).1,fun x A=>Nat.le_trans B.out.size (D x A).1,⟨?_,?_,b,h1,Y,hn,Nat.zero_le _,?_,r,g,l,fun h=>h,fun _=>rfl⟩,(B.out.trans G.out).trans E⟩
  ·intro _ x A
   have:=(D x A).2.1;omega
  ·exact heap_alloc_new _ _
  ·exact(Z.kept G.out (fun _ _ _=>id)).kept E (fun _ _ _=>id)
  ·exact o.kept E (fun _ _ _=>id))
 clear h1 Y Z b f g l o r zV D;go_wp2;go_ret;exact F.out
def Ea (w:World) (g a:Nat) (S:Sv) (e:Ending) (w':World):Prop:=
 (a=S.n∧e=.returned (.tuple #[.slice none 0 0,.int .i64 14])∧(∃t',Src w' g S a t')∧Kept (aw g) w w')∨(a<S.n∧kR w g a S 512 e w')
theorem kR.from {w w1 w':World} {g a N:Nat} {S:Sv} {e:Ending} (hk:Kept (aw g) w w1) (h:kR w1 g a S N e w'):kR w g a S N e w':=by
 rcases h with⟨h1,v,h2,h3,h4,h5⟩|⟨h1,h2,h3,h4⟩
 ·exact Or.inl ⟨h1,v,h2,h3.mono hk.size,h4,hk.trans h5⟩
 ·exact Or.inr ⟨h1,h2,h3,hk.trans h4⟩
theorem kE (w:World) (g a t:Nat) (S:Sv) (h:Src w g S a t) (ho:S.off g):
 Calls Tryz.prog 71 #[.pointer (some ⟨g,0,none⟩)] w (Ea w g a S):=by
 have hle:=h.le;have H:=Qh h;have M:=Qh ho;clear h ho
 by_cases O:a=S.n
 ·have R:Hid (S.n - a=0):=Qh (by omega)
  go_enter Tryz.func71,Tryz.ntmps71
  go_wp2_with fail
  refine(lz _ g a t S H.out).mono ?_;rintro e T ⟨rfl,A,B⟩;obtain⟨p,D,_,_⟩:=iO A;rw[D,R.out];have J:=Qh A;have I:=Qh B;clear A B D;go_wp2;go_ret2;exact Or.inl ⟨O,rfl,⟨t,J.out⟩,I.out.dD _⟩
 ·obtain⟨l,hl⟩:∃l,S.n - a=l+1:=⟨S.n - a - 1,by omega⟩
  have G:=Qh hl;clear hl
  go_enter Tryz.func71,Tryz.ntmps71
  go_wp2_with fail
  refine(lz _ g a t S H.out).mono ?_;rintro e T ⟨rfl,A,B⟩;obtain⟨p,D,_,_⟩:=iO A;rw[D,G.out];have J:=Qh A;have I:=Qh B;clear A B D;have U:((((l+1:Nat):Int))==0)=false:=by simp;omega
  go_wp2_with fail
  refine(qq _ g a t S J.out M.out 512 (by decide)).mono ?_;intro e V L;have E:=Qh (L.from (I.out.dD _));clear L;have N:=E.out;rcases N with⟨h1,v,rfl,h3,h4,h5⟩|⟨h1,rfl,h3,h4⟩
  ·clear h1 h3 h4 h5
   go_wp2;go_ret2;exact Or.inr ⟨by have:=G.out;omega,E.out⟩
  ·clear h1 h3 h4
   go_wp2;go_ret2;exact Or.inr ⟨by have:=G.out;omega,E.out⟩
theorem po (w:World) (g a t:Nat) (S:Sv) (h:Src w g S a t):
 Calls Tryz.prog 43 #[.pointer (some ⟨g,0,none⟩)] w fun e w'=>e=.returned (.int .i64 a)∧w=w':=by
 have h1:=h.c1;clear h
 go_enter Tryz.func43,Tryz.ntmps43
 go_wp2;go_ret;exact⟨rfl,rfl⟩
def ei (k:Nat):Nat:=(k+511) / 512*512
theorem zi (k:Nat) (h:k≤4611686018427387904):xn (k:Int)=(ei k:Int):=by
 unfold xn ei;rw[if_pos ⟨by omega,by omega⟩]
 by_cases A:((k:Int) % 512=0)
 ·rw[if_pos A];omega
 ·rw[if_neg A];omega
theorem jo (k:Nat):k≤ei k:=by unfold ei;omega
theorem rh (k:Nat):ei k≤k+511:=by unfold ei;omega
def rm (w:World) (g a:Nat) (S:Sv) (k:Nat) (e:Ending) (w':World):Prop:=
 (a+ei k≤S.n∧∃p,e=.returned (.tuple #[.slice p k k,.int .i64 0])∧cj w' p k ((S.bs.drop a).take k)∧(∀x,p=some x→w.heap.size≤x.block)∧(∃t',Src w' g S (a+ei k) t')∧Kept (aw g) w w')∨
 (S.n<a+ei k∧e=.returned (.tuple #[.slice none 0 0,.int .i64 2])∧(∃t',Src w' g S S.n t')∧Kept (aw g) w w')
theorem yh (w:World) (g a t:Nat) (S:Sv) (h:Src w g S a t) (ho:S.off g) (k:Nat) (hn:k≤4611686018427387904):
 Calls Tryz.prog 108 #[.pointer (some ⟨g,0,none⟩),.int .i64 k] w (rm w g a S k):=by
 have H:=Qh h;have R:=Qh ho;clear h ho
 go_enter Tryz.func108,Tryz.ntmps108
 go_wp2_with fail
 refine(DX k _).mono ?_;rintro e X ⟨rfl,I⟩;rw[fj (by omega) (by omega),zi k hn];have J:=Qh (Kept.aM I af);clear I;have G:=jo k;have O:=rh k;obtain⟨P,D⟩:∃P,P=ei k:=⟨_,rfl⟩
 rw[←D]at G O⊢;have A:=Qh D;clear D;go_wp2_with fail;refine(qq _ g a t S (H.out.cz J.out) R.out P (by omega)).mono ?_;intro e M E;rcases E.from (J.out.dD _)with⟨h1,v,rfl,h3,h4,h5⟩|⟨h1,rfl,h3,h4⟩
 ·obtain⟨p,c,rfl,V,W,L,T,N⟩:=h3.slice
  have B:=L.take G;rw[List.take_take,Nat.min_eq_left G]at B;have F:Hid (rm w g a S k (.returned (.tuple #[.slice p k k,.int .i64 0])) M):=Qh (Or.inl ⟨by rw[←A.out];exact h1,p,rfl,B,fun x U=>(N x U).1,by rw[←A.out];exact h4,h5⟩);clear h1 h3 h4 h5 L T N B E;go_wp2;go_ret2;exact F.out
 ·have F:Hid (rm w g a S k (.returned (.tuple #[.slice none 0 0,.int .i64 2])) M):=Qh (Or.inr ⟨by rw[←A.out];exact h1,rfl,h3,h4⟩)
  clear h1 h3 h4 E;go_wp2;go_ret2;exact F.out
structure qS (w:World) (g B:Nat) (v:Value) (bs:List UInt8):Prop where
 gm:w.heap[g]? =some (.cells #[v] 105 (0,0))
 own:eu w B v bs.length bs
section
variable {w w':World} {g B:Nat} {v:Value} {bs:List UInt8}
theorem qS.c0 (h:qS w g B v bs):w.cell? ⟨g,0,none⟩=some v:=gz h.gm 0
theorem qS.lt (h:qS w g B v bs):g<w.heap.size:=(Array.getElem?_eq_some_iff.1 h.gm).1
theorem qS.off (h:qS w g B v bs):v.ownBlock≠some g:=fun e=>by
 rcases h.own.2 with⟨rfl,_⟩|⟨b,cap,cur,rfl,_,hb,_⟩
 ·cases e
 ·simp only[Value.ownBlock,Option.some.injEq]at e
  subst e;rw[h.gm]at hb;have:105=5:=by injection hb with h1;injection h1
  exact absurd this (by decide)
theorem qS.kept {T:Nat→Prop} (h:qS w g B v bs) (hk:Kept T w w') (hg:¬T g) (hv:∀k,v.ownBlock=some k→¬T k):qS w' g B v bs:=⟨hk.some_ h.gm hg,h.own.kept hk hv⟩
theorem mU {p:Option Addr} {xs:List UInt8} (h:cj w p n xs) (hs:qS w g B v bs):0<n→∀x,p=some x→x.block≠g:=fun A x E e=>by
 obtain⟨b,o,G,hc⟩:=h A;rw[G]at E;cases E;have h1:=hc 0 A;change b=g at e;subst e;rw[gz hs.gm]at h1
 match o,h1 with
 |0,h1=>
  have D:v=.int .u8 (xs.getD 0 0).toNat:=by simpa using h1
  rcases hs.own.2 with⟨h2,_⟩|⟨b',cap,cur,h2,_⟩
  ·rw[D]at h2;cases h2
  ·rw[D]at h2;cases h2
 |o+1,h1=>simp at h1
end
def Cn (g:Nat) (v:Value):Nat→Prop:=fun k=>k=g∨v.ownBlock=some k
def ZW (w:World) (p:Option Addr) (n:Nat) (A:Nat→Option Addr) (M C:Nat→Nat) (Bs:Nat→List UInt8):Prop:=
 0<n→∃b o,p=some ⟨b,o,none⟩∧b<w.heap.size∧∀i,i<n→w.cell? ⟨b,o+i,none⟩=some (.slice (A i) (M i) (C i))∧cj w (A i) (M i) (Bs i)∧(Bs i).length=M i
def jM (Bs:Nat→List UInt8):Nat→List UInt8
 |0=>[]
 |k+1=>jM Bs k++Bs k
theorem Dh (Bs:Nat→List UInt8) (k:Nat):∀n,k≤n→(jM Bs k).length≤(jM Bs n).length
 |0,h=>by obtain rfl:k=0:=by omega
          exact Qk _
 |n+1,h=>by
  by_cases hk:k=n+1
  ·subst hk;exact Qk _
  ·have:=Dh Bs k n (by omega)
   rw[jM,Qf];omega
structure Ib (w:World) (g B:Nat) (v:Value) (bs:List UInt8) (Bs:Nat→List UInt8) (k:Nat) (v':Value) (wr:World):Prop where
 qp:qS wr g B v' (bs++jM Bs k)
 kept:Kept (Cn g v) w wr
 new:eL w v v'
def cV (w:World) (g B:Nat) (v:Value) (bs xs:List UInt8) (e:Ending) (w':World):Prop:=
 ∃v',e=.returned (.tuple #[])∧qS w' g B v' (bs++xs)∧Kept (Cn g v) w w'∧eL w v v'
theorem tr (w:World) (g B:Nat) (v:Value) (bs:List UInt8) (h:qS w g B v bs) (hB:B≤w.heap.size) (lp:Option Addr) (ln lc:Nat) (A:Nat→Option Addr) (M C:Nat→Nat) (Bs:Nat→List UInt8)
 (hl:ZW w lp ln A M C Bs) (Sr:ln≤maxLen) (eX:0<ln→∀x,lp=some x→x.block≠g∧v.ownBlock≠some x.block) (Np:∀i,i<ln→0<M i→∀x,A i=some x→v.ownBlock≠some x.block)
 (lr:(bs++jM Bs ln).length≤140737488351232):
 Calls Tryz.prog 85 #[.pointer (some ⟨g,0,none⟩),.slice lp ln lc] w (cV w g B v bs (jM Bs ln)):=by
 obtain⟨i0,hi,q,p,o⟩:=info_parts lx;unfold maxLen at Sr;have u:=Qh hi;have kN:=Qh q;have jG:=Qh p;have kO:=Qh o;have H:=Qh h;have y:=Qh hl;have gK:=Qh eX;have Q4:=Qh Np;have z:=Qh lr;clear hi q p o h hl eX Np lr
 go_enter Tryz.func85,Tryz.ntmps85
 go_wp2
 go_loopw [10] (fun i wr=>∃(k:Nat) (v':Value),k≤ln∧i=.int .i64 k∧Hid (Ib w g B v bs Bs k v' wr)) (fun i _=>ln - (RowKit.intOf i).toNat)
 case atStart=>exact⟨0,v,Nat.zero_le _,rfl,Qh ⟨by rw[jM,List.append_nil];exact H.out,Kept.refl _ _,eL.refl _ _⟩⟩
 case round=>
  obtain⟨k,v',hk,rfl,D⟩:=hrel
  by_cases l:k<ln
  ·obtain⟨lb,lo,QC,R,Y⟩:=y.out (by omega)
   subst QC;obtain⟨hcell,J,U⟩:=Y k l
   have d:¬Cn g v lb:=fun hh=>by
    have:=gK.out (by omega) _ rfl;rcases hh with hh|hh
    ·exact this.1 hh
    ·exact this.2 hh
   have VU:=(World.cell?_of_block (a:=⟨lb,lo+k,none⟩) (D.out.kept.block lb R d)).trans hcell
   have m:cj wr (A k) (M k) (Bs k):=J.kept D.out.kept (fun r x E hh=>by
    rcases hh with hh|hh
    ·exact mU J H.out r x E hh
    ·exact Q4.out k l r x E hh)
   have OS:=D.out.qp.c0;have hf0:=gZ D.out.qp.gm 0
   have G:(bs++jM Bs k).length+M k≤140737488351232:=by
    have h1:=Dh Bs (k+1) ln (by omega);have h2:=z.out;rw[Qf]at h2⊢;rw[jM,Qf,U]at h1;omega
   have cf:=Qh m;have X:=Qh U;have fF:=Qh G;have W:B≤wr.heap.size:=Nat.le_trans hB D.out.kept.size;have Uv:=Qh W;clear Y J U d hcell m G W
   go_wp2_with (at_builtin;refine oT rfl _ _ 26 rfl B 5 i0 Tryz.underlying26 u.out kN.out jG.out kO.out v' _ _ rfl D.out.qp.own (A k) (M k) (C k) (Bs k) rfl cf.out X.out fF.out Uv.out ?_)
   intro v2 w2 V Z L;have O:Kept (fun x=>v'.ownBlock=some x) wr w2:=(Kept.refl _ wr).grown Z (fun x E=>Or.inr E);have I:w2.heap[g]? =some (.cells #[v'] 105 (0,0)):=O.some_ D.out.qp.gm (fun hh=>D.out.qp.off hh)
   have N:eu w2 B v2 (bs++jM Bs (k+1)).length (bs++jM Bs (k+1)):=by
    unfold eu;have e:bs++jM Bs (k+1)=(bs++jM Bs k)++Bs k:=by rw[jM,List.append_assoc]
    rw[e,Qf,Qf,X.out];unfold nums at V⊢;rw[List.map_append,List.map_append];exact V
   have b:v2.ownBlock≠some g:=fun e=>by
    rcases L g e with h1|h1
    ·exact D.out.qp.off h1
    ·have:=D.out.qp.lt
     omega
   have R2:Hid (Ib w g B v bs Bs (k+1) v2 (w2.setCell ⟨g,0,none⟩ v2)):=Qh ⟨⟨oW I 0 _ (by simp),N.kept (T:=aw g) ((Kept.refl (aw g) w2).setCell (Or.inr (show aw g g from rfl)) _) (fun x E e=>b (by rw[E];exact congrArg some e))⟩,
    ((D.out.kept.then O (fun x E=>by
      rcases D.out.new x E with h1|h1
      ·exact Or.inr (Or.inr h1)
      ·exact Or.inl h1)).setCell (Or.inr (Or.inl rfl)) _),D.out.new.trans L D.out.kept.size⟩
   have T1:=gZ I 0;have la:=gz I 0;obtain⟨p2,c2,f,_⟩:=N.slice;obtain⟨t,c⟩:∃t,t=(bs++jM Bs (k+1)).length:=⟨_,rfl⟩
   rw[←c]at f;subst f;clear V Z L O I N b c;go_wp2;go_roundw
   case rel=>exact⟨k+1,_,by omega,by go_num,R2⟩
   case measure=>simp[RowKit.intOf];omega
  ·obtain rfl:k=ln:=by omega
   go_wp2
   go_end0
   exact⟨v',rfl,D.out.qp,D.out.kept,D.out.new⟩
theorem yj (x y:List UInt8):jM (fun i=>if i=0 then x else y) 2=x++y:=by simp[jM]
theorem rH (x:List UInt8):jM (fun _=>x) 1=x:=by simp[jM]
def js (k:Nat):List UInt8:=List.replicate (ei k - k) 0
theorem vB (w:World) (g B:Nat) (v:Value) (bs:List UInt8) (h:qS w g B v bs) (hB:B≤w.heap.size) (p:Option Addr) (n c:Nat) (xs:List UInt8) (hb:cj w p n xs) (hl:xs.length=n) (eX:0<n→∀x,p=some x→v.ownBlock≠some x.block) (lr:bs.length+ei n≤140737488351232):
 Calls Tryz.prog 84 #[.pointer (some ⟨g,0,none⟩),.slice p n c] w (cV w g B v bs (xs++js n)):=by
 obtain⟨i0,hi,b,Z,X⟩:=info_parts lx;have zX:=jo n;have f:=rh n;have m:=Qh hi;have y:=Qh b;have u:=Qh Z;have z:=Qh X;have H:=Qh h;have l:=Qh hb;have L:=Qh hl;have r:=Qh eX;clear hi b Z X h hb hl eX
 go_enter Tryz.func84,Tryz.ntmps84
 go_wp2_with fail
 refine(DX n _).mono ?_;rintro e A ⟨rfl,T⟩;rw[fj (by omega) (by omega),zi n (by omega)];obtain⟨P,G⟩:∃P,P=ei n:=⟨_,rfl⟩
 rw[←G]at zX f lr⊢;have o:=Qh G;have Y:=Qh (Kept.aM T af);clear G T
 go_wp2_with (at_make;refine wpList_make_full _ rfl _ _ 26 rfl A.heap.size 5 i0 (.int .u8 0) 1 Tryz.underlying26 m.out y.out u.out .i64 .i64 ((P:Int) - (n:Int)) ((P:Int) - (n:Int)) (P - n) rfl rfl (by omega) (by omega) (by rw[z.out];omega) (by unfold maxLen;omega) (Qk _) ?_)
 intro E U V;have D:=Qh (Y.out.trans ((Kept.refl af A).grown V (by intro k hk;cases hk)))
 have d:eu E A.heap.size (.slice (some ⟨A.heap.size,0,none⟩) (P - n) (P - n)) (P - n) (js n):=by
  unfold eu js;rw[←o.out,←DQ];exact U
 obtain⟨_,_,t,_,_,N,R,_⟩:=d.slice
 cases t
 have q:=Qh N;have O:=Qh R;clear U V d N R;go_wp2_with fail;refine(tr (E.alloc (.cells #[.slice p n c,.slice (some ⟨A.heap.size,0,none⟩) (P - n) (P - n)] 26)) g B v bs ?e1 ?e2 _ 2 2 (fun i=>if i=0 then p else some ⟨A.heap.size,0,none⟩) (fun i=>if i=0 then n else P - n) (fun i=>if i=0 then c else P - n) (fun i=>if i=0 then xs else js n) ?e3 (by decide) ?e4 ?e5 ?e6).mono ?_
 case e1=>exact H.out.kept (D.out.alloc _) id (fun _ _=>id)
 case e2=>exact Nat.le_trans hB (D.out.alloc _).size
 case e3=>
  intro _;refine⟨E.heap.size,0,rfl,by simp,fun i hi=>?_⟩
  match i,hi with
  |0,_=>exact⟨by simp,(l.out.kept D.out (fun _ _ _=>id)).alloc _,L.out⟩
  |1,_=>exact⟨by simp,q.out.alloc _,O.out⟩
 case e4=>
  intro _ x I
  cases I
  have h1:=H.out.lt;have h2:=D.out.size;refine⟨by show E.heap.size≠g;omega,fun e=>?_⟩;have:E.heap.size<w.heap.size:=(H.out.own.lt _ e).2;omega
 case e5=>
  intro i hi
  match i,hi with
  |0,_=>exact r.out
  |1,_=>
   intro _ x I e
   cases I
   have:A.heap.size<w.heap.size:=(H.out.own.lt _ e).2;have:=Y.out.size;omega
 case e6=>rw[yj,Qf,Qf,L.out,O.out];omega
 rintro e w3 ⟨v',rfl,J,W,M⟩;rw[yj]at J
 have F:Hid (cV w g B v bs (xs++js n) (.returned (.tuple #[])) w3):=Qh ⟨v',rfl,J,((D.out.dD _).alloc _).trans W,fun k hk=>by
  rcases M k hk with h1|h1
  ·exact Or.inl h1
  ·exact Or.inr (Nat.le_trans (D.out.alloc _).size h1)⟩
 clear J W M;go_wp2
 go_end0
 exact F.out
theorem wF (w:World) (g B:Nat) (v:Value) (bs:List UInt8) (h:qS w g B v bs) (hB:B≤w.heap.size) (lr:bs.length+1024≤140737488351232):
 Calls Tryz.prog 54 #[.pointer (some ⟨g,0,none⟩)] w (cV w g B v bs (List.replicate 1024 0)):=by
 obtain⟨i0,hi,b,Y,X⟩:=info_parts lx;have d:=Qh hi;have p:=Qh b;have o:=Qh Y;have q:=Qh X;have H:=Qh h;clear hi b Y X h;obtain⟨N,I⟩:∃N:Nat,N=1024:=⟨_,rfl⟩
 have A:=Qh I;obtain⟨Z,G⟩:∃Z:List UInt8,Z=List.replicate 1024 0:=⟨_,rfl⟩
 have T:Z.length=N:=by rw[G,List.length_replicate,I]
 rw[←G];have f:=Qh G;have R:=Qh T;clear I G T
 go_enter Tryz.func54,Tryz.ntmps54
 go_wp2_with (at_make;refine wpList_make_full _ rfl _ _ 26 rfl w.heap.size 5 i0 (.int .u8 0) 1 Tryz.underlying26 d.out p.out o.out .i64 .i64 1024 1024 N rfl rfl (by have:=A.out;omega) (by have:=A.out;omega) (by rw[q.out];have:=A.out;omega) (by unfold maxLen;have:=A.out;omega) (Qk _) ?_)
 intro E U V;have D:=Qh ((Kept.refl af w).grown V (by intro k hk;cases hk))
 have c:eu E w.heap.size (.slice (some ⟨w.heap.size,0,none⟩) N N) N Z:=by
  unfold eu;rw[f.out,←A.out,←DQ];exact U
 obtain⟨_,_,m,_,_,O,_,_⟩:=c.slice
 cases m
 have l:=Qh O;clear U V c O;go_wp2_with fail;refine(tr (E.alloc (.cells #[.slice (some ⟨w.heap.size,0,none⟩) N N] 26)) g B v bs ?e1 ?e2 _ 1 1 (fun _=>some ⟨w.heap.size,0,none⟩) (fun _=>N) (fun _=>N) (fun _=>Z) ?e3 (by decide) ?e4 ?e5 ?e6).mono ?_
 case e1=>exact H.out.kept (D.out.alloc _) id (fun _ _=>id)
 case e2=>exact Nat.le_trans hB (D.out.alloc _).size
 case e3=>
  intro _;refine⟨E.heap.size,0,rfl,by simp,fun i hi=>?_⟩
  match i,hi with
  |0,_=>exact⟨by simp,l.out.alloc _,R.out⟩
 case e4=>
  intro _ x J
  cases J
  have h1:=H.out.lt;have r:=D.out.size;refine⟨by show E.heap.size≠g;omega,fun e=>?_⟩;have:E.heap.size<w.heap.size:=(H.out.own.lt _ e).2;omega
 case e5=>
  intro i hi _ x J e
  cases J
  have:w.heap.size<w.heap.size:=(H.out.own.lt _ e).2;omega
 case e6=>rw[rH,Qf,R.out,A.out];omega
 rintro e w3 ⟨v',rfl,L,W,M⟩;rw[rH]at L
 have F:Hid (cV w g B v bs Z (.returned (.tuple #[])) w3):=Qh ⟨v',rfl,L,((D.out.dD _).alloc _).trans W,fun k hk=>by
  rcases M k hk with h1|h1
  ·exact Or.inl h1
  ·exact Or.inr (Nat.le_trans (D.out.alloc _).size h1)⟩
 clear L W M;go_wp2
 go_end0
 exact F.out
theorem Mt (w:World) (g B:Nat) (v:Value) (bs:List UInt8) (h:qS w g B v bs) (hn:bs.length≤140737488351232):
 Calls Tryz.prog 55 #[.pointer (some ⟨g,0,none⟩)] w (il w bs.length bs):=by
 have N:=h.c0;have hs:=h.own.slice;clear h;obtain⟨p,c,rfl,h1,J,E,L,M⟩:=hs;have G:=Qh E;clear h1 J E L M
 go_enter Tryz.func55,Tryz.ntmps55
 go_wp2_with fail
 refine(jN w p _ c bs G.out rfl hn).mono ?_;rintro e O ⟨v',rfl,A,D⟩;have I:=Qh A;have H:=Qh D;clear A D;go_wp2;go_ret;exact⟨v',rfl,I.out,H.out⟩
end Block
namespace Block
open Go.Proofs Go.Shelf
theorem yM:(Tryz.prog.info? (Tryz.jU.t 27)).map (fun i=>(i.zero,i.size))=some (some (.agg (Array.replicate 256 (.bool false))),256):=by kernel_rfl
theorem uo (p:Option Addr) (n c:Nat) (bs:List UInt8) (w:World) (hl:bs.length=n) (hc:n≤c) (hm:c≤maxLen) (h:cj w p n bs):
 Calls Tryz.prog 134 #[.slice p n c,.string ⟨#[0]⟩] w fun e w'=>e=.returned (Lib.leftV p n c (n - (Lib.trimLeftS bs [0]).length))∧Below w.heap.size w w':=
 Any.bytes_TrimLeft_ascii Tryz.xd (zero_of_info yM).1 (zero_of_info yM).2 p n c bs ⟨#[0]⟩ w hl hc (by unfold maxLen at hm;omega) h (by decide) (fun j b A=>by
  match j,A with
  |0,A=>cases A;decide)
def vy (bs:List UInt8):Bool:=bs.all (·==0)
theorem zE:∀bs:List UInt8,decide ((Lib.trimLeftS bs [0]).length=0)=vy bs
 |[]=>rfl
 |x::l=>by
  unfold Lib.trimLeftS vy
  by_cases h:x=0
  ·subst h
   have:=zE l;unfold Lib.trimLeftS vy at this
   simpa using this
  ·have A:([0]:List UInt8).contains x=false:=by simpa using h
   rw[List.dropWhile_cons_of_neg (by rw[A];decide)];simp[h]
theorem xG (l:List UInt8):(Lib.trimLeftS l [0]).length≤l.length:=(List.dropWhile_suffix _:Lib.trimLeftS l [0]<:+l).length_le
theorem F1 (p:Option Addr) (n c k:Nat) (hk:k≤n):∃p' c',Lib.leftV p n c (n - k)=.slice p' k c':=by
 unfold Lib.leftV Lib.fromV
 by_cases A:k=0
 ·subst A
  exact⟨none,0,by rw[if_pos (by omega)]⟩
 ·by_cases h1:n - k=n
  ·omega
  ·rw[if_neg h1,show n - (n - k)=k by omega]
   exact⟨_,_,rfl⟩
theorem Kg (w:World) (g a t:Nat) (S:Sv) (h:Src w g S a t):
 Calls Tryz.prog 100 #[.pointer (some ⟨g,0,none⟩)] w fun e w'=>e=.returned (.bool (vy (S.bs.drop a)))∧Src w' g S a t∧Kept af w w':=by
 have H:=Qh h;clear h
 go_enter Tryz.func100,Tryz.ntmps100
 go_wp2_with fail
 refine(lz _ g a t S H.out).mono ?_;rintro e X ⟨rfl,E,L⟩;obtain⟨p,N,I,_⟩:=iO E;rw[N];have hlen:(S.bs.drop a).length=S.n - a:=by rw[Qe,H.out.len]
 have B:=Qh E;have M:=Qh L;have V:=Qh I;have T:=Qh hlen;clear E L I N hlen;go_wp2_with fail;refine(uo p _ _ (S.bs.drop a) X T.out (by have:=B.out.nc;omega) (by have:=B.out.cm;omega) V.out).mono ?_;rintro e f ⟨rfl,J⟩;obtain⟨k,hk⟩:∃k,k=(Lib.trimLeftS (S.bs.drop a) [0]).length:=⟨_,rfl⟩
 have R:k≤S.n - a:=by rw[hk,←T.out];exact xG _
 rw[←hk];obtain⟨d,Y,O⟩:=F1 p (S.n - a) (S.c - a) k R;rw[O];have U:=Qh hk;have A:=Qh (Kept.aM J af);clear O hk R J;have F:∀b,b=decide (k=0)→(Ending.returned (.bool b)=.returned (.bool (vy (S.bs.drop a)))):=fun b W=>by rw[W,U.out,zE]
 have G:=Qh F;clear F
 by_cases D:k=0
 ·subst D
  go_wp2;go_ret;exact⟨G.out true rfl,B.out.cz A.out,M.out.trans A.out⟩
 ·have Z:((k:Int)==0)=false:=by simpa using D
  go_wp2;go_ret;exact⟨G.out false (by simp[D]),B.out.cz A.out,M.out.trans A.out⟩
end Block
end Go.Proofs.YtdhibldkldlfpaaGreatDoor
