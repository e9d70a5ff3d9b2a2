/- Merged. -/
import Derived.Test.YtdhibldkldlfpaaGreatDoorEmitUnpacksX12
import Derived.Test.YtdhibldkldlfpaaGreatDoorEmitUnpacksX16
import Derived.Lib.SliceRun
import Derived.Test.YtdhibldkldlfpaaGreatDoorEmitUnpacksX14
namespace Go.Proofs.YtdhibldkldlfpaaGreatDoor
set_option linter.unusedVariables false
set_option maxHeartbeats 1600000
open Go.ChangeShapes Go.WideShapes Go.ChangeAt Go.RowKit Base cb ur Go.Lib
namespace Block
variable {n:Nat}
theorem TS {w:World} {bs:List UInt8} (h:iC w none n bs):n=0:=by
 rcases Nat.eq_zero_or_pos n with h0|h0
 ·exact h0
 ·obtain⟨_,_,he,_⟩:=h h0
  cases he
def qC (w:World) (n:Nat) (bs:List UInt8) (e:Ending) (w':World):Prop:=∃v,e=.returned v∧j3 w' w.heap.size v n bs∧Kept ag w w'
theorem sv (w:World) (p:Option Addr) (n c:Nat) (bs:List UInt8) (hb:iC w p n bs) (hl:bs.length=n) (hn:n≤140737488351232):
 Calls Tryz.prog 49 #[.slice p n c] w (qC w n bs):=by
 obtain⟨i0,hi,L,I,J⟩:=info_parts qZ;have U:∀(w:World) (a:Option Addr) (n c B A:Nat),(binOp .eql 26 (.slice a n c) (.slice none B A)).run Tryz.prog w=.ok (.bool a.isNone) w:=fun w a n c B A=>Lib.run_eql_slice_nil w _ _ a n c B A Tryz.underlying26
 have M:=Qh hi;have V:=Qh L;have T:=Qh I;have R:=Qh J;have D:=Qh hb;have E:=Qh hl;clear hi L I J hb hl;rcases p with _|x
 ·obtain rfl:=TS D.out
  obtain rfl:bs=[]:=List.eq_nil_of_length_eq_zero E.out
  go_enter Tryz.func49,Tryz.ntmps49
  go_wp2;go_ret;exact⟨_,rfl,World.ownsRow_nil _ _ _ _,Kept.refl _ _⟩
 ·go_enter Tryz.func49,Tryz.ntmps49
  go_wp2_with (at_builtin;refine kt rfl _ _ 26 rfl w.heap.size 5 i0 Tryz.underlying26 M.out V.out T.out R.out _ 0 [] rfl (World.ownsRow_made w #[] 0 (Qk _) (by decide) rfl) (some x) n c bs rfl (D.out.alloc _) E.out ?d2 ?d3 ?_)
  case d2=>omega
  case d3=>simp
  intro v' w1 G H;have O:=Qh G;have hk:Kept ag w w1:=(((Kept.refl ag w).alloc _)).grown H (by intro k hk;simp[Value.ownBlock]at hk;omega);have N:=Qh hk;clear G H hk;go_wp2;go_ret;exact⟨v',rfl,O.out,N.out⟩
def N7 (w:World) (bs:List UInt8) (zs:List Int) (e:Ending) (w':World):Prop:=
 ∃(g:Nat) (S:Sv),e=.returned (.pointer (some ⟨g,0,none⟩))∧w.heap.size≤g∧S.bs=bs∧S.n=bs.length∧S.zs=zs∧S.off g∧(∀x,S.p=some x→w.heap.size≤x.block)∧(∀x,S.q=some x→w.heap.size≤x.block)∧Src w' g S 0 0∧Kept ag w w'
theorem YK (w:World) (p:Option Addr) (n c:Nat) (bs:List UInt8) (q:Option Addr) (m d:Nat) (zs:List Int) (hb:iC w p n bs) (hl:bs.length=n) (hn:n≤140737488351232) (hq:N4 w q m zs) (hz:zs.length=m) (hm:m*8≤140737488351232):
 Calls Tryz.prog 70 #[.slice p n c,.slice q m d] w (N7 w bs zs):=by
 obtain⟨i0,hi,r,g,l⟩:=info_parts Yn;have y:=Qh hi;have rC:=Qh r;have pX:=Qh g;have pD:=Qh l;have u:=Qh hb;have N:=Qh hl;have z:=Qh hq;have HZ:=Qh hz;clear hi r g l hb hl hq hz
 go_enter Tryz.func70,Tryz.ntmps70
 go_wp2_with fail
 refine(sv w p n c bs u.out N.out hn).mono ?_;rintro e L ⟨v,rfl,M,f⟩;have t:=Qh M;have D:=Qh f;clear M f
 go_wp2_with (at_builtin;refine IH rfl _ _ 23 rfl L.heap.size 3 i0 Tryz.underlying23 y.out rC.out pX.out pD.out _ 0 [] rfl (World.ownsRow_nil _ _ _ _) q m d zs rfl (z.out.kept D.out (fun _ _ _=>id)) HZ.out ?d2 ?d3 ?_)
 case d2=>omega
 case d3=>exact Qk _
 intro v' w2 O R;have A:=Qh O;have o:Kept ag L w2:=(Kept.refl ag L).grown R (by intro k hk;simp[Value.ownBlock]at hk);have H:=Qh o;clear O R o;obtain⟨I,c1,rfl,h1,T,U,V,W⟩:=t.out.slice;obtain⟨J,d1,rfl,X,Y,Z,b,KF⟩:=Mj A.out;have E:=Fq A.out rfl
 have F:Hid (N7 w bs zs (.returned (.pointer (some ⟨w2.heap.size,0,none⟩))) (w2.alloc (.cells #[.slice I n c1,.int .i64 0,.slice J m d1,.int .i64 0] 132))):=Qh (by
  have G:Kept ag w2 (w2.alloc (.cells #[.slice I n c1,.int .i64 0,.slice J m d1,.int .i64 0] 132)):=(Kept.refl ag w2).alloc _;refine⟨w2.heap.size,⟨I,n,c1,bs,J,m,d1,zs⟩,rfl,(D.out.trans H.out).size,rfl,N.out.symm,rfl,?_,fun x B=>(W x B).1,fun x B=>Nat.le_trans D.out.size (E x B).1,⟨?_,?_,V,h1,T,hn,Nat.zero_le _,?_,b,X,Y,fun h=>h,fun _=>rfl⟩,(D.out.trans H.out).trans G⟩
  ·intro _ x B
   have:=(E x B).2.1;omega
  ·exact heap_alloc_new _ _
  ·exact(U.kept H.out (fun _ _ _=>id)).kept G (fun _ _ _=>id)
  ·exact Z.kept G (fun _ _ _=>id))
 clear h1 T U V W X Y Z b KF E;go_wp2;go_ret;exact F.out
def Pj (w:World) (g a:Nat) (S:Sv) (e:Ending) (w':World):Prop:=
 (a=S.n∧e=.returned (.tuple #[.slice none 0 0,.int .i64 14])∧(∃t',Src w' g S a t')∧Kept (aA g) w w')∨(a<S.n∧uv w g a S 512 e w')
theorem uv.from {w w1 w':World} {g a N:Nat} {S:Sv} {e:Ending} (hk:Kept (aA g) w w1) (h:uv w1 g a S N e w'):uv w g a S N e w':=by
 rcases h with⟨h1,v,h2,h3,h4,h5⟩|⟨h1,h2,h3,h4⟩
 ·exact Or.inl ⟨h1,v,h2,h3.mono hk.size,h4,hk.trans h5⟩
 ·exact Or.inr ⟨h1,h2,h3,hk.trans h4⟩
theorem tT (w:World) (g a t:Nat) (S:Sv) (h:Src w g S a t) (ho:S.off g):
 Calls Tryz.prog 71 #[.pointer (some ⟨g,0,none⟩)] w (Pj w g a S):=by
 have hle:=h.le;have H:=Qh h;have O:=Qh ho;clear h ho
 by_cases I:a=S.n
 ·have R:Hid (S.n - a=0):=Qh (by omega)
  go_enter Tryz.func71,Tryz.ntmps71
  go_wp2_with fail
  refine(uJ _ g a t S H.out).mono ?_;rintro e T ⟨rfl,A,D⟩;obtain⟨p,B,_,_⟩:=ra A;rw[B,R.out];have L:=Qh A;have J:=Qh D;clear A D B;go_wp2;go_ret2;exact Or.inl ⟨I,rfl,⟨t,L.out⟩,J.out.kC _⟩
 ·obtain⟨l,hl⟩:∃l,S.n - a=l+1:=⟨S.n - a - 1,by omega⟩
  have G:=Qh hl;clear hl
  go_enter Tryz.func71,Tryz.ntmps71
  go_wp2_with fail
  refine(uJ _ g a t S H.out).mono ?_;rintro e T ⟨rfl,A,D⟩;obtain⟨p,B,_,_⟩:=ra A;rw[B,G.out];have L:=Qh A;have J:=Qh D;clear A D B;have U:((((l+1:Nat):Int))==0)=false:=by simp;omega
  go_wp2_with fail
  refine(AK _ g a t S L.out O.out 512 (by decide)).mono ?_;intro e V M;have E:=Qh (M.from (J.out.kC _));clear M;have N:=E.out;rcases N with⟨h1,v,rfl,h3,h4,h5⟩|⟨h1,rfl,h3,h4⟩
  ·clear h1 h3 h4 h5
   go_wp2;go_ret2;exact Or.inr ⟨by have:=G.out;omega,E.out⟩
  ·clear h1 h3 h4
   go_wp2;go_ret2;exact Or.inr ⟨by have:=G.out;omega,E.out⟩
theorem zw (w:World) (g a t:Nat) (S:Sv) (h:Src w g S a t):
 Calls Tryz.prog 43 #[.pointer (some ⟨g,0,none⟩)] w fun e w'=>e=.returned (.int .i64 a)∧w=w':=by
 have h1:=h.c1;clear h
 go_enter Tryz.func43,Tryz.ntmps43
 go_wp2;go_ret;exact⟨rfl,rfl⟩
def lr (k:Nat):Nat:=(k+511) / 512*512
theorem JW (k:Nat) (h:k≤4611686018427387904):Hh (k:Int)=(lr k:Int):=by
 unfold Hh lr;rw[if_pos ⟨by omega,by omega⟩]
 by_cases A:((k:Int) % 512=0)
 ·rw[if_pos A];omega
 ·rw[if_neg A];omega
theorem rQ (k:Nat):k≤lr k:=by unfold lr;omega
theorem BH (k:Nat):lr k≤k+511:=by unfold lr;omega
def qM (w:World) (g a:Nat) (S:Sv) (k:Nat) (e:Ending) (w':World):Prop:=
 (a+lr k≤S.n∧∃p,e=.returned (.tuple #[.slice p k k,.int .i64 0])∧iC w' p k ((S.bs.drop a).take k)∧(∀x,p=some x→w.heap.size≤x.block)∧(∃t',Src w' g S (a+lr k) t')∧Kept (aA g) w w')∨
 (S.n<a+lr k∧e=.returned (.tuple #[.slice none 0 0,.int .i64 2])∧(∃t',Src w' g S S.n t')∧Kept (aA g) w w')
theorem IQ (w:World) (g a t:Nat) (S:Sv) (h:Src w g S a t) (ho:S.off g) (k:Nat) (hn:k≤4611686018427387904):
 Calls Tryz.prog 108 #[.pointer (some ⟨g,0,none⟩),.int .i64 k] w (qM w g a S k):=by
 have H:=Qh h;have O:=Qh ho;clear h ho
 go_enter Tryz.func108,Tryz.ntmps108
 go_wp2_with fail
 refine(O4 k _).mono ?_;rintro e X ⟨rfl,J⟩;rw[oL (by omega) (by omega),JW k hn];have M:=Qh (Kept.bj J ag);clear J;have B:=rQ k;have R:=BH k;obtain⟨P,E⟩:∃P,P=lr k:=⟨_,rfl⟩
 rw[←E]at B R⊢;have A:=Qh E;clear E;go_wp2_with fail;refine(AK _ g a t S (H.out.jq M.out) O.out P (by omega)).mono ?_;intro e N G;rcases G.from (M.out.kC _)with⟨h1,v,rfl,h3,h4,h5⟩|⟨h1,rfl,h3,h4⟩
 ·obtain⟨p,c,rfl,V,W,L,T,I⟩:=h3.slice
  have D:=L.take B;rw[List.take_take,Nat.min_eq_left B]at D;have F:Hid (qM w g a S k (.returned (.tuple #[.slice p k k,.int .i64 0])) N):=Qh (Or.inl ⟨by rw[←A.out];exact h1,p,rfl,D,fun x U=>(I x U).1,by rw[←A.out];exact h4,h5⟩);clear h1 h3 h4 h5 L T I D G;go_wp2;go_ret2;exact F.out
 ·have F:Hid (qM w g a S k (.returned (.tuple #[.slice none 0 0,.int .i64 2])) N):=Qh (Or.inr ⟨by rw[←A.out];exact h1,rfl,h3,h4⟩)
  clear h1 h3 h4 G;go_wp2;go_ret2;exact F.out
structure Bi (w:World) (g B:Nat) (v:Value) (bs:List UInt8):Prop where
 pE:w.heap[g]? =some (.cells #[v] 105 (0,0))
 own:j3 w B v bs.length bs
section
variable {w w':World} {g B:Nat} {v:Value} {bs:List UInt8}
theorem Bi.c0 (h:Bi w g B v bs):w.cell? ⟨g,0,none⟩=some v:=pK h.pE 0
theorem Bi.lt (h:Bi w g B v bs):g<w.heap.size:=(Array.getElem?_eq_some_iff.1 h.pE).1
theorem Bi.off (h:Bi w g B v bs):v.ownBlock≠some g:=fun e=>by
 rcases h.own.2 with⟨rfl,_⟩|⟨b,cap,cur,rfl,_,hb,_⟩
 ·cases e
 ·simp only[Value.ownBlock,Option.some.injEq]at e
  subst e;rw[h.pE]at hb;have:105=5:=by injection hb with h1;injection h1
  exact absurd this (by decide)
theorem Bi.kept {T:Nat→Prop} (h:Bi w g B v bs) (hk:Kept T w w') (hg:¬T g) (hv:∀k,v.ownBlock=some k→¬T k):Bi w' g B v bs:=⟨hk.some_ h.pE hg,h.own.kept hk hv⟩
theorem wV {p:Option Addr} {xs:List UInt8} (h:iC w p n xs) (hs:Bi w g B v bs):0<n→∀x,p=some x→x.block≠g:=fun A x E e=>by
 obtain⟨b,o,G,hc⟩:=h A;rw[G]at E;cases E;have h1:=hc 0 A;change b=g at e;subst e;rw[pK hs.pE]at h1
 match o,h1 with
 |0,h1=>
  have D:v=.int .u8 (xs.getD 0 0).toNat:=by simpa using h1
  rcases hs.own.2 with⟨h2,_⟩|⟨b',cap,cur,h2,_⟩
  ·rw[D]at h2;cases h2
  ·rw[D]at h2;cases h2
 |o+1,h1=>simp at h1
end
def M7 (g:Nat) (v:Value):Nat→Prop:=fun k=>k=g∨v.ownBlock=some k
def LAt (w:World) (p:Option Addr) (n:Nat) (A:Nat→Option Addr) (M C:Nat→Nat) (Bs:Nat→List UInt8):Prop:=
 0<n→∃b o,p=some ⟨b,o,none⟩∧b<w.heap.size∧∀i,i<n→w.cell? ⟨b,o+i,none⟩=some (.slice (A i) (M i) (C i))∧iC w (A i) (M i) (Bs i)∧(Bs i).length=M i
def su (Bs:Nat→List UInt8):Nat→List UInt8
 |0=>[]
 |k+1=>su Bs k++Bs k
theorem Oc (Bs:Nat→List UInt8) (k:Nat):∀n,k≤n→(su Bs k).length≤(su Bs n).length
 |0,h=>by obtain rfl:k=0:=by omega
          exact Qk _
 |n+1,h=>by
  by_cases hk:k=n+1
  ·subst hk;exact Qk _
  ·have:=Oc Bs k n (by omega)
   rw[su,Qf];omega
structure Tt (w:World) (g B:Nat) (v:Value) (bs:List UInt8) (Bs:Nat→List UInt8) (k:Nat) (v':Value) (wr:World):Prop where
 AJ:Bi wr g B v' (bs++su Bs k)
 kept:Kept (M7 g v) w wr
 new:jX w v v'
def j0 (w:World) (g B:Nat) (v:Value) (bs xs:List UInt8) (e:Ending) (w':World):Prop:=
 ∃v',e=.returned (.tuple #[])∧Bi w' g B v' (bs++xs)∧Kept (M7 g v) w w'∧jX w v v'
theorem DB (w:World) (g B:Nat) (v:Value) (bs:List UInt8) (h:Bi w g B v bs) (hB:B≤w.heap.size) (lp:Option Addr) (ln lc:Nat) (A:Nat→Option Addr) (M C:Nat→Nat) (Bs:Nat→List UInt8)
 (hl:LAt w lp ln A M C Bs) (hlm:ln≤maxLen) (om:0<ln→∀x,lp=some x→x.block≠g∧v.ownBlock≠some x.block) (ZV:∀i,i<ln→0<M i→∀x,A i=some x→v.ownBlock≠some x.block)
 (qy:(bs++su Bs ln).length≤140737488351232):
 Calls Tryz.prog 85 #[.pointer (some ⟨g,0,none⟩),.slice lp ln lc] w (j0 w g B v bs (su Bs ln)):=by
 obtain⟨i0,hi,u,r,t⟩:=info_parts qZ;unfold maxLen at hlm;have z:=Qh hi;have rC:=Qh u;have pX:=Qh r;have pD:=Qh t;have H:=Qh h;have HL:=Qh hl;have nR:=Qh om;have W:=Qh ZV;have HS:=Qh qy;clear hi u r t h hl om ZV qy
 go_enter Tryz.func85,Tryz.ntmps85
 go_wp2
 go_loopw [10] (fun i wr=>∃(k:Nat) (v':Value),k≤ln∧i=.int .i64 k∧Hid (Tt w g B v bs Bs k v' wr)) (fun i _=>ln - (RowKit.intOf i).toNat)
 case atStart=>exact⟨0,v,Nat.zero_le _,rfl,Qh ⟨by rw[su,List.append_nil];exact H.out,Kept.refl _ _,jX.refl _ _⟩⟩
 case round=>
  obtain⟨k,v',hk,rfl,D⟩:=hrel
  by_cases o:k<ln
  ·obtain⟨lb,lo,Y,X,f⟩:=HL.out (by omega)
   subst Y;obtain⟨hcell,U,b⟩:=f k o
   have I:¬M7 g v lb:=fun hh=>by
    have:=nR.out (by omega) _ rfl;rcases hh with hh|hh
    ·exact this.1 hh
    ·exact this.2 hh
   have aA4:=(World.cell?_of_block (a:=⟨lb,lo+k,none⟩) (D.out.kept.block lb X I)).trans hcell
   have p:iC wr (A k) (M k) (Bs k):=U.kept D.out.kept (fun q x E hh=>by
    rcases hh with hh|hh
    ·exact wV U H.out q x E hh
    ·exact W.out k o q x E hh)
   have hc0:=D.out.AJ.c0;have hf0:=qm D.out.AJ.pE 0
   have J:(bs++su Bs k).length+M k≤140737488351232:=by
    have h1:=Oc Bs (k+1) ln (by omega);have h2:=HS.out;rw[Qf]at h2⊢;rw[su,Qf,b]at h1;omega
   have cB:=Qh p;have c:=Qh b;have jo:=Qh J;have d:B≤wr.heap.size:=Nat.le_trans hB D.out.kept.size;have KD:=Qh d;clear f U b I hcell p J d
   go_wp2_with (at_builtin;refine yU rfl _ _ 26 rfl B 5 i0 Tryz.underlying26 z.out rC.out pX.out pD.out v' _ _ rfl D.out.AJ.own (A k) (M k) (C k) (Bs k) rfl cB.out c.out jo.out KD.out ?_)
   intro v2 w2 O l V;have Z:Kept (fun x=>v'.ownBlock=some x) wr w2:=(Kept.refl _ wr).grown l (fun x E=>Or.inr E);have N:w2.heap[g]? =some (.cells #[v'] 105 (0,0)):=Z.some_ D.out.AJ.pE (fun hh=>D.out.AJ.off hh)
   have R:j3 w2 B v2 (bs++su Bs (k+1)).length (bs++su Bs (k+1)):=by
    unfold j3;have e:bs++su Bs (k+1)=(bs++su Bs k)++Bs k:=by rw[su,List.append_assoc]
    rw[e,Qf,Qf,c.out];unfold nums at O⊢;rw[List.map_append,List.map_append];exact O
   have m:v2.ownBlock≠some g:=fun e=>by
    rcases V g e with h1|h1
    ·exact D.out.AJ.off h1
    ·have:=D.out.AJ.lt
     omega
   have R2:Hid (Tt w g B v bs Bs (k+1) v2 (w2.setCell ⟨g,0,none⟩ v2)):=Qh ⟨⟨yW N 0 _ (by simp),R.kept (T:=aA g) ((Kept.refl (aA g) w2).setCell (Or.inr (show aA g g from rfl)) _) (fun x E e=>m (by rw[E];exact congrArg some e))⟩,
    ((D.out.kept.then Z (fun x E=>by
      rcases D.out.new x E with h1|h1
      ·exact Or.inr (Or.inr h1)
      ·exact Or.inl h1)).setCell (Or.inr (Or.inl rfl)) _),D.out.new.trans V D.out.kept.size⟩
   have hf2:=qm N 0;have qU:=pK N 0;obtain⟨p2,c2,L,_⟩:=R.slice;obtain⟨y,G⟩:∃y,y=(bs++su Bs (k+1)).length:=⟨_,rfl⟩
   rw[←G]at L;subst L;clear O l V Z N R m G;go_wp2;go_roundw
   case rel=>exact⟨k+1,_,by omega,by go_num,R2⟩
   case measure=>simp[RowKit.intOf];omega
  ·obtain rfl:k=ln:=by omega
   go_wp2
   go_end0
   exact⟨v',rfl,D.out.AJ,D.out.kept,D.out.new⟩
theorem IV (x y:List UInt8):su (fun i=>if i=0 then x else y) 2=x++y:=by simp[su]
theorem B7 (x:List UInt8):su (fun _=>x) 1=x:=by simp[su]
def rW (k:Nat):List UInt8:=List.replicate (lr k - k) 0
theorem FQ (w:World) (g B:Nat) (v:Value) (bs:List UInt8) (h:Bi w g B v bs) (hB:B≤w.heap.size) (p:Option Addr) (n c:Nat) (xs:List UInt8) (hb:iC w p n xs) (hl:xs.length=n) (om:0<n→∀x,p=some x→v.ownBlock≠some x.block) (qy:bs.length+lr n≤140737488351232):
 Calls Tryz.prog 84 #[.pointer (some ⟨g,0,none⟩),.slice p n c] w (j0 w g B v bs (xs++rW n)):=by
 obtain⟨i0,hi,d,Z,b⟩:=info_parts qZ;have q:=rQ n;have r:=BH n;have m:=Qh hi;have rC:=Qh d;have z:=Qh Z;have y:=Qh b;have H:=Qh h;have l:=Qh hb;have O:=Qh hl;have u:=Qh om;clear hi d Z b h hb hl om
 go_enter Tryz.func84,Tryz.ntmps84
 go_wp2_with fail
 refine(O4 n _).mono ?_;rintro e A ⟨rfl,W⟩;rw[oL (by omega) (by omega),JW n (by omega)];obtain⟨P,M⟩:∃P,P=lr n:=⟨_,rfl⟩
 rw[←M]at q r qy⊢;have o:=Qh M;have f:=Qh (Kept.bj W ag);clear M W
 go_wp2_with (at_make;refine wpList_make_full _ rfl _ _ 26 rfl A.heap.size 5 i0 (.int .u8 0) 1 Tryz.underlying26 m.out rC.out z.out .i64 .i64 ((P:Int) - (n:Int)) ((P:Int) - (n:Int)) (P - n) rfl rfl (by omega) (by omega) (by rw[y.out];omega) (by unfold maxLen;omega) (Qk _) ?_)
 intro I U V;have D:=Qh (f.out.trans ((Kept.refl ag A).grown V (by intro k hk;cases hk)))
 have X:j3 I A.heap.size (.slice (some ⟨A.heap.size,0,none⟩) (P - n) (P - n)) (P - n) (rW n):=by
  unfold j3 rW;rw[←o.out,←OX];exact U
 obtain⟨_,_,t,_,_,E,G,_⟩:=X.slice
 cases t
 have L:=Qh E;have T:=Qh G;clear U V X E G;go_wp2_with fail;refine(DB (I.alloc (.cells #[.slice p n c,.slice (some ⟨A.heap.size,0,none⟩) (P - n) (P - n)] 26)) g B v bs ?e1 ?e2 _ 2 2 (fun i=>if i=0 then p else some ⟨A.heap.size,0,none⟩) (fun i=>if i=0 then n else P - n) (fun i=>if i=0 then c else P - n) (fun i=>if i=0 then xs else rW n) ?e3 (by decide) ?e4 ?e5 ?e6).mono ?_
 case e1=>exact H.out.kept (D.out.alloc _) id (fun _ _=>id)
 case e2=>exact Nat.le_trans hB (D.out.alloc _).size
 case e3=>
  intro _;refine⟨I.heap.size,0,rfl,by simp,fun i hi=>?_⟩
  match i,hi with
  |0,_=>exact⟨by simp,(l.out.kept D.out (fun _ _ _=>id)).alloc _,O.out⟩
  |1,_=>exact⟨by simp,L.out.alloc _,T.out⟩
 case e4=>
  intro _ x N
  cases N
  have h1:=H.out.lt;have h2:=D.out.size;refine⟨by show I.heap.size≠g;omega,fun e=>?_⟩;have:I.heap.size<w.heap.size:=(H.out.own.lt _ e).2;omega
 case e5=>
  intro i hi
  match i,hi with
  |0,_=>exact u.out
  |1,_=>
   intro _ x N e
   cases N
   have:A.heap.size<w.heap.size:=(H.out.own.lt _ e).2;have:=f.out.size;omega
 case e6=>rw[IV,Qf,Qf,O.out,T.out];omega
 rintro e w3 ⟨v',rfl,J,Y,R⟩;rw[IV]at J
 have F:Hid (j0 w g B v bs (xs++rW n) (.returned (.tuple #[])) w3):=Qh ⟨v',rfl,J,((D.out.kC _).alloc _).trans Y,fun k hk=>by
  rcases R k hk with h1|h1
  ·exact Or.inl h1
  ·exact Or.inr (Nat.le_trans (D.out.alloc _).size h1)⟩
 clear J Y R;go_wp2
 go_end0
 exact F.out
theorem Gr (w:World) (g B:Nat) (v:Value) (bs:List UInt8) (h:Bi w g B v bs) (hB:B≤w.heap.size) (qy:bs.length+1024≤140737488351232):
 Calls Tryz.prog 54 #[.pointer (some ⟨g,0,none⟩)] w (j0 w g B v bs (List.replicate 1024 0)):=by
 obtain⟨i0,hi,c,Y,b⟩:=info_parts qZ;have d:=Qh hi;have p:=Qh c;have o:=Qh Y;have m:=Qh b;have H:=Qh h;clear hi c Y b h;obtain⟨N,hN⟩:∃N:Nat,N=1024:=⟨_,rfl⟩
 have A:=Qh hN;obtain⟨Z,J⟩:∃Z:List UInt8,Z=List.replicate 1024 0:=⟨_,rfl⟩
 have D:Z.length=N:=by rw[J,List.length_replicate,hN]
 rw[←J];have f:=Qh J;have T:=Qh D;clear hN J D
 go_enter Tryz.func54,Tryz.ntmps54
 go_wp2_with (at_make;refine wpList_make_full _ rfl _ _ 26 rfl w.heap.size 5 i0 (.int .u8 0) 1 Tryz.underlying26 d.out p.out o.out .i64 .i64 1024 1024 N rfl rfl (by have:=A.out;omega) (by have:=A.out;omega) (by rw[m.out];have:=A.out;omega) (by unfold maxLen;have:=A.out;omega) (Qk _) ?_)
 intro I U V;have G:=Qh ((Kept.refl ag w).grown V (by intro k hk;cases hk))
 have W:j3 I w.heap.size (.slice (some ⟨w.heap.size,0,none⟩) N N) N Z:=by
  unfold j3;rw[f.out,←A.out,←OX];exact U
 obtain⟨_,_,l,_,_,E,_,_⟩:=W.slice
 cases l
 have M:=Qh E;clear U V W E;go_wp2_with fail;refine(DB (I.alloc (.cells #[.slice (some ⟨w.heap.size,0,none⟩) N N] 26)) g B v bs ?e1 ?e2 _ 1 1 (fun _=>some ⟨w.heap.size,0,none⟩) (fun _=>N) (fun _=>N) (fun _=>Z) ?e3 (by decide) ?e4 ?e5 ?e6).mono ?_
 case e1=>exact H.out.kept (G.out.alloc _) id (fun _ _=>id)
 case e2=>exact Nat.le_trans hB (G.out.alloc _).size
 case e3=>
  intro _;refine⟨I.heap.size,0,rfl,by simp,fun i hi=>?_⟩
  match i,hi with
  |0,_=>exact⟨by simp,M.out.alloc _,T.out⟩
 case e4=>
  intro _ x O
  cases O
  have h1:=H.out.lt;have q:=G.out.size;refine⟨by show I.heap.size≠g;omega,fun e=>?_⟩;have:I.heap.size<w.heap.size:=(H.out.own.lt _ e).2;omega
 case e5=>
  intro i hi _ x O e
  cases O
  have:w.heap.size<w.heap.size:=(H.out.own.lt _ e).2;omega
 case e6=>rw[B7,Qf,T.out,A.out];omega
 rintro e w3 ⟨v',rfl,L,X,R⟩;rw[B7]at L
 have F:Hid (j0 w g B v bs Z (.returned (.tuple #[])) w3):=Qh ⟨v',rfl,L,((G.out.kC _).alloc _).trans X,fun k hk=>by
  rcases R k hk with h1|h1
  ·exact Or.inl h1
  ·exact Or.inr (Nat.le_trans (G.out.alloc _).size h1)⟩
 clear L X R;go_wp2
 go_end0
 exact F.out
theorem YR (w:World) (g B:Nat) (v:Value) (bs:List UInt8) (h:Bi w g B v bs) (hn:bs.length≤140737488351232):
 Calls Tryz.prog 55 #[.pointer (some ⟨g,0,none⟩)] w (qC w bs.length bs):=by
 have N:=h.c0;have hs:=h.own.slice;clear h;obtain⟨p,c,rfl,h1,J,D,L,M⟩:=hs;have G:=Qh D;clear h1 J D L M
 go_enter Tryz.func55,Tryz.ntmps55
 go_wp2_with fail
 refine(sv w p _ c bs G.out rfl hn).mono ?_;rintro e O ⟨v',rfl,A,E⟩;have I:=Qh A;have H:=Qh E;clear A E;go_wp2;go_ret;exact⟨v',rfl,I.out,H.out⟩
end Block
namespace Block
open Go.Proofs Go.Shelf
theorem Js:(Tryz.prog.info? (Tryz.sG.t 27)).map (fun i=>(i.zero,i.size))=some (some (.agg (Array.replicate 256 (.bool false))),256):=by kernel_rfl
theorem Ep (p:Option Addr) (n c:Nat) (bs:List UInt8) (w:World) (hl:bs.length=n) (hc:n≤c) (hm:c≤maxLen) (h:iC w p n bs):
 Calls Tryz.prog 134 #[.slice p n c,.string ⟨#[0]⟩] w fun e w'=>e=.returned (Lib.leftV p n c (n - (Lib.trimLeftS bs [0]).length))∧Below w.heap.size w w':=
 Any.bytes_TrimLeft_ascii Tryz.G3 (zero_of_info Js).1 (zero_of_info Js).2 p n c bs ⟨#[0]⟩ w hl hc (by unfold maxLen at hm;omega) h (by decide) (fun j b A=>by
  match j,A with
  |0,A=>cases A;decide)
def FK (bs:List UInt8):Bool:=bs.all (·==0)
theorem Kl:∀bs:List UInt8,decide ((Lib.trimLeftS bs [0]).length=0)=FK bs
 |[]=>rfl
 |x::l=>by
  unfold Lib.trimLeftS FK
  by_cases h:x=0
  ·subst h
   have:=Kl l;unfold Lib.trimLeftS FK at this
   simpa using this
  ·have A:([0]:List UInt8).contains x=false:=by simpa using h
   rw[List.dropWhile_cons_of_neg (by rw[A];decide)];simp[h]
theorem H7 (l:List UInt8):(Lib.trimLeftS l [0]).length≤l.length:=(List.dropWhile_suffix _:Lib.trimLeftS l [0]<:+l).length_le
theorem Rj (p:Option Addr) (n c k:Nat) (hk:k≤n):∃p' c',Lib.leftV p n c (n - k)=.slice p' k c':=by
 unfold Lib.leftV Lib.fromV
 by_cases A:k=0
 ·subst A
  exact⟨none,0,by rw[if_pos (by omega)]⟩
 ·by_cases h1:n - k=n
  ·omega
  ·rw[if_neg h1,show n - (n - k)=k by omega]
   exact⟨_,_,rfl⟩
theorem VV (w:World) (g a t:Nat) (S:Sv) (h:Src w g S a t):
 Calls Tryz.prog 100 #[.pointer (some ⟨g,0,none⟩)] w fun e w'=>e=.returned (.bool (FK (S.bs.drop a)))∧Src w' g S a t∧Kept ag w w':=by
 have H:=Qh h;clear h
 go_enter Tryz.func100,Tryz.ntmps100
 go_wp2_with fail
 refine(uJ _ g a t S H.out).mono ?_;rintro e X ⟨rfl,E,N⟩;obtain⟨p,L,I,_⟩:=ra E;rw[L];have hlen:(S.bs.drop a).length=S.n - a:=by rw[Qe,H.out.len]
 have B:=Qh E;have R:=Qh N;have W:=Qh I;have T:=Qh hlen;clear E N I L hlen;go_wp2_with fail;refine(Ep p _ _ (S.bs.drop a) X T.out (by have:=B.out.nc;omega) (by have:=B.out.cm;omega) W.out).mono ?_;rintro e f ⟨rfl,J⟩;obtain⟨k,hk⟩:∃k,k=(Lib.trimLeftS (S.bs.drop a) [0]).length:=⟨_,rfl⟩
 have O:k≤S.n - a:=by rw[hk,←T.out];exact H7 _
 rw[←hk];obtain⟨d,Y,M⟩:=Rj p (S.n - a) (S.c - a) k O;rw[M];have U:=Qh hk;have A:=Qh (Kept.bj J ag);clear M hk O J;have F:∀b,b=decide (k=0)→(Ending.returned (.bool b)=.returned (.bool (FK (S.bs.drop a)))):=fun b V=>by rw[V,U.out,Kl]
 have G:=Qh F;clear F
 by_cases D:k=0
 ·subst D
  go_wp2;go_ret;exact⟨G.out true rfl,B.out.jq A.out,R.out.trans A.out⟩
 ·have Z:((k:Int)==0)=false:=by simpa using D
  go_wp2;go_ret;exact⟨G.out false (by simp[D]),B.out.jq A.out,R.out.trans A.out⟩
end Block
end Go.Proofs.YtdhibldkldlfpaaGreatDoor
