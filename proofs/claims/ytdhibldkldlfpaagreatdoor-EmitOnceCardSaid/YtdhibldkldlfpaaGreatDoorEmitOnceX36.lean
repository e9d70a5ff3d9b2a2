/- Merged. -/
import Derived.Test.YtdhibldkldlfpaaGreatDoorEmitOnceX35
namespace Go.Proofs.YtdhibldkldlfpaaGreatDoor
set_option linter.unusedVariables false
set_option maxHeartbeats 4000000
set_option maxRecDepth 100000
open Go.ChangeShapes Go.WideShapes Go.ChangeAt Go.RowKit Base bJ cr Bk Mk Block Hp Head Attr Rec Go.Lib
namespace Mem
open Path Go.Shelf
section
variable {w0 w w':World} {K:RK} {a:Nat} {s:RS} {mb:Option Nat} {v:Value} {xs:List MP} {q:Option Addr} {n c:Nat}
theorem yQ (k:UInt8):fp k=true↔¬(k≠48∧k≠49∧k≠50∧k≠53):=by
 unfold fp;simp only[Bool.or_eq_true,beq_iff_eq];constructor
 ·rintro(((h|h)|h)|h) ⟨h1,A,B,D⟩
  ·exact h1 h
  ·exact A h
  ·exact B h
  ·exact D h
 ·intro h
  by_cases h1:k=48
  ·exact .inl (.inl (.inl h1))
  ·by_cases A:k=49
   ·exact .inl (.inl (.inr A))
   ·by_cases B:k=50
    ·exact .inl (.inr B)
    ·by_cases D:k=53
     ·exact .inr D
     ·exact absurd ⟨h1,A,B,D⟩ h
theorem qT (hr:Rd w0 w K (a+512) s mb v xs q n c) (h:ak) (hN:Need w0) (h0:0≤h.size) (h1:h.name.length≤1048576) (h2:h.link.length≤1048576):
 Calls Tryz.prog 76 #[.pointer (some ⟨K.r,0,none⟩),.agg (aa h)] w (cX w0 K a (oh (K.S.bs.drop a) h s)):=by
 obtain⟨t,hs⟩:=hr.src;have hlen:=hs.len;have hle:=hs.le;have T:(K.S.bs.drop a).length=K.S.n - a:=by rw[Qe,hlen]
 unfold oh
 by_cases hf:4096≤s.out.length
 ·rw[if_pos hf]
  exact(Iq hr h (Nat.le_antisymm hr.many hf)).mono fun e w' h=>h
 ·rw[if_neg hf]
  have B:s.out.length<4096:=by omega
  by_cases hk:h.kind≠48∧h.kind≠49∧h.kind≠50∧h.kind≠53
  ·rw[if_pos hk]
   exact(Ls hr h B (by
    cases W:fp h.kind with
    |false=>rfl
    |true=>exact absurd hk ((yQ _).1 W))).mono fun e w' h=>h
  ·rw[if_neg hk,JP]
   have I:=(yQ _).2 hk
   by_cases G:(ch (aD s.cF) s.own (dN h s)).2≠0
   ·rw[if_pos G]
    exact(xY hr h B I G).mono fun e w' h=>h
   ·rw[if_neg G]
    have E:ch (aD s.cF) s.own (dN h s)=((ch (aD s.cF) s.own (dN h s)).1,0):=Prod.ext rfl (Classical.byContradiction G);have H:=nH h hr h0 h1 h2;obtain⟨A,N⟩:∃x,(ch (aD s.cF) s.own (dN h s)).1=x:=⟨_,rfl⟩
    rw[N]at E H⊢
    by_cases D:(cZ A).2≠0
    ·rw[if_pos D]
     exact(AE hr h B I hN h0 h1 h2 A E D).mono fun e w' h=>h
    ·rw[if_neg D]
     have L:(cZ A).2=0:=Classical.byContradiction D;have V:=Bf L;obtain⟨k,M⟩:∃k:Nat,A.size=(k:Int):=⟨A.size.toNat,by omega⟩
     have R:k≤1048576:=by omega
     have J:aP k=ei k:=rfl;simp only;unfold pN;rw[M,Int.toNat_natCast,T]
     by_cases U:K.S.n<a+512+ei k
     ·rw[if_pos (by rw[J];omega)]
      exact(EU hr h B I hN h0 h1 h2 A E L k M R U).mono fun e w' h=>h
     ·rw[if_neg (by rw[J];omega)]
      simp only;obtain⟨X,O⟩:∃X,(K.S.bs.drop (a+512)).take k=X:=⟨_,rfl⟩
      rw[List.drop_drop,O,J];refine(Oi hr h B I hN h0 h1 h2 A E L k M R X O (by omega)).mono ?_;rintro e w' ⟨rfl,H⟩;rw[Nat.add_assoc]at H;exact⟨rfl,H⟩
theorem mV (w:World) (g a t:Nat) (S:Sv) (h:Block.Src w g S a t) (ho:S.off g) (X:List UInt8) (hX:(S.bs.drop a).take 512=X) (hl:a+512≤S.n):
 Calls Tryz.prog 71 #[.pointer (some ⟨g,0,none⟩)] w fun e w'=>∃p c t',e=.returned (.tuple #[.slice p 512 c,.int .i64 0])∧512≤c∧c≤maxLen∧cj w' p 512 X∧Block.Src w' g S (a+512) t'∧Kept (aw g) w w':=by
 refine(kE w g a t S h ho).mono ?_;rintro e w' (⟨h1,_⟩|⟨_,B⟩)
 ·omega
 ·rcases B with⟨_,v,rfl,h3,⟨t',h4⟩,h5⟩|⟨h1,_⟩
  ·obtain⟨p,c,rfl,D,E,A,_,_⟩:=h3.slice
   rw[hX]at A;exact⟨p,c,t',rfl,D,E,A,h4,h5⟩
  ·omega
theorem Oj (w:World) (g a t:Nat) (S:Sv) (h:Block.Src w g S a t) (ho:S.off g) (hl:S.n<a+512):
 Calls Tryz.prog 71 #[.pointer (some ⟨g,0,none⟩)] w fun e w'=>∃E a' t',(E=14∨E=2)∧e=.returned (.tuple #[.slice none 0 0,.int .i64 E])∧Block.Src w' g S a' t'∧Kept (aw g) w w':=by
 refine(kE w g a t S h ho).mono ?_;rintro e w' (⟨_,rfl,⟨t',h1⟩,A⟩|⟨_,A⟩)
 ·exact⟨14,_,t',.inl rfl,rfl,h1,A⟩
 ·rcases A with⟨h3,_⟩|⟨_,rfl,⟨t',h4⟩,h5⟩
  ·omega
  ·exact⟨2,_,t',.inr rfl,rfl,h4,h5⟩
def xT (w0:World) (K:RK) (a:Nat) (s:RS) (mb:Option Nat) (v:Value) (xs:List MP) (q:Option Addr) (n c:Nat) (st:Step) (e:Ending) (w':World):Prop:=
 match st with
 |.fault er=>(∃b,e=.returned (.tuple #[.bool b,.int .i64 er]))∧Below w0.heap.size w0 w'
 |.done=>e=.returned (.tuple #[.bool false,.int .i64 0])∧∃a',Rd w0 w' K a' s mb v xs q n c
 |.next k s'=>e=.returned (.tuple #[.bool true,.int .i64 0])∧Left w0 K (a+k) s' w'
theorem B9 (hr:Rd w0 w K a s mb v xs q n c) (hl:K.S.n<a+512):
 Calls Tryz.prog 44 #[.pointer (some ⟨K.r,0,none⟩)] w fun e w'=>e=.returned (.tuple #[.bool false,.int .i64 2])∧Below w0.heap.size w0 w':=by
 obtain⟨t,hs⟩:=hr.src;have H:=Qh hr;have x0:=hr.c0;have D:=Oj w K.g a t K.S hs hr.off hl;clear hr hs hl
 go_enter Tryz.func44,Tryz.ntmps44
 go_wp2_with fail
 refine D.mono ?_;rintro e L ⟨E,a',I,G,rfl,A,B⟩;have F:=Qh (H.out.eS B ⟨I,A⟩);have J:(E != 0)=true:=by rcases G with rfl|rfl<;>rfl
 clear A B D x0 G;go_wp2;go_ret2;exact⟨rfl,F.out.bel⟩
theorem JU (hr:Rd w0 w K a s mb v xs q n c) (X:List UInt8) (hX:(K.S.bs.drop a).take 512=X) (hl:a+512≤K.S.n) (hz:cT X=true):
 Calls Tryz.prog 44 #[.pointer (some ⟨K.r,0,none⟩)] w fun e w'=>e=.returned (.tuple #[.bool false,.int .i64 (A2 (K.S.bs.drop (a+512)) s)])∧∃a',Rd w0 w' K a' s mb v xs q n c:=by
 obtain⟨t,hs⟩:=hr.src;have J:X.length=512:=by rw[←hX,Qg,Qe,hs.len];omega
 have L:=Qh hr;have x0:=hr.c0;have H:=mV w K.g a t K.S hs hr.off X hX hl;have T:=Qh J;have M:=Qh hz;obtain⟨EE,A⟩:∃EE,A2 (K.S.bs.drop (a+512)) s=EE:=⟨_,rfl⟩
 rw[A];have N:=Qh A;clear hr hs hl hX J hz A
 go_enter Tryz.func44,Tryz.ntmps44
 go_wp2_with fail
 refine H.mono ?_;rintro e V ⟨p,R,U,rfl,_,_,B,D,E⟩;have F:=Qh (L.out.eS E ⟨U,D⟩);have O:=Qh B;clear B D E H x0;go_wp2_with fail;refine(dw p R X V T.out O.out).mono ?_;rw[M.out];rintro e W ⟨rfl,rfl⟩;go_wp2_with fail;refine(show Calls _ _ _ _ (C0 w0 K (a+512) s mb v xs q n c (A2 (K.S.bs.drop (a+512)) s))from wF F.out).mono ?_;rw[N.out];rintro e w3 ⟨rfl,a',I⟩;have G:=Qh I;clear I;go_wp2;go_ret2;exact⟨rfl,a',G.out⟩
theorem zf (hr:Rd w0 w K a s mb v xs q n c) (X:List UInt8) (hX:(K.S.bs.drop a).take 512=X) (hl:a+512≤K.S.n) (hz:cT X=false) (he:(aU X).2≠0):
 Calls Tryz.prog 44 #[.pointer (some ⟨K.r,0,none⟩)] w fun e w'=>e=.returned (.tuple #[.bool false,.int .i64 (aU X).2])∧Below w0.heap.size w0 w':=by
 obtain⟨t,hs⟩:=hr.src;have R:X.length=512:=by rw[←hX,Qg,Qe,hs.len];omega
 have W:=Qh hr;have x0:=hr.c0;have L:=mV w K.g a t K.S hs hr.off X hX hl;have N:=Qh R;have Y:=Qh hz;obtain⟨⟨h,Z⟩,B⟩:∃x,aU X=x:=⟨_,rfl⟩
 rw[B]at he⊢;simp only at he⊢;have d:(Z != 0)=true:=by simpa using he
 have V:=Qh B;clear hr hs hl hX R hz he B
 go_enter Tryz.func44,Tryz.ntmps44
 go_wp2_with fail
 refine L.mono ?_;rintro e T ⟨p,E,b,rfl,M,O,H,I,J⟩;have F:=Qh (W.out.eS J ⟨b,I⟩);have D:=Qh H;have U:=Qh (And.intro M O);clear H I J L x0 M O;go_wp2_with fail;refine(dw p E X T N.out D.out).mono ?_;rw[Y.out];rintro e f ⟨rfl,rfl⟩;go_wp2_with fail;refine(fT p 512 E X T N.out U.out.1 U.out.2 D.out).mono ?_;rw[V.out];unfold jQ aa;simp only;rintro e w3 ⟨rfl,A⟩;have G:=Qh ((F.out.idle A).bel.alloc (F.out.idle A).bel.size (.cells #[.string (str h.name),.string (str h.link),.int .u8 (h.kind.toNat:Int),.int .i64 h.mode,.int .i64 h.uid,.int .i64 h.gid,.int .i64 h.time,.int .i64 h.size,.bool h.eG] 66));clear A;go_wp2;go_ret2;exact⟨rfl,G.out⟩
end
section
variable {w0 w w':World} {K:RK} {a:Nat} {s:RS} {mb:Option Nat} {v:Value} {xs:List MP} {q:Option Addr} {n c:Nat}
theorem ze (hr:Rd w0 w K a s mb v xs q n c) (X:List UInt8) (hX:(K.S.bs.drop a).take 512=X) (hl:a+512≤K.S.n) (hz:cT X=false) (h:ak) (hh:aU X=(h,0)) (lh:h.kind=120) (hN:Need w0):
 Calls Tryz.prog 44 #[.pointer (some ⟨K.r,0,none⟩)] w fun e w'=>∃E,e=.returned (.tuple #[.bool true,.int .i64 E])∧cX w0 K a (iC (K.S.bs.drop a) h s) (.returned (.int .i64 E)) w':=by
 obtain⟨t,hs⟩:=hr.src;have b:X.length=512:=by rw[←hX,Qg,Qe,hs.len];omega
 have y:=Qh hr;have x0:=hr.c0;have U:=mV w K.g a t K.S hs hr.off X hX hl;have Y:=Qh b;have z:=Qh hz;have m:=Qh hh;have d:=lf X;rw[hh]at d;obtain⟨H,A,I⟩:=d;have nv:=Qh (And.intro H (And.intro A I));have lW:=Qh hN;obtain⟨kn,D⟩:∃kn:Int,(h.kind.toNat:Int)=kn:=⟨_,rfl⟩
 obtain rfl:kn=120:=by rw[←D,lh];rfl
 have o:=Qh lh;clear lh;clear hr hs hl hX b hz hh H A I hN;have N:=Qh D;clear D
 go_enter Tryz.func44,Tryz.ntmps44
 go_wp2_with fail
 refine U.mono ?_;rintro e f ⟨p,L,t',rfl,W,Z,O,R,T⟩;have F:=Qh (y.out.eS T ⟨t',R⟩);have J:=Qh O;have l:=Qh (And.intro W Z);clear O R T U x0 W Z;go_wp2_with fail;refine(dw p L X f Y.out J.out).mono ?_;rw[z.out];rintro e w2 ⟨rfl,rfl⟩;go_wp2_with fail;refine(fT p 512 L X f Y.out l.out.1 l.out.2 J.out).mono ?_;rw[m.out];unfold jQ aa;simp only[N.out];rintro e w3 ⟨rfl,M⟩;have V:=(F.out.idle M).below ((Below.refl _ w3).alloc (Qk _) (.cells #[.string (str h.name),.string (str h.link),.int .u8 120,.int .i64 h.mode,.int .i64 h.uid,.int .i64 h.gid,.int .i64 h.time,.int .i64 h.size,.bool h.eG] 66));have A:=ao.new w3 66 #[.string (str h.name),.string (str h.link),.int .u8 120,.int .i64 h.mode,.int .i64 h.uid,.int .i64 h.gid,.int .i64 h.time,.int .i64 h.size,.bool h.eG];have d0:=A.cell 0;have d1:=A.cell 1;have d2:=A.cell 2;have d3:=A.cell 3;have d4:=A.cell 4;have d5:=A.cell 5;have d6:=A.cell 6;have d7:=A.cell 7;have d8:=A.cell 8;simp only[Qc,Qa,Qb]at d0 d1 d2 d3 d4 d5 d6 d7 d8;have G:=Qh V;clear M A V;go_wp2_with fail
 refine(show Calls _ _ #[.pointer (some ⟨K.r,0,none⟩),.agg #[.string (str h.name),.string (str h.link),.int .u8 120,.int .i64 h.mode,.int .i64 h.uid,.int .i64 h.gid,.int .i64 h.time,.int .i64 h.size,.bool h.eG]] _ (cX w0 K a (iC (K.S.bs.drop a) h s))from by
  have:=qW G.out h nv.out.1 (by rw[o.out];rfl) lW.out;unfold aa at this;rw[N.out]at this
  exact this).mono ?_
 intro e w4 B
 obtain⟨E,rfl⟩:∃E,e=.returned (.int .i64 E):=by
  revert B
  cases iC (K.S.bs.drop a) h s with
  |fault er=>exact fun B=>⟨er,B.1⟩
  |done=>exact fun B=>B.elim
  |next k s'=>exact fun B=>⟨0,B.1⟩
 have u:=Qh B;clear B;go_wp2;go_ret2;exact⟨E,rfl,u.out⟩
theorem zd (hr:Rd w0 w K a s mb v xs q n c) (X:List UInt8) (hX:(K.S.bs.drop a).take 512=X) (hl:a+512≤K.S.n) (hz:cT X=false) (h:ak) (hh:aU X=(h,0)) (lh:h.kind=103) (hN:Need w0):
 Calls Tryz.prog 44 #[.pointer (some ⟨K.r,0,none⟩)] w fun e w'=>∃E,e=.returned (.tuple #[.bool true,.int .i64 E])∧cX w0 K a (iC (K.S.bs.drop a) h s) (.returned (.int .i64 E)) w':=by
 obtain⟨t,hs⟩:=hr.src;have b:X.length=512:=by rw[←hX,Qg,Qe,hs.len];omega
 have y:=Qh hr;have x0:=hr.c0;have U:=mV w K.g a t K.S hs hr.off X hX hl;have Y:=Qh b;have z:=Qh hz;have m:=Qh hh;have d:=lf X;rw[hh]at d;obtain⟨H,A,I⟩:=d;have nv:=Qh (And.intro H (And.intro A I));have lW:=Qh hN;obtain⟨kn,D⟩:∃kn:Int,(h.kind.toNat:Int)=kn:=⟨_,rfl⟩
 obtain rfl:kn=103:=by rw[←D,lh];rfl
 have o:=Qh lh;clear lh;clear hr hs hl hX b hz hh H A I hN;have N:=Qh D;clear D
 go_enter Tryz.func44,Tryz.ntmps44
 go_wp2_with fail
 refine U.mono ?_;rintro e f ⟨p,L,t',rfl,W,Z,O,R,T⟩;have F:=Qh (y.out.eS T ⟨t',R⟩);have J:=Qh O;have l:=Qh (And.intro W Z);clear O R T U x0 W Z;go_wp2_with fail;refine(dw p L X f Y.out J.out).mono ?_;rw[z.out];rintro e w2 ⟨rfl,rfl⟩;go_wp2_with fail;refine(fT p 512 L X f Y.out l.out.1 l.out.2 J.out).mono ?_;rw[m.out];unfold jQ aa;simp only[N.out];rintro e w3 ⟨rfl,M⟩;have V:=(F.out.idle M).below ((Below.refl _ w3).alloc (Qk _) (.cells #[.string (str h.name),.string (str h.link),.int .u8 103,.int .i64 h.mode,.int .i64 h.uid,.int .i64 h.gid,.int .i64 h.time,.int .i64 h.size,.bool h.eG] 66));have A:=ao.new w3 66 #[.string (str h.name),.string (str h.link),.int .u8 103,.int .i64 h.mode,.int .i64 h.uid,.int .i64 h.gid,.int .i64 h.time,.int .i64 h.size,.bool h.eG];have d0:=A.cell 0;have d1:=A.cell 1;have d2:=A.cell 2;have d3:=A.cell 3;have d4:=A.cell 4;have d5:=A.cell 5;have d6:=A.cell 6;have d7:=A.cell 7;have d8:=A.cell 8;simp only[Qc,Qa,Qb]at d0 d1 d2 d3 d4 d5 d6 d7 d8;have G:=Qh V;clear M A V;go_wp2_with fail
 refine(show Calls _ _ #[.pointer (some ⟨K.r,0,none⟩),.agg #[.string (str h.name),.string (str h.link),.int .u8 103,.int .i64 h.mode,.int .i64 h.uid,.int .i64 h.gid,.int .i64 h.time,.int .i64 h.size,.bool h.eG]] _ (cX w0 K a (iC (K.S.bs.drop a) h s))from by
  have:=qW G.out h nv.out.1 (by rw[o.out];rfl) lW.out;unfold aa at this;rw[N.out]at this
  exact this).mono ?_
 intro e w4 B
 obtain⟨E,rfl⟩:∃E,e=.returned (.int .i64 E):=by
  revert B
  cases iC (K.S.bs.drop a) h s with
  |fault er=>exact fun B=>⟨er,B.1⟩
  |done=>exact fun B=>B.elim
  |next k s'=>exact fun B=>⟨0,B.1⟩
 have u:=Qh B;clear B;go_wp2;go_ret2;exact⟨E,rfl,u.out⟩
theorem B8 (hr:Rd w0 w K a s mb v xs q n c) (X:List UInt8) (hX:(K.S.bs.drop a).take 512=X) (hl:a+512≤K.S.n) (hz:cT X=false) (h:ak) (hh:aU X=(h,0)) (lh:h.kind=76) (hN:Need w0):
 Calls Tryz.prog 44 #[.pointer (some ⟨K.r,0,none⟩)] w fun e w'=>∃E,e=.returned (.tuple #[.bool true,.int .i64 E])∧cX w0 K a (iC (K.S.bs.drop a) h s) (.returned (.int .i64 E)) w':=by
 obtain⟨t,hs⟩:=hr.src;have b:X.length=512:=by rw[←hX,Qg,Qe,hs.len];omega
 have y:=Qh hr;have x0:=hr.c0;have U:=mV w K.g a t K.S hs hr.off X hX hl;have Y:=Qh b;have z:=Qh hz;have m:=Qh hh;have d:=lf X;rw[hh]at d;obtain⟨H,A,I⟩:=d;have nv:=Qh (And.intro H (And.intro A I));have lW:=Qh hN;obtain⟨kn,D⟩:∃kn:Int,(h.kind.toNat:Int)=kn:=⟨_,rfl⟩
 obtain rfl:kn=76:=by rw[←D,lh];rfl
 have o:=Qh lh;clear lh;clear hr hs hl hX b hz hh H A I hN;have N:=Qh D;clear D
 go_enter Tryz.func44,Tryz.ntmps44
 go_wp2_with fail
 refine U.mono ?_;rintro e f ⟨p,L,t',rfl,W,Z,O,R,T⟩;have F:=Qh (y.out.eS T ⟨t',R⟩);have J:=Qh O;have l:=Qh (And.intro W Z);clear O R T U x0 W Z;go_wp2_with fail;refine(dw p L X f Y.out J.out).mono ?_;rw[z.out];rintro e w2 ⟨rfl,rfl⟩;go_wp2_with fail;refine(fT p 512 L X f Y.out l.out.1 l.out.2 J.out).mono ?_;rw[m.out];unfold jQ aa;simp only[N.out];rintro e w3 ⟨rfl,M⟩;have V:=(F.out.idle M).below ((Below.refl _ w3).alloc (Qk _) (.cells #[.string (str h.name),.string (str h.link),.int .u8 76,.int .i64 h.mode,.int .i64 h.uid,.int .i64 h.gid,.int .i64 h.time,.int .i64 h.size,.bool h.eG] 66));have A:=ao.new w3 66 #[.string (str h.name),.string (str h.link),.int .u8 76,.int .i64 h.mode,.int .i64 h.uid,.int .i64 h.gid,.int .i64 h.time,.int .i64 h.size,.bool h.eG];have d0:=A.cell 0;have d1:=A.cell 1;have d2:=A.cell 2;have d3:=A.cell 3;have d4:=A.cell 4;have d5:=A.cell 5;have d6:=A.cell 6;have d7:=A.cell 7;have d8:=A.cell 8;simp only[Qc,Qa,Qb]at d0 d1 d2 d3 d4 d5 d6 d7 d8;have G:=Qh V;clear M A V;go_wp2_with fail
 refine(show Calls _ _ #[.pointer (some ⟨K.r,0,none⟩),.agg #[.string (str h.name),.string (str h.link),.int .u8 76,.int .i64 h.mode,.int .i64 h.uid,.int .i64 h.gid,.int .i64 h.time,.int .i64 h.size,.bool h.eG]] _ (cX w0 K a (iC (K.S.bs.drop a) h s))from by
  have:=qW G.out h nv.out.1 (by rw[o.out];rfl) lW.out;unfold aa at this;rw[N.out]at this
  exact this).mono ?_
 intro e w4 B
 obtain⟨E,rfl⟩:∃E,e=.returned (.int .i64 E):=by
  revert B
  cases iC (K.S.bs.drop a) h s with
  |fault er=>exact fun B=>⟨er,B.1⟩
  |done=>exact fun B=>B.elim
  |next k s'=>exact fun B=>⟨0,B.1⟩
 have u:=Qh B;clear B;go_wp2;go_ret2;exact⟨E,rfl,u.out⟩
theorem B7 (hr:Rd w0 w K a s mb v xs q n c) (X:List UInt8) (hX:(K.S.bs.drop a).take 512=X) (hl:a+512≤K.S.n) (hz:cT X=false) (h:ak) (hh:aU X=(h,0)) (lh:h.kind=75) (hN:Need w0):
 Calls Tryz.prog 44 #[.pointer (some ⟨K.r,0,none⟩)] w fun e w'=>∃E,e=.returned (.tuple #[.bool true,.int .i64 E])∧cX w0 K a (iC (K.S.bs.drop a) h s) (.returned (.int .i64 E)) w':=by
 obtain⟨t,hs⟩:=hr.src;have b:X.length=512:=by rw[←hX,Qg,Qe,hs.len];omega
 have y:=Qh hr;have x0:=hr.c0;have U:=mV w K.g a t K.S hs hr.off X hX hl;have Y:=Qh b;have z:=Qh hz;have m:=Qh hh;have d:=lf X;rw[hh]at d;obtain⟨H,A,I⟩:=d;have nv:=Qh (And.intro H (And.intro A I));have lW:=Qh hN;obtain⟨kn,D⟩:∃kn:Int,(h.kind.toNat:Int)=kn:=⟨_,rfl⟩
 obtain rfl:kn=75:=by rw[←D,lh];rfl
 have o:=Qh lh;clear lh;clear hr hs hl hX b hz hh H A I hN;have N:=Qh D;clear D
 go_enter Tryz.func44,Tryz.ntmps44
 go_wp2_with fail
 refine U.mono ?_;rintro e f ⟨p,L,t',rfl,W,Z,O,R,T⟩;have F:=Qh (y.out.eS T ⟨t',R⟩);have J:=Qh O;have l:=Qh (And.intro W Z);clear O R T U x0 W Z;go_wp2_with fail;refine(dw p L X f Y.out J.out).mono ?_;rw[z.out];rintro e w2 ⟨rfl,rfl⟩;go_wp2_with fail;refine(fT p 512 L X f Y.out l.out.1 l.out.2 J.out).mono ?_;rw[m.out];unfold jQ aa;simp only[N.out];rintro e w3 ⟨rfl,M⟩;have V:=(F.out.idle M).below ((Below.refl _ w3).alloc (Qk _) (.cells #[.string (str h.name),.string (str h.link),.int .u8 75,.int .i64 h.mode,.int .i64 h.uid,.int .i64 h.gid,.int .i64 h.time,.int .i64 h.size,.bool h.eG] 66));have A:=ao.new w3 66 #[.string (str h.name),.string (str h.link),.int .u8 75,.int .i64 h.mode,.int .i64 h.uid,.int .i64 h.gid,.int .i64 h.time,.int .i64 h.size,.bool h.eG];have d0:=A.cell 0;have d1:=A.cell 1;have d2:=A.cell 2;have d3:=A.cell 3;have d4:=A.cell 4;have d5:=A.cell 5;have d6:=A.cell 6;have d7:=A.cell 7;have d8:=A.cell 8;simp only[Qc,Qa,Qb]at d0 d1 d2 d3 d4 d5 d6 d7 d8;have G:=Qh V;clear M A V;go_wp2_with fail
 refine(show Calls _ _ #[.pointer (some ⟨K.r,0,none⟩),.agg #[.string (str h.name),.string (str h.link),.int .u8 75,.int .i64 h.mode,.int .i64 h.uid,.int .i64 h.gid,.int .i64 h.time,.int .i64 h.size,.bool h.eG]] _ (cX w0 K a (iC (K.S.bs.drop a) h s))from by
  have:=qW G.out h nv.out.1 (by rw[o.out];rfl) lW.out;unfold aa at this;rw[N.out]at this
  exact this).mono ?_
 intro e w4 B
 obtain⟨E,rfl⟩:∃E,e=.returned (.int .i64 E):=by
  revert B
  cases iC (K.S.bs.drop a) h s with
  |fault er=>exact fun B=>⟨er,B.1⟩
  |done=>exact fun B=>B.elim
  |next k s'=>exact fun B=>⟨0,B.1⟩
 have u:=Qh B;clear B;go_wp2;go_ret2;exact⟨E,rfl,u.out⟩
theorem JS (hr:Rd w0 w K a s mb v xs q n c) (X:List UInt8) (hX:(K.S.bs.drop a).take 512=X) (hl:a+512≤K.S.n) (hz:cT X=false) (h:ak) (hh:aU X=(h,0)) (lh:nX h.kind=false) (hN:Need w0):
 Calls Tryz.prog 44 #[.pointer (some ⟨K.r,0,none⟩)] w fun e w'=>∃E,e=.returned (.tuple #[.bool true,.int .i64 E])∧cX w0 K a (oh (K.S.bs.drop a) h s) (.returned (.int .i64 E)) w':=by
 obtain⟨t,hs⟩:=hr.src;have f:X.length=512:=by rw[←hX,Qg,Qe,hs.len];omega
 have HR:=Qh hr;have x0:=hr.c0;have W:=mV w K.g a t K.S hs hr.off X hX hl;have b:=Qh f;have HZ:=Qh hz;have y:=Qh hh;have l:=lf X;rw[hh]at l;obtain⟨I,A,J⟩:=l;have H:=Qh (And.intro I (And.intro A J));have lW:=Qh hN;obtain⟨kn,D⟩:∃kn:Int,(h.kind.toNat:Int)=kn:=⟨_,rfl⟩
 have O:(kn==120)=false∧(kn==103)=false∧(kn==76)=false∧(kn==75)=false:=by
  have hu:=fun m hm=>jF h.kind m hm
  unfold nX at lh;simp only[Bool.or_eq_false_iff,beq_eq_false_iff_ne]at lh;obtain⟨⟨⟨k1,k2⟩,k3⟩,k4⟩:=lh;simp only[beq_eq_false_iff_ne];exact⟨fun e=>k1 ((hu 120 (by decide)).1 (D.trans e)),fun e=>k2 ((hu 103 (by decide)).1 (D.trans e)),fun e=>k3 ((hu 76 (by decide)).1 (D.trans e)),fun e=>k4 ((hu 75 (by decide)).1 (D.trans e))⟩
 obtain⟨e1,e2,e3,O⟩:=O;clear lh;clear hr hs hl hX f hz hh I A J hN;have R:=Qh D;clear D
 go_enter Tryz.func44,Tryz.ntmps44
 go_wp2_with fail
 refine W.mono ?_;rintro e o ⟨p,M,t',rfl,Z,d,T,U,V⟩;have F:=Qh (HR.out.eS V ⟨t',U⟩);have L:=Qh T;have u:=Qh (And.intro Z d);clear T U V W x0 Z d;go_wp2_with fail;refine(dw p M X o b.out L.out).mono ?_;rw[HZ.out];rintro e w2 ⟨rfl,rfl⟩;go_wp2_with fail;refine(fT p 512 M X o b.out u.out.1 u.out.2 L.out).mono ?_;rw[y.out];unfold jQ aa;simp only[R.out];rintro e w3 ⟨rfl,N⟩;have Y:=(F.out.idle N).below ((Below.refl _ w3).alloc (Qk _) (.cells #[.string (str h.name),.string (str h.link),.int .u8 kn,.int .i64 h.mode,.int .i64 h.uid,.int .i64 h.gid,.int .i64 h.time,.int .i64 h.size,.bool h.eG] 66));have A:=ao.new w3 66 #[.string (str h.name),.string (str h.link),.int .u8 kn,.int .i64 h.mode,.int .i64 h.uid,.int .i64 h.gid,.int .i64 h.time,.int .i64 h.size,.bool h.eG];have d0:=A.cell 0;have d1:=A.cell 1;have d2:=A.cell 2;have d3:=A.cell 3;have d4:=A.cell 4;have d5:=A.cell 5;have d6:=A.cell 6;have d7:=A.cell 7;have d8:=A.cell 8;simp only[Qc,Qa,Qb]at d0 d1 d2 d3 d4 d5 d6 d7 d8;have G:=Qh Y;clear N A Y;go_wp2_with fail
 refine(show Calls _ _ #[.pointer (some ⟨K.r,0,none⟩),.agg #[.string (str h.name),.string (str h.link),.int .u8 kn,.int .i64 h.mode,.int .i64 h.uid,.int .i64 h.gid,.int .i64 h.time,.int .i64 h.size,.bool h.eG]] _ (cX w0 K a (oh (K.S.bs.drop a) h s))from by
  have:=qT G.out h lW.out H.out.1 (by have:=H.out.2.1;omega) (by have:=H.out.2.2;omega);unfold aa at this;rw[R.out]at this
  exact this).mono ?_
 intro e w4 B
 obtain⟨E,rfl⟩:∃E,e=.returned (.int .i64 E):=by
  revert B
  cases oh (K.S.bs.drop a) h s with
  |fault er=>exact fun B=>⟨er,B.1⟩
  |done=>exact fun B=>B.elim
  |next k s'=>exact fun B=>⟨0,B.1⟩
 have z:=Qh B;clear B;go_wp2;go_ret2;exact⟨E,rfl,z.out⟩
theorem DS {st:Step} (hd:st≠.done) (h:Calls Tryz.prog 44 #[.pointer (some ⟨K.r,0,none⟩)] w fun e w'=>∃E,e=.returned (.tuple #[.bool true,.int .i64 E])∧cX w0 K a st (.returned (.int .i64 E)) w'):
 Calls Tryz.prog 44 #[.pointer (some ⟨K.r,0,none⟩)] w (xT w0 K a s mb v xs q n c st):=by
 refine h.mono ?_;rintro e w' ⟨E,rfl,B⟩
 cases st with
 |fault er=>
  obtain⟨h1,A⟩:=B;simp only[Ending.returned.injEq,Value.int.injEq,true_and]at h1;subst h1;exact⟨⟨true,rfl⟩,A⟩
 |done=>exact absurd rfl hd
 |next k D=>
  obtain⟨h1,A⟩:=B;simp only[Ending.returned.injEq,Value.int.injEq,true_and]at h1;subst h1;exact⟨rfl,A⟩
theorem Fl (l:List UInt8) (h:ak) (s:RS):iC l h s≠.done:=by
 unfold iC;split
 ·exact fun h=>by cases h
 ·split
  ·exact fun h=>by cases h
  ·split
   ·exact fun h=>by cases h
   ·split
    ·exact fun h=>by cases h
    ·split
     ·exact fun h=>by cases h
     ·split
      ·exact fun h=>by cases h
      ·split<;>exact fun h=>by cases h
theorem F9 (l:List UInt8) (h:ak) (s:RS):oh l h s≠.done:=by
 unfold oh;split
 ·exact fun h=>by cases h
 ·split
  ·exact fun h=>by cases h
  ·split
   ·exact fun h=>by cases h
   ·split<;>exact fun h=>by cases h
theorem JT (hr:Rd w0 w K a s mb v xs q n c) (hN:Need w0):
 Calls Tryz.prog 44 #[.pointer (some ⟨K.r,0,none⟩)] w (xT w0 K a s mb v xs q n c (dh (K.S.bs.drop a) s)):=by
 obtain⟨t,hs⟩:=hr.src;have hlen:=hs.len;have hle:=hs.le;have J:(K.S.bs.drop a).length=K.S.n - a:=by rw[Qe,hlen]
 unfold dh
 by_cases h1:(K.S.bs.drop a).length<512
 ·rw[if_pos h1]
  exact(B9 hr (by omega)).mono fun e w' h=>⟨⟨false,h.1⟩,h.2⟩
 ·rw[if_neg h1]
  have hl:a+512≤K.S.n:=by omega
  obtain⟨X,E⟩:∃X,(K.S.bs.drop a).take 512=X:=⟨_,rfl⟩
  rw[E]
  by_cases H:cT X=true
  ·rw[if_pos H]
   refine(JU hr X E hl H).mono ?_;rintro e w' ⟨rfl,a',I⟩;unfold A2;rw[List.drop_drop,J,Nat.sub_sub,show(K.S.bs.drop (a+512)).length=K.S.n - (a+512) by rw[Qe,hlen]]
   by_cases B:K.S.n - (a+512)<512
   ·rw[if_pos B,if_pos B]
    exact⟨⟨false,rfl⟩,I.bel⟩
   ·rw[if_neg B,if_neg B]
    by_cases A:cT (K.S.bs.drop (a+512))=false
    ·rw[if_pos A,if_pos A]
     exact⟨⟨false,rfl⟩,I.bel⟩
    ·rw[if_neg A,if_neg A]
     by_cases D:s.dU=true∨s.name.isSome=true∨s.link.isSome=true
     ·rw[if_pos D,if_pos D]
      exact⟨⟨false,rfl⟩,I.bel⟩
     ·rw[if_neg D,if_neg D]
      exact⟨rfl,a',I⟩
  ·rw[if_neg H]
   have G:cT X=false:=by simpa using H
   by_cases B:(aU X).2≠0
   ·rw[if_pos B]
    exact(zf hr X E hl G B).mono fun e w' h=>⟨⟨false,h.1⟩,h.2⟩
   ·rw[if_neg B]
    have A:aU X=((aU X).1,0):=Prod.ext rfl (Classical.byContradiction B)
    by_cases D:nX (aU X).1.kind=true
    ·rw[if_pos D]
     refine DS (Fl _ _ _) ?_;have h6:=D;unfold nX at h6;simp only[Bool.or_eq_true,beq_iff_eq]at h6;rcases h6 with((h6|h6)|h6)|h6
     ·exact ze hr X E hl G _ A h6 hN
     ·exact zd hr X E hl G _ A h6 hN
     ·exact B8 hr X E hl G _ A h6 hN
     ·exact B7 hr X E hl G _ A h6 hN
    ·rw[if_neg D]
     exact DS (F9 _ _ _) (JS hr X E hl G _ A (by simpa using D) hN)
end
end Mem
namespace Mem
theorem CU (q:Option Addr) (n c:Nat):bH gd q n c=fun _=>none:=by
 funext k
 unfold bH gd;simp
def Rp (w:World) (bs:List UInt8) (e:Ending) (w':World):Prop:=
 ∃K:RK,e=.returned (.pointer (some ⟨K.r,0,none⟩))∧K.S.bs=bs∧Rd w w' K 0 gd none (.slice none 0 0) [] none 0 0
theorem Gd {w w1:World} {g:Nat} {S:Sv} (hg:w.heap.size≤g) (ho:S.off g) (hs:Block.Src w1 g S 0 0) (hk:Kept af w w1):
 Rd w (((w1.alloc (.cells #[.map none] 128)).alloc (.map #[] 0)).alloc (.cells #[.pointer (some ⟨g,0,none⟩),.pointer (some ⟨w1.heap.size,0,none⟩),.map (some (w1.heap.size+1)),.slice none 0 0] 91))
  ⟨w1.heap.size+1+1,g,w1.heap.size,w1.heap.size+1,S⟩ 0 gd none (.slice none 0 0) [] none 0 0:=by
 have O:=hs.lt
 have I:Kept af w1 (((w1.alloc (.cells #[.map none] 128)).alloc (.map #[] 0)).alloc (.cells #[.pointer (some ⟨g,0,none⟩),.pointer (some ⟨w1.heap.size,0,none⟩),.map (some (w1.heap.size+1)),.slice none 0 0] 91)):=
  (((Kept.refl af w1).alloc _).alloc _).alloc _
 have E:=hk.size
 have M:∀y,y<w1.heap.size→¬Ot ⟨w1.heap.size+1+1,g,w1.heap.size,w1.heap.size+1,S⟩ none (.slice none 0 0) y:=fun y hy e=>by
  rcases e with e|e|e|e|e
  ·have e:y=w1.heap.size+1+1:=e;omega
  ·have e:y=w1.heap.size:=e;omega
  ·have e:y=w1.heap.size+1:=e;omega
  ·cases e
  ·cases e
 have N:=(St.new w1).kept (((Kept.refl af (w1.alloc (.cells #[.map none] 128))).alloc (.map #[] 0)).alloc (.cells #[.pointer (some ⟨g,0,none⟩),.pointer (some ⟨w1.heap.size,0,none⟩),.map (some (w1.heap.size+1)),.slice none 0 0] 91)) (fun _ _=>id);have J:=(iw KY (w1.alloc (.cells #[.map none] 128))).kept ((Kept.refl af _).alloc (.cells #[.pointer (some ⟨g,0,none⟩),.pointer (some ⟨w1.heap.size,0,none⟩),.map (some (w1.heap.size+1)),.slice none 0 0] 91)) id;have L:=ao.new ((w1.alloc (.cells #[.map none] 128)).alloc (.map #[] 0)) 91 #[.pointer (some ⟨g,0,none⟩),.pointer (some ⟨w1.heap.size,0,none⟩),.map (some (w1.heap.size+1)),.slice none 0 0];simp only[World.size_alloc]at J L
 exact {
  bel:=(hk.trans I).below (Qk _) (fun _ h=>h.elim)
  gm:=L
  src:=⟨0,hs.cz I⟩
  off:=ho
  st:=N
  map:=by rw[CU];exact J
  own:=⟨rfl,fun h=>by omega⟩
  oz:=fun _=>rfl
  row:=⟨rfl,.inl ⟨rfl,rfl⟩⟩
  out:=rfl
  bodies:=fun x H=>by simp at H
  apart:=fun x H=>by simp at H
  sp:=fun A y hy=>M _ (kV hs.iZ A hy)
  sq:=fun A y hy=>M _ (wW hs.L8 A hy)
  ne:=⟨by show w1.heap.size+1+1≠g;omega,by show w1.heap.size+1+1≠w1.heap.size;omega,by show w1.heap.size+1+1≠w1.heap.size+1;omega,by show g≠w1.heap.size;omega,by show g≠w1.heap.size+1;omega,by show w1.heap.size≠w1.heap.size+1;omega⟩
  uc:=fun b B=>by cases B
  re:=fun b B=>by cases B
  base:=⟨by show w.heap.size≤w1.heap.size+1+1;omega,hg,E,by show w.heap.size≤w1.heap.size+1;omega⟩
  many:=by show 0≤4096;omega
  gl:=(fun r D=>by cases D)
  ol:=⟨(fun r D=>by cases D),by show 0≤1048576;omega⟩
  nl:=fun t G=>by cases G
  ll:=fun t G=>by cases G}
theorem ud (w:World) (p:Option Addr) (n c:Nat) (bs:List UInt8) (q:Option Addr) (m d:Nat) (zs:List Int) (hb:cj w p n bs) (hl:bs.length=n) (hn:n≤140737488351232) (hq:Eg w q m zs) (hz:zs.length=m) (hm:m*8≤140737488351232):
 Calls Tryz.prog 42 #[.slice p n c,.slice q m d] w (Rp w bs):=by
 have H:=Ml w p n c bs q m d zs hb hl hn hq hz hm;have N:=@run_makeMap Tryz.prog;clear hb hl hn hq hz hm
 go_enter Tryz.func42,Tryz.ntmps42
 go_wp2_with fail
 refine H.mono ?_;rintro e A ⟨g,S,rfl,h1,B,I,J,D,L,M,E,G⟩;have F:=Qh (And.intro B (Gd h1 D E G));clear h1 B I J D L M E G H;go_wp2;go_ret;exact⟨⟨A.heap.size+1+1,g,A.heap.size,A.heap.size+1,S⟩,rfl,F.out.1,F.out.2⟩
end Mem
namespace Mem
open Path Go.Shelf
theorem vz {fn:Func} (hf:fn.results=#[.tmp 4,.cell 5 32]) (tmps:Array Value) (w:World) (g:Nat) (v:Value) (ht:tmps.getD 5 undef=.pointer (some ⟨g,0,none⟩)) (hv:tmps.getD 4 undef=v)
 (a b:Int) (hb:ao w g 32 #[.int .i64 a,.int .i64 b]):(results fn tmps).run Tryz.prog w=.ok (.tuple #[v,.agg #[.int .i64 a,.int .i64 b]]) w:=by
 have c0:=hb.cell 0;have c1:=hb.cell 1;simp only[Qc,Qa,Qb]at c0 c1;have hl:(loadVar 32 ⟨g,0,none⟩).run Tryz.prog w=.ok (.agg #[.int .i64 a,.int .i64 b]) w:=by go_simp
 have B:tmps[5]?.getD undef=.pointer (some ⟨g,0,none⟩):=by simpa using ht
 have A:tmps[4]?.getD undef=v:=by simpa using hv
 simp only[results,hf];simp[Result.andThen,B,A,asAddr,hl]
theorem ye {w:World} {p:Option Addr} {n:Nat} {bs:List UInt8} {b:Nat} {t:TypeId} {cs:Array Value} (h:cj w p n bs) (hb:ao w b t cs) (hs:∀(i:Nat) (x:Int),cs[i]? ≠some (.int .u8 x)) (h0:0<n) {y:Addr} (hy:p=some y):y.block≠b:=by
 obtain⟨A,o,rfl,_,hc⟩:=h.cell h0
 cases hy
 rintro rfl;have c0:=hc 0 h0;rw[hb.cell]at c0;exact hs _ _ c0
def MX (w:World) (bs:List UInt8) (e:Ending) (w':World):Prop:=
 ∃(p:Option Addr) (c:Nat) (xs:List MP),e=.returned (.tuple #[.slice p xs.length c,.agg #[.int .i64 (cn bs).2.1,.int .i64 ((cn bs).2.2:Nat)]])∧xs.length≤c∧c≤maxLen∧xs.map MP.m=(cn bs).1∧cN w' p xs.length xs∧Below w.heap.size w w'
theorem y9 (w:World) (p:Option Addr) (n c:Nat) (bs:List UInt8) (q:Option Addr) (m d:Nat) (zs:List Int) (hb:cj w p n bs) (hl:bs.length=n) (hn:n≤140737488351232) (hq:Eg w q m zs) (hz:zs.length=m) (hm:m*8≤140737488351232) (hN:Need w):
 Calls Tryz.prog 18 #[.slice p n c,.slice q m d] w (MX w bs):=by
 obtain⟨W1,T⟩:∃W1,w.alloc (.cells #[.int .i64 0,.int .i64 0] 32)=W1:=⟨_,rfl⟩
 have J:Below w.heap.size w W1:=by rw[←T];exact(Below.refl _ w).alloc (Qk _) _
 have o9:ao W1 w.heap.size 32 #[.int .i64 0,.int .i64 0]:=by rw[←T];exact ao.new w _ _
 have X8:=ud W1 p n c bs q m d zs (hb.below J) hl hn (hq.kept (Kept.aM J af) (fun _ _ _=>id)) hz hm;have M:=Qh J;have H:=Qh o9;have lW:=Qh (hN.below J);have xJ:=Qh hl;clear hb hl hn hq hz hm hN J o9
 go_enter Tryz.func18,Tryz.ntmps18
 go_upto_region 1 with fail
 clear T;go_wp2_with fail;refine X8.mono ?_;rintro e w2 ⟨K,rfl,Dv,B⟩;have Uv:=Qh Dv;have HR:=Qh B;clear Dv B X8;go_wp2_with fail
 go_loopg [7,8,9] bs.length (fun g s7 s8 s9 wr=>Hid (∃(a:Nat) (s:RS) (mb:Option Nat) (v:Value) (xs:List MP) (q:Option Addr) (n c:Nat),Rd W1 wr K a s mb v xs q n c∧bu bs 0 gd=bu (bs.drop a) a s∧g=bs.length - a))
 case atStart=>exact Qh ⟨0,gd,none,.slice none 0 0,[],none,0,0,HR.out,by rw[List.drop_zero],rfl⟩
 case round=>
  obtain⟨a,s,mb,v,xs,q,n,c,B,YT,rfl⟩:=hrel.out;obtain⟨t,hs⟩:=B.src;have hP:=po wr K.g a t K.S hs;have L:=JT B lW.out;rw[Uv.out]at L;have x0:=B.c0;have xR:=Qh B;have R:=Qh YT;obtain⟨st,f⟩:∃st,dh (bs.drop a) s=st:=⟨_,rfl⟩
  rw[f]at L;have I:=Qh f;have Y:=H.out.below B.bel H.out.lt;clear B YT hs f hrel;go_wp2_with fail;refine hP.mono ?_;rintro e w3 ⟨rfl,rfl⟩;go_wp2_with fail;refine L.mono ?_;clear L hP Y;intro e N Z
  cases st with
  |fault er=>
   obtain⟨⟨b,rfl⟩,U⟩:=Z;have cE:=tv I.out;have LL:(er != 0)=true:=by simpa using cE
   have A:=H.out.below U H.out.lt;have o:=A.cell 0;have r:=A.cell 1;have f0:=A.frozen 0;have f1:=A.frozen 1;simp only[Qc,Qa,Qb]at o r;have O:=Qh A;have mN:=Qh U
   have E:Hid (cn bs=([],er,a)):=Qh (by
    show bu bs 0 gd=_
    rw[R.out,eb I.out])
   clear U cE A x0;go_wp2;refine bodyPost_ret (vz rfl _ _ w.heap.size _ rfl rfl er (a:Int) ((O.out.set 0 (.int .i64 er) (by decide:0<2)).set 1 (.int .i64 (a:Int)) (by decide:1<2))) rfl ?_;refine⟨none,0,[],?_,by simp,by decide,?_,sH _ _,?_⟩
   ·rw[E.out];rfl
   ·rw[E.out];rfl
   ·exact((M.out.trans (mN.out.mono M.out.size)).setCell (p:=⟨w.heap.size,0,none⟩) (Qk _) _).setCell (p:=⟨w.heap.size,1,none⟩) (Qk _) _
  |done=>
   obtain⟨rfl,a',G⟩:=Z;have A:=H.out.below G.bel H.out.lt;have o:=A.cell 0;have r:=A.cell 1;have f0:=A.frozen 0;have f1:=A.frozen 1;simp only[Qc,Qa,Qb]at o r;have O:=Qh A;have x3:=G.c3;have D:=Qh G
   have E:Hid (cn bs=(s.out,0,0)):=Qh (by
    show bu bs 0 gd=_
    rw[R.out,gr I.out])
   clear G A x0;go_wp2
   have nU:Below w.heap.size w ((N.setCell ⟨w.heap.size,0,none⟩ (.int .i64 0)).setCell ⟨w.heap.size,1,none⟩ (.int .i64 0)):=
    ((M.out.trans (D.out.bel.mono M.out.size)).setCell (p:=⟨w.heap.size,0,none⟩) (Qk _) _).setCell (p:=⟨w.heap.size,1,none⟩) (Qk _) _
   refine bodyPost_ret (vz rfl _ _ w.heap.size _ rfl rfl 0 0 ((O.out.set 0 (.int .i64 0) (by decide:0<2)).set 1 (.int .i64 0) (by decide:1<2))) rfl ?_
   have gM:Kept (aw w.heap.size) N ((N.setCell ⟨w.heap.size,0,none⟩ (.int .i64 0)).setCell ⟨w.heap.size,1,none⟩ (.int .i64 0)):=
    ((Kept.refl (aw w.heap.size) N).setCell (a:=⟨w.heap.size,0,none⟩) (.inr rfl) _).setCell (a:=⟨w.heap.size,1,none⟩) (.inr rfl) _
   have wV:=H.out.lt
   obtain⟨p5,c5,rfl,V,W,X⟩:=iQ (b6 D.out.row gM (fun k hk e=>by
    have h1:=(D.out.row.lt k hk).1;have h2:k=w.heap.size:=e
    omega)) (fun x hx=>(D.out.bodies x hx).kept gM (fun h0 y hy e=>ye (D.out.bodies x hx).iZ O.out (fun i z hz=>by rcases i with _|_|i<;>simp at hz) h0 hy e))
   refine⟨p5,c5,xs,?_,V,W,?_,X,nU⟩
   ·rw[E.out];rfl
   ·rw[E.out];exact D.out.out
  |next k s'=>
   obtain⟨rfl,l,v',u,q',n',c',G⟩:=Z;have D:=Qh G;have p9:=j3 I.out
   have E:Hid (bu bs 0 gd=bu (bs.drop (a+k)) (a+k) s'):=Qh (by
    rw[R.out,eF I.out,List.drop_drop])
   have Rk:=Qh p9;clear G p9 x0;go_wp2
   go_roundg (bs.length - (a+k))
   case measure=>have:=Rk.out;rw[Qe]at this;omega
   case rel=>exact Qh ⟨a+k,s',l,v',u,q',n',c',D.out,E.out,rfl⟩
end Mem
end Go.Proofs.YtdhibldkldlfpaaGreatDoor
