/- Merged. -/
import Derived.Test.YtdhibldkldlfpaaGreatDoorEmitLeastX34
namespace Go.Proofs.YtdhibldkldlfpaaGreatDoor
set_option linter.unusedVariables false
set_option maxHeartbeats 4000000
set_option maxRecDepth 100000
open Go.ChangeShapes Go.WideShapes Go.ChangeAt Go.RowKit Base bJ cn Bk Mk Block Hp Head Attr Rec Go.Lib
namespace Mem
open Path Go.Shelf
section
variable {w0 w w':World} {K:RK} {a:Nat} {s:RS} {mb:Option Nat} {v:Value} {xs:List MP} {q:Option Addr} {n c:Nat}
theorem zH (k:UInt8):fL k=true↔¬(k≠48∧k≠49∧k≠50∧k≠53):=by
 unfold fL;simp only[Bool.or_eq_true,beq_iff_eq];constructor
 ·rintro(((h|h)|h)|h) ⟨h1,A,B,D⟩
  ·exact h1 h
  ·exact A h
  ·exact B h
  ·exact D h
 ·intro h
  by_cases h1:k=48
  ·exact .inl (.inl (.inl h1))
  ·by_cases A:k=49
   ·exact .inl (.inl (.inr A))
   ·by_cases B:k=50
    ·exact .inl (.inr B)
    ·by_cases D:k=53
     ·exact .inr D
     ·exact absurd ⟨h1,A,B,D⟩ h
theorem rB (hr:Rd w0 w K (a+512) s mb v xs q n c) (h:ak) (hN:Need w0) (h0:0≤h.size) (h1:h.name.length≤1048576) (h2:h.link.length≤1048576):
 Calls Tryz.prog 76 #[.pointer (some ⟨K.r,0,none⟩),.agg (aa h)] w (dB w0 K a (oP (K.S.bs.drop a) h s)):=by
 obtain⟨t,hs⟩:=hr.src;have hlen:=hs.len;have hle:=hs.le;have T:(K.S.bs.drop a).length=K.S.n - a:=by rw[Qe,hlen]
 unfold oP
 by_cases hf:4096≤s.out.length
 ·rw[if_pos hf]
  exact(JK hr h (Nat.le_antisymm hr.many hf)).mono fun e w' h=>h
 ·rw[if_neg hf]
  have B:s.out.length<4096:=by omega
  by_cases hk:h.kind≠48∧h.kind≠49∧h.kind≠50∧h.kind≠53
  ·rw[if_pos hk]
   exact(M8 hr h B (by
    cases W:fL h.kind with
    |false=>rfl
    |true=>exact absurd hk ((zH _).1 W))).mono fun e w' h=>h
  ·rw[if_neg hk,K7]
   have I:=(zH _).2 hk
   by_cases G:(cA (aH s.cU) s.own (ey h s)).2≠0
   ·rw[if_pos G]
    exact(yO hr h B I G).mono fun e w' h=>h
   ·rw[if_neg G]
    have D:cA (aH s.cU) s.own (ey h s)=((cA (aH s.cU) s.own (ey h s)).1,0):=Prod.ext rfl (Classical.byContradiction G);have H:=og h hr h0 h1 h2;obtain⟨A,N⟩:∃x,(cA (aH s.cU) s.own (ey h s)).1=x:=⟨_,rfl⟩
    rw[N]at D H⊢
    by_cases E:(dG A).2≠0
    ·rw[if_pos E]
     exact(BN hr h B I hN h0 h1 h2 A D E).mono fun e w' h=>h
    ·rw[if_neg E]
     have L:(dG A).2=0:=Classical.byContradiction E;have V:=Ch L;obtain⟨k,M⟩:∃k:Nat,A.size=(k:Int):=⟨A.size.toNat,by omega⟩
     have R:k≤1048576:=by omega
     have J:aR k=eK k:=rfl;simp only;unfold qj;rw[M,Int.toNat_natCast,T]
     by_cases U:K.S.n<a+512+eK k
     ·rw[if_pos (by rw[J];omega)]
      exact(F9 hr h B I hN h0 h1 h2 A D L k M R U).mono fun e w' h=>h
     ·rw[if_neg (by rw[J];omega)]
      simp only;obtain⟨X,O⟩:∃X,(K.S.bs.drop (a+512)).take k=X:=⟨_,rfl⟩
      rw[List.drop_drop,O,J];refine(P3 hr h B I hN h0 h1 h2 A D L k M R X O (by omega)).mono ?_;rintro e w' ⟨rfl,H⟩;rw[Nat.add_assoc]at H;exact⟨rfl,H⟩
theorem nD (w:World) (g a t:Nat) (S:Sv) (h:Block.Src w g S a t) (ho:S.off g) (X:List UInt8) (hX:(S.bs.drop a).take 512=X) (hl:a+512≤S.n):
 Calls Tryz.prog 71 #[.pointer (some ⟨g,0,none⟩)] w fun e w'=>∃p c t',e=.returned (.tuple #[.slice p 512 c,.int .i64 0])∧512≤c∧c≤maxLen∧cB w' p 512 X∧Block.Src w' g S (a+512) t'∧Kept (aA g) w w':=by
 refine(kW w g a t S h ho).mono ?_;rintro e w' (⟨h1,_⟩|⟨_,B⟩)
 ·omega
 ·rcases B with⟨_,v,rfl,h3,⟨t',h4⟩,h5⟩|⟨h1,_⟩
  ·obtain⟨p,c,rfl,D,E,A,_,_⟩:=h3.slice
   rw[hX]at A;exact⟨p,c,t',rfl,D,E,A,h4,h5⟩
  ·omega
theorem P4 (w:World) (g a t:Nat) (S:Sv) (h:Block.Src w g S a t) (ho:S.off g) (hl:S.n<a+512):
 Calls Tryz.prog 71 #[.pointer (some ⟨g,0,none⟩)] w fun e w'=>∃E a' t',(E=14∨E=2)∧e=.returned (.tuple #[.slice none 0 0,.int .i64 E])∧Block.Src w' g S a' t'∧Kept (aA g) w w':=by
 refine(kW w g a t S h ho).mono ?_;rintro e w' (⟨_,rfl,⟨t',h1⟩,A⟩|⟨_,A⟩)
 ·exact⟨14,_,t',.inl rfl,rfl,h1,A⟩
 ·rcases A with⟨h3,_⟩|⟨_,rfl,⟨t',h4⟩,h5⟩
  ·omega
  ·exact⟨2,_,t',.inr rfl,rfl,h4,h5⟩
def yJ (w0:World) (K:RK) (a:Nat) (s:RS) (mb:Option Nat) (v:Value) (xs:List MP) (q:Option Addr) (n c:Nat) (st:Step) (e:Ending) (w':World):Prop:=
 match st with
 |.fault er=>(∃b,e=.returned (.tuple #[.bool b,.int .i64 er]))∧Below w0.heap.size w0 w'
 |.done=>e=.returned (.tuple #[.bool false,.int .i64 0])∧∃a',Rd w0 w' K a' s mb v xs q n c
 |.next k s'=>e=.returned (.tuple #[.bool true,.int .i64 0])∧Left w0 K (a+k) s' w'
theorem Df (hr:Rd w0 w K a s mb v xs q n c) (hl:K.S.n<a+512):
 Calls Tryz.prog 44 #[.pointer (some ⟨K.r,0,none⟩)] w fun e w'=>e=.returned (.tuple #[.bool false,.int .i64 2])∧Below w0.heap.size w0 w':=by
 obtain⟨t,hs⟩:=hr.src;have H:=Qh hr;have x0:=hr.c0;have D:=P4 w K.g a t K.S hs hr.off hl;clear hr hs hl
 go_enter Tryz.func44,Tryz.ntmps44
 go_wp2_with fail
 refine D.mono ?_;rintro e L ⟨E,a',I,G,rfl,A,B⟩;have F:=Qh (H.out.fu B ⟨I,A⟩);have J:(E != 0)=true:=by rcases G with rfl|rfl<;>rfl
 clear A B D x0 G;go_wp2;go_ret2;exact⟨rfl,F.out.bel⟩
theorem Lc (hr:Rd w0 w K a s mb v xs q n c) (X:List UInt8) (hX:(K.S.bs.drop a).take 512=X) (hl:a+512≤K.S.n) (hz:dy X=true):
 Calls Tryz.prog 44 #[.pointer (some ⟨K.r,0,none⟩)] w fun e w'=>e=.returned (.tuple #[.bool false,.int .i64 (B9 (K.S.bs.drop (a+512)) s)])∧∃a',Rd w0 w' K a' s mb v xs q n c:=by
 obtain⟨t,hs⟩:=hr.src;have J:X.length=512:=by rw[←hX,Qg,Qe,hs.len];omega
 have L:=Qh hr;have x0:=hr.c0;have H:=nD w K.g a t K.S hs hr.off X hX hl;have T:=Qh J;have M:=Qh hz;obtain⟨EE,A⟩:∃EE,B9 (K.S.bs.drop (a+512)) s=EE:=⟨_,rfl⟩
 rw[A];have N:=Qh A;clear hr hs hl hX J hz A
 go_enter Tryz.func44,Tryz.ntmps44
 go_wp2_with fail
 refine H.mono ?_;rintro e V ⟨p,R,U,rfl,_,_,B,D,E⟩;have F:=Qh (L.out.fu E ⟨U,D⟩);have O:=Qh B;clear B D E H x0;go_wp2_with fail;refine(dW p R X V T.out O.out).mono ?_;rw[M.out];rintro e W ⟨rfl,rfl⟩;go_wp2_with fail;refine(show Calls _ _ _ _ (D4 w0 K (a+512) s mb v xs q n c (B9 (K.S.bs.drop (a+512)) s))from xu F.out).mono ?_;rw[N.out];rintro e w3 ⟨rfl,a',I⟩;have G:=Qh I;clear I;go_wp2;go_ret2;exact⟨rfl,a',G.out⟩
theorem Ab (hr:Rd w0 w K a s mb v xs q n c) (X:List UInt8) (hX:(K.S.bs.drop a).take 512=X) (hl:a+512≤K.S.n) (hz:dy X=false) (he:(ba X).2≠0):
 Calls Tryz.prog 44 #[.pointer (some ⟨K.r,0,none⟩)] w fun e w'=>e=.returned (.tuple #[.bool false,.int .i64 (ba X).2])∧Below w0.heap.size w0 w':=by
 obtain⟨t,hs⟩:=hr.src;have R:X.length=512:=by rw[←hX,Qg,Qe,hs.len];omega
 have W:=Qh hr;have x0:=hr.c0;have M:=nD w K.g a t K.S hs hr.off X hX hl;have N:=Qh R;have Y:=Qh hz;obtain⟨⟨h,Z⟩,B⟩:∃x,ba X=x:=⟨_,rfl⟩
 rw[B]at he⊢;simp only at he⊢;have d:(Z != 0)=true:=by simpa using he
 have V:=Qh B;clear hr hs hl hX R hz he B
 go_enter Tryz.func44,Tryz.ntmps44
 go_wp2_with fail
 refine M.mono ?_;rintro e T ⟨p,E,b,rfl,H,O,I,J,L⟩;have F:=Qh (W.out.fu L ⟨b,J⟩);have D:=Qh I;have U:=Qh (And.intro H O);clear I J L M x0 H O;go_wp2_with fail;refine(dW p E X T N.out D.out).mono ?_;rw[Y.out];rintro e f ⟨rfl,rfl⟩;go_wp2_with fail;refine(gB p 512 E X T N.out U.out.1 U.out.2 D.out).mono ?_;rw[V.out];unfold j8 aa;simp only;rintro e w3 ⟨rfl,A⟩;have G:=Qh ((F.out.idle A).bel.alloc (F.out.idle A).bel.size (.cells #[.string (str h.name),.string (str h.link),.int .u8 (h.kind.toNat:Int),.int .i64 h.mode,.int .i64 h.uid,.int .i64 h.gid,.int .i64 h.time,.int .i64 h.size,.bool h.fh] 66));clear A;go_wp2;go_ret2;exact⟨rfl,G.out⟩
end
section
variable {w0 w w':World} {K:RK} {a:Nat} {s:RS} {mb:Option Nat} {v:Value} {xs:List MP} {q:Option Addr} {n c:Nat}
theorem Aa (hr:Rd w0 w K a s mb v xs q n c) (X:List UInt8) (hX:(K.S.bs.drop a).take 512=X) (hl:a+512≤K.S.n) (hz:dy X=false) (h:ak) (hh:ba X=(h,0)) (lN:h.kind=120) (hN:Need w0):
 Calls Tryz.prog 44 #[.pointer (some ⟨K.r,0,none⟩)] w fun e w'=>∃E,e=.returned (.tuple #[.bool true,.int .i64 E])∧dB w0 K a (iY (K.S.bs.drop a) h s) (.returned (.int .i64 E)) w':=by
 obtain⟨t,hs⟩:=hr.src;have b:X.length=512:=by rw[←hX,Qg,Qe,hs.len];omega
 have y:=Qh hr;have x0:=hr.c0;have V:=nD w K.g a t K.S hs hr.off X hX hl;have Y:=Qh b;have z:=Qh hz;have m:=Qh hh;have d:=lM X;rw[hh]at d;obtain⟨H,A,I⟩:=d;have qc:=Qh (And.intro H (And.intro A I));have mE:=Qh hN;obtain⟨kn,D⟩:∃kn:Int,(h.kind.toNat:Int)=kn:=⟨_,rfl⟩
 obtain rfl:kn=120:=by rw[←D,lN];rfl
 have o:=Qh lN;clear lN;clear hr hs hl hX b hz hh H A I hN;have N:=Qh D;clear D
 go_enter Tryz.func44,Tryz.ntmps44
 go_wp2_with fail
 refine V.mono ?_;rintro e f ⟨p,L,t',rfl,O,Z,R,T,U⟩;have F:=Qh (y.out.fu U ⟨t',T⟩);have J:=Qh R;have l:=Qh (And.intro O Z);clear R T U V x0 O Z;go_wp2_with fail;refine(dW p L X f Y.out J.out).mono ?_;rw[z.out];rintro e w2 ⟨rfl,rfl⟩;go_wp2_with fail;refine(gB p 512 L X f Y.out l.out.1 l.out.2 J.out).mono ?_;rw[m.out];unfold j8 aa;simp only[N.out];rintro e w3 ⟨rfl,M⟩;have W:=(F.out.idle M).below ((Below.refl _ w3).alloc (Qk _) (.cells #[.string (str h.name),.string (str h.link),.int .u8 120,.int .i64 h.mode,.int .i64 h.uid,.int .i64 h.gid,.int .i64 h.time,.int .i64 h.size,.bool h.fh] 66));have A:=ao.new w3 66 #[.string (str h.name),.string (str h.link),.int .u8 120,.int .i64 h.mode,.int .i64 h.uid,.int .i64 h.gid,.int .i64 h.time,.int .i64 h.size,.bool h.fh];have d0:=A.cell 0;have d1:=A.cell 1;have d2:=A.cell 2;have d3:=A.cell 3;have d4:=A.cell 4;have d5:=A.cell 5;have d6:=A.cell 6;have d7:=A.cell 7;have d8:=A.cell 8;simp only[Qc,Qa,Qb]at d0 d1 d2 d3 d4 d5 d6 d7 d8;have G:=Qh W;clear M A W;go_wp2_with fail
 refine(show Calls _ _ #[.pointer (some ⟨K.r,0,none⟩),.agg #[.string (str h.name),.string (str h.link),.int .u8 120,.int .i64 h.mode,.int .i64 h.uid,.int .i64 h.gid,.int .i64 h.time,.int .i64 h.size,.bool h.fh]] _ (dB w0 K a (iY (K.S.bs.drop a) h s))from by
  have:=rD G.out h qc.out.1 (by rw[o.out];rfl) mE.out;unfold aa at this;rw[N.out]at this
  exact this).mono ?_
 intro e w4 B
 obtain⟨E,rfl⟩:∃E,e=.returned (.int .i64 E):=by
  revert B
  cases iY (K.S.bs.drop a) h s with
  |fault er=>exact fun B=>⟨er,B.1⟩
  |done=>exact fun B=>B.elim
  |next k s'=>exact fun B=>⟨0,B.1⟩
 have u:=Qh B;clear B;go_wp2;go_ret2;exact⟨E,rfl,u.out⟩
theorem zZ (hr:Rd w0 w K a s mb v xs q n c) (X:List UInt8) (hX:(K.S.bs.drop a).take 512=X) (hl:a+512≤K.S.n) (hz:dy X=false) (h:ak) (hh:ba X=(h,0)) (lN:h.kind=103) (hN:Need w0):
 Calls Tryz.prog 44 #[.pointer (some ⟨K.r,0,none⟩)] w fun e w'=>∃E,e=.returned (.tuple #[.bool true,.int .i64 E])∧dB w0 K a (iY (K.S.bs.drop a) h s) (.returned (.int .i64 E)) w':=by
 obtain⟨t,hs⟩:=hr.src;have b:X.length=512:=by rw[←hX,Qg,Qe,hs.len];omega
 have y:=Qh hr;have x0:=hr.c0;have V:=nD w K.g a t K.S hs hr.off X hX hl;have Y:=Qh b;have z:=Qh hz;have m:=Qh hh;have d:=lM X;rw[hh]at d;obtain⟨H,A,I⟩:=d;have qc:=Qh (And.intro H (And.intro A I));have mE:=Qh hN;obtain⟨kn,D⟩:∃kn:Int,(h.kind.toNat:Int)=kn:=⟨_,rfl⟩
 obtain rfl:kn=103:=by rw[←D,lN];rfl
 have o:=Qh lN;clear lN;clear hr hs hl hX b hz hh H A I hN;have N:=Qh D;clear D
 go_enter Tryz.func44,Tryz.ntmps44
 go_wp2_with fail
 refine V.mono ?_;rintro e f ⟨p,L,t',rfl,O,Z,R,T,U⟩;have F:=Qh (y.out.fu U ⟨t',T⟩);have J:=Qh R;have l:=Qh (And.intro O Z);clear R T U V x0 O Z;go_wp2_with fail;refine(dW p L X f Y.out J.out).mono ?_;rw[z.out];rintro e w2 ⟨rfl,rfl⟩;go_wp2_with fail;refine(gB p 512 L X f Y.out l.out.1 l.out.2 J.out).mono ?_;rw[m.out];unfold j8 aa;simp only[N.out];rintro e w3 ⟨rfl,M⟩;have W:=(F.out.idle M).below ((Below.refl _ w3).alloc (Qk _) (.cells #[.string (str h.name),.string (str h.link),.int .u8 103,.int .i64 h.mode,.int .i64 h.uid,.int .i64 h.gid,.int .i64 h.time,.int .i64 h.size,.bool h.fh] 66));have A:=ao.new w3 66 #[.string (str h.name),.string (str h.link),.int .u8 103,.int .i64 h.mode,.int .i64 h.uid,.int .i64 h.gid,.int .i64 h.time,.int .i64 h.size,.bool h.fh];have d0:=A.cell 0;have d1:=A.cell 1;have d2:=A.cell 2;have d3:=A.cell 3;have d4:=A.cell 4;have d5:=A.cell 5;have d6:=A.cell 6;have d7:=A.cell 7;have d8:=A.cell 8;simp only[Qc,Qa,Qb]at d0 d1 d2 d3 d4 d5 d6 d7 d8;have G:=Qh W;clear M A W;go_wp2_with fail
 refine(show Calls _ _ #[.pointer (some ⟨K.r,0,none⟩),.agg #[.string (str h.name),.string (str h.link),.int .u8 103,.int .i64 h.mode,.int .i64 h.uid,.int .i64 h.gid,.int .i64 h.time,.int .i64 h.size,.bool h.fh]] _ (dB w0 K a (iY (K.S.bs.drop a) h s))from by
  have:=rD G.out h qc.out.1 (by rw[o.out];rfl) mE.out;unfold aa at this;rw[N.out]at this
  exact this).mono ?_
 intro e w4 B
 obtain⟨E,rfl⟩:∃E,e=.returned (.int .i64 E):=by
  revert B
  cases iY (K.S.bs.drop a) h s with
  |fault er=>exact fun B=>⟨er,B.1⟩
  |done=>exact fun B=>B.elim
  |next k s'=>exact fun B=>⟨0,B.1⟩
 have u:=Qh B;clear B;go_wp2;go_ret2;exact⟨E,rfl,u.out⟩
theorem De (hr:Rd w0 w K a s mb v xs q n c) (X:List UInt8) (hX:(K.S.bs.drop a).take 512=X) (hl:a+512≤K.S.n) (hz:dy X=false) (h:ak) (hh:ba X=(h,0)) (lN:h.kind=76) (hN:Need w0):
 Calls Tryz.prog 44 #[.pointer (some ⟨K.r,0,none⟩)] w fun e w'=>∃E,e=.returned (.tuple #[.bool true,.int .i64 E])∧dB w0 K a (iY (K.S.bs.drop a) h s) (.returned (.int .i64 E)) w':=by
 obtain⟨t,hs⟩:=hr.src;have b:X.length=512:=by rw[←hX,Qg,Qe,hs.len];omega
 have y:=Qh hr;have x0:=hr.c0;have V:=nD w K.g a t K.S hs hr.off X hX hl;have Y:=Qh b;have z:=Qh hz;have m:=Qh hh;have d:=lM X;rw[hh]at d;obtain⟨H,A,I⟩:=d;have qc:=Qh (And.intro H (And.intro A I));have mE:=Qh hN;obtain⟨kn,D⟩:∃kn:Int,(h.kind.toNat:Int)=kn:=⟨_,rfl⟩
 obtain rfl:kn=76:=by rw[←D,lN];rfl
 have o:=Qh lN;clear lN;clear hr hs hl hX b hz hh H A I hN;have N:=Qh D;clear D
 go_enter Tryz.func44,Tryz.ntmps44
 go_wp2_with fail
 refine V.mono ?_;rintro e f ⟨p,L,t',rfl,O,Z,R,T,U⟩;have F:=Qh (y.out.fu U ⟨t',T⟩);have J:=Qh R;have l:=Qh (And.intro O Z);clear R T U V x0 O Z;go_wp2_with fail;refine(dW p L X f Y.out J.out).mono ?_;rw[z.out];rintro e w2 ⟨rfl,rfl⟩;go_wp2_with fail;refine(gB p 512 L X f Y.out l.out.1 l.out.2 J.out).mono ?_;rw[m.out];unfold j8 aa;simp only[N.out];rintro e w3 ⟨rfl,M⟩;have W:=(F.out.idle M).below ((Below.refl _ w3).alloc (Qk _) (.cells #[.string (str h.name),.string (str h.link),.int .u8 76,.int .i64 h.mode,.int .i64 h.uid,.int .i64 h.gid,.int .i64 h.time,.int .i64 h.size,.bool h.fh] 66));have A:=ao.new w3 66 #[.string (str h.name),.string (str h.link),.int .u8 76,.int .i64 h.mode,.int .i64 h.uid,.int .i64 h.gid,.int .i64 h.time,.int .i64 h.size,.bool h.fh];have d0:=A.cell 0;have d1:=A.cell 1;have d2:=A.cell 2;have d3:=A.cell 3;have d4:=A.cell 4;have d5:=A.cell 5;have d6:=A.cell 6;have d7:=A.cell 7;have d8:=A.cell 8;simp only[Qc,Qa,Qb]at d0 d1 d2 d3 d4 d5 d6 d7 d8;have G:=Qh W;clear M A W;go_wp2_with fail
 refine(show Calls _ _ #[.pointer (some ⟨K.r,0,none⟩),.agg #[.string (str h.name),.string (str h.link),.int .u8 76,.int .i64 h.mode,.int .i64 h.uid,.int .i64 h.gid,.int .i64 h.time,.int .i64 h.size,.bool h.fh]] _ (dB w0 K a (iY (K.S.bs.drop a) h s))from by
  have:=rD G.out h qc.out.1 (by rw[o.out];rfl) mE.out;unfold aa at this;rw[N.out]at this
  exact this).mono ?_
 intro e w4 B
 obtain⟨E,rfl⟩:∃E,e=.returned (.int .i64 E):=by
  revert B
  cases iY (K.S.bs.drop a) h s with
  |fault er=>exact fun B=>⟨er,B.1⟩
  |done=>exact fun B=>B.elim
  |next k s'=>exact fun B=>⟨0,B.1⟩
 have u:=Qh B;clear B;go_wp2;go_ret2;exact⟨E,rfl,u.out⟩
theorem Dd (hr:Rd w0 w K a s mb v xs q n c) (X:List UInt8) (hX:(K.S.bs.drop a).take 512=X) (hl:a+512≤K.S.n) (hz:dy X=false) (h:ak) (hh:ba X=(h,0)) (lN:h.kind=75) (hN:Need w0):
 Calls Tryz.prog 44 #[.pointer (some ⟨K.r,0,none⟩)] w fun e w'=>∃E,e=.returned (.tuple #[.bool true,.int .i64 E])∧dB w0 K a (iY (K.S.bs.drop a) h s) (.returned (.int .i64 E)) w':=by
 obtain⟨t,hs⟩:=hr.src;have b:X.length=512:=by rw[←hX,Qg,Qe,hs.len];omega
 have y:=Qh hr;have x0:=hr.c0;have V:=nD w K.g a t K.S hs hr.off X hX hl;have Y:=Qh b;have z:=Qh hz;have m:=Qh hh;have d:=lM X;rw[hh]at d;obtain⟨H,A,I⟩:=d;have qc:=Qh (And.intro H (And.intro A I));have mE:=Qh hN;obtain⟨kn,D⟩:∃kn:Int,(h.kind.toNat:Int)=kn:=⟨_,rfl⟩
 obtain rfl:kn=75:=by rw[←D,lN];rfl
 have o:=Qh lN;clear lN;clear hr hs hl hX b hz hh H A I hN;have N:=Qh D;clear D
 go_enter Tryz.func44,Tryz.ntmps44
 go_wp2_with fail
 refine V.mono ?_;rintro e f ⟨p,L,t',rfl,O,Z,R,T,U⟩;have F:=Qh (y.out.fu U ⟨t',T⟩);have J:=Qh R;have l:=Qh (And.intro O Z);clear R T U V x0 O Z;go_wp2_with fail;refine(dW p L X f Y.out J.out).mono ?_;rw[z.out];rintro e w2 ⟨rfl,rfl⟩;go_wp2_with fail;refine(gB p 512 L X f Y.out l.out.1 l.out.2 J.out).mono ?_;rw[m.out];unfold j8 aa;simp only[N.out];rintro e w3 ⟨rfl,M⟩;have W:=(F.out.idle M).below ((Below.refl _ w3).alloc (Qk _) (.cells #[.string (str h.name),.string (str h.link),.int .u8 75,.int .i64 h.mode,.int .i64 h.uid,.int .i64 h.gid,.int .i64 h.time,.int .i64 h.size,.bool h.fh] 66));have A:=ao.new w3 66 #[.string (str h.name),.string (str h.link),.int .u8 75,.int .i64 h.mode,.int .i64 h.uid,.int .i64 h.gid,.int .i64 h.time,.int .i64 h.size,.bool h.fh];have d0:=A.cell 0;have d1:=A.cell 1;have d2:=A.cell 2;have d3:=A.cell 3;have d4:=A.cell 4;have d5:=A.cell 5;have d6:=A.cell 6;have d7:=A.cell 7;have d8:=A.cell 8;simp only[Qc,Qa,Qb]at d0 d1 d2 d3 d4 d5 d6 d7 d8;have G:=Qh W;clear M A W;go_wp2_with fail
 refine(show Calls _ _ #[.pointer (some ⟨K.r,0,none⟩),.agg #[.string (str h.name),.string (str h.link),.int .u8 75,.int .i64 h.mode,.int .i64 h.uid,.int .i64 h.gid,.int .i64 h.time,.int .i64 h.size,.bool h.fh]] _ (dB w0 K a (iY (K.S.bs.drop a) h s))from by
  have:=rD G.out h qc.out.1 (by rw[o.out];rfl) mE.out;unfold aa at this;rw[N.out]at this
  exact this).mono ?_
 intro e w4 B
 obtain⟨E,rfl⟩:∃E,e=.returned (.int .i64 E):=by
  revert B
  cases iY (K.S.bs.drop a) h s with
  |fault er=>exact fun B=>⟨er,B.1⟩
  |done=>exact fun B=>B.elim
  |next k s'=>exact fun B=>⟨0,B.1⟩
 have u:=Qh B;clear B;go_wp2;go_ret2;exact⟨E,rfl,u.out⟩
theorem La (hr:Rd w0 w K a s mb v xs q n c) (X:List UInt8) (hX:(K.S.bs.drop a).take 512=X) (hl:a+512≤K.S.n) (hz:dy X=false) (h:ak) (hh:ba X=(h,0)) (lN:oH h.kind=false) (hN:Need w0):
 Calls Tryz.prog 44 #[.pointer (some ⟨K.r,0,none⟩)] w fun e w'=>∃E,e=.returned (.tuple #[.bool true,.int .i64 E])∧dB w0 K a (oP (K.S.bs.drop a) h s) (.returned (.int .i64 E)) w':=by
 obtain⟨t,hs⟩:=hr.src;have f:X.length=512:=by rw[←hX,Qg,Qe,hs.len];omega
 have HR:=Qh hr;have x0:=hr.c0;have Y:=nD w K.g a t K.S hs hr.off X hX hl;have b:=Qh f;have HZ:=Qh hz;have y:=Qh hh;have l:=lM X;rw[hh]at l;obtain⟨I,A,J⟩:=l;have H:=Qh (And.intro I (And.intro A J));have mE:=Qh hN;obtain⟨kn,D⟩:∃kn:Int,(h.kind.toNat:Int)=kn:=⟨_,rfl⟩
 have O:(kn==120)=false∧(kn==103)=false∧(kn==76)=false∧(kn==75)=false:=by
  have hu:=fun m hm=>jq h.kind m hm
  unfold oH at lN;simp only[Bool.or_eq_false_iff,beq_eq_false_iff_ne]at lN;obtain⟨⟨⟨k1,k2⟩,k3⟩,k4⟩:=lN;simp only[beq_eq_false_iff_ne];exact⟨fun e=>k1 ((hu 120 (by decide)).1 (D.trans e)),fun e=>k2 ((hu 103 (by decide)).1 (D.trans e)),fun e=>k3 ((hu 76 (by decide)).1 (D.trans e)),fun e=>k4 ((hu 75 (by decide)).1 (D.trans e))⟩
 obtain⟨e1,e2,e3,O⟩:=O;clear lN;clear hr hs hl hX f hz hh I A J hN;have R:=Qh D;clear D
 go_enter Tryz.func44,Tryz.ntmps44
 go_wp2_with fail
 refine Y.mono ?_;rintro e o ⟨p,M,t',rfl,T,d,U,V,W⟩;have F:=Qh (HR.out.fu W ⟨t',V⟩);have L:=Qh U;have u:=Qh (And.intro T d);clear U V W Y x0 T d;go_wp2_with fail;refine(dW p M X o b.out L.out).mono ?_;rw[HZ.out];rintro e w2 ⟨rfl,rfl⟩;go_wp2_with fail;refine(gB p 512 M X o b.out u.out.1 u.out.2 L.out).mono ?_;rw[y.out];unfold j8 aa;simp only[R.out];rintro e w3 ⟨rfl,N⟩;have Z:=(F.out.idle N).below ((Below.refl _ w3).alloc (Qk _) (.cells #[.string (str h.name),.string (str h.link),.int .u8 kn,.int .i64 h.mode,.int .i64 h.uid,.int .i64 h.gid,.int .i64 h.time,.int .i64 h.size,.bool h.fh] 66));have A:=ao.new w3 66 #[.string (str h.name),.string (str h.link),.int .u8 kn,.int .i64 h.mode,.int .i64 h.uid,.int .i64 h.gid,.int .i64 h.time,.int .i64 h.size,.bool h.fh];have d0:=A.cell 0;have d1:=A.cell 1;have d2:=A.cell 2;have d3:=A.cell 3;have d4:=A.cell 4;have d5:=A.cell 5;have d6:=A.cell 6;have d7:=A.cell 7;have d8:=A.cell 8;simp only[Qc,Qa,Qb]at d0 d1 d2 d3 d4 d5 d6 d7 d8;have G:=Qh Z;clear N A Z;go_wp2_with fail
 refine(show Calls _ _ #[.pointer (some ⟨K.r,0,none⟩),.agg #[.string (str h.name),.string (str h.link),.int .u8 kn,.int .i64 h.mode,.int .i64 h.uid,.int .i64 h.gid,.int .i64 h.time,.int .i64 h.size,.bool h.fh]] _ (dB w0 K a (oP (K.S.bs.drop a) h s))from by
  have:=rB G.out h mE.out H.out.1 (by have:=H.out.2.1;omega) (by have:=H.out.2.2;omega);unfold aa at this;rw[R.out]at this
  exact this).mono ?_
 intro e w4 B
 obtain⟨E,rfl⟩:∃E,e=.returned (.int .i64 E):=by
  revert B
  cases oP (K.S.bs.drop a) h s with
  |fault er=>exact fun B=>⟨er,B.1⟩
  |done=>exact fun B=>B.elim
  |next k s'=>exact fun B=>⟨0,B.1⟩
 have z:=Qh B;clear B;go_wp2;go_ret2;exact⟨E,rfl,z.out⟩
theorem E0 {st:Step} (hd:st≠.done) (h:Calls Tryz.prog 44 #[.pointer (some ⟨K.r,0,none⟩)] w fun e w'=>∃E,e=.returned (.tuple #[.bool true,.int .i64 E])∧dB w0 K a st (.returned (.int .i64 E)) w'):
 Calls Tryz.prog 44 #[.pointer (some ⟨K.r,0,none⟩)] w (yJ w0 K a s mb v xs q n c st):=by
 refine h.mono ?_;rintro e w' ⟨E,rfl,B⟩
 cases st with
 |fault er=>
  obtain⟨h1,A⟩:=B;simp only[Ending.returned.injEq,Value.int.injEq,true_and]at h1;subst h1;exact⟨⟨true,rfl⟩,A⟩
 |done=>exact absurd rfl hd
 |next k D=>
  obtain⟨h1,A⟩:=B;simp only[Ending.returned.injEq,Value.int.injEq,true_and]at h1;subst h1;exact⟨rfl,A⟩
theorem Gt (l:List UInt8) (h:ak) (s:RS):iY l h s≠.done:=by
 unfold iY;split
 ·exact fun h=>by cases h
 ·split
  ·exact fun h=>by cases h
  ·split
   ·exact fun h=>by cases h
   ·split
    ·exact fun h=>by cases h
    ·split
     ·exact fun h=>by cases h
     ·split
      ·exact fun h=>by cases h
      ·split<;>exact fun h=>by cases h
theorem Hm (l:List UInt8) (h:ak) (s:RS):oP l h s≠.done:=by
 unfold oP;split
 ·exact fun h=>by cases h
 ·split
  ·exact fun h=>by cases h
  ·split
   ·exact fun h=>by cases h
   ·split<;>exact fun h=>by cases h
theorem Lb (hr:Rd w0 w K a s mb v xs q n c) (hN:Need w0):
 Calls Tryz.prog 44 #[.pointer (some ⟨K.r,0,none⟩)] w (yJ w0 K a s mb v xs q n c (dM (K.S.bs.drop a) s)):=by
 obtain⟨t,hs⟩:=hr.src;have hlen:=hs.len;have hle:=hs.le;have J:(K.S.bs.drop a).length=K.S.n - a:=by rw[Qe,hlen]
 unfold dM
 by_cases h1:(K.S.bs.drop a).length<512
 ·rw[if_pos h1]
  exact(Df hr (by omega)).mono fun e w' h=>⟨⟨false,h.1⟩,h.2⟩
 ·rw[if_neg h1]
  have hl:a+512≤K.S.n:=by omega
  obtain⟨X,E⟩:∃X,(K.S.bs.drop a).take 512=X:=⟨_,rfl⟩
  rw[E]
  by_cases H:dy X=true
  ·rw[if_pos H]
   refine(Lc hr X E hl H).mono ?_;rintro e w' ⟨rfl,a',I⟩;unfold B9;rw[List.drop_drop,J,Nat.sub_sub,show(K.S.bs.drop (a+512)).length=K.S.n - (a+512) by rw[Qe,hlen]]
   by_cases B:K.S.n - (a+512)<512
   ·rw[if_pos B,if_pos B]
    exact⟨⟨false,rfl⟩,I.bel⟩
   ·rw[if_neg B,if_neg B]
    by_cases A:dy (K.S.bs.drop (a+512))=false
    ·rw[if_pos A,if_pos A]
     exact⟨⟨false,rfl⟩,I.bel⟩
    ·rw[if_neg A,if_neg A]
     by_cases D:s.eC=true∨s.name.isSome=true∨s.link.isSome=true
     ·rw[if_pos D,if_pos D]
      exact⟨⟨false,rfl⟩,I.bel⟩
     ·rw[if_neg D,if_neg D]
      exact⟨rfl,a',I⟩
  ·rw[if_neg H]
   have G:dy X=false:=by simpa using H
   by_cases B:(ba X).2≠0
   ·rw[if_pos B]
    exact(Ab hr X E hl G B).mono fun e w' h=>⟨⟨false,h.1⟩,h.2⟩
   ·rw[if_neg B]
    have A:ba X=((ba X).1,0):=Prod.ext rfl (Classical.byContradiction B)
    by_cases D:oH (ba X).1.kind=true
    ·rw[if_pos D]
     refine E0 (Gt _ _ _) ?_;have h6:=D;unfold oH at h6;simp only[Bool.or_eq_true,beq_iff_eq]at h6;rcases h6 with((h6|h6)|h6)|h6
     ·exact Aa hr X E hl G _ A h6 hN
     ·exact zZ hr X E hl G _ A h6 hN
     ·exact De hr X E hl G _ A h6 hN
     ·exact Dd hr X E hl G _ A h6 hN
    ·rw[if_neg D]
     exact E0 (Hm _ _ _) (La hr X E hl G _ A (by simpa using D) hN)
end
end Mem
namespace Mem
theorem DX (q:Option Addr) (n c:Nat):bY gH q n c=fun _=>none:=by
 funext k
 unfold bY gH;simp
def S9 (w:World) (bs:List UInt8) (e:Ending) (w':World):Prop:=
 ∃K:RK,e=.returned (.pointer (some ⟨K.r,0,none⟩))∧K.S.bs=bs∧Rd w w' K 0 gH none (.slice none 0 0) [] none 0 0
theorem Hs {w w1:World} {g:Nat} {S:Sv} (hg:w.heap.size≤g) (ho:S.off g) (hs:Block.Src w1 g S 0 0) (hk:Kept ag w w1):
 Rd w (((w1.alloc (.cells #[.map none] 128)).alloc (.map #[] 0)).alloc (.cells #[.pointer (some ⟨g,0,none⟩),.pointer (some ⟨w1.heap.size,0,none⟩),.map (some (w1.heap.size+1)),.slice none 0 0] 91))
  ⟨w1.heap.size+1+1,g,w1.heap.size,w1.heap.size+1,S⟩ 0 gH none (.slice none 0 0) [] none 0 0:=by
 have O:=hs.lt
 have I:Kept ag w1 (((w1.alloc (.cells #[.map none] 128)).alloc (.map #[] 0)).alloc (.cells #[.pointer (some ⟨g,0,none⟩),.pointer (some ⟨w1.heap.size,0,none⟩),.map (some (w1.heap.size+1)),.slice none 0 0] 91)):=
  (((Kept.refl ag w1).alloc _).alloc _).alloc _
 have E:=hk.size
 have M:∀y,y<w1.heap.size→¬Ot ⟨w1.heap.size+1+1,g,w1.heap.size,w1.heap.size+1,S⟩ none (.slice none 0 0) y:=fun y hy e=>by
  rcases e with e|e|e|e|e
  ·have e:y=w1.heap.size+1+1:=e;omega
  ·have e:y=w1.heap.size:=e;omega
  ·have e:y=w1.heap.size+1:=e;omega
  ·cases e
  ·cases e
 have N:=(St.new w1).kept (((Kept.refl ag (w1.alloc (.cells #[.map none] 128))).alloc (.map #[] 0)).alloc (.cells #[.pointer (some ⟨g,0,none⟩),.pointer (some ⟨w1.heap.size,0,none⟩),.map (some (w1.heap.size+1)),.slice none 0 0] 91)) (fun _ _=>id);have J:=(iR MD (w1.alloc (.cells #[.map none] 128))).kept ((Kept.refl ag _).alloc (.cells #[.pointer (some ⟨g,0,none⟩),.pointer (some ⟨w1.heap.size,0,none⟩),.map (some (w1.heap.size+1)),.slice none 0 0] 91)) id;have L:=ao.new ((w1.alloc (.cells #[.map none] 128)).alloc (.map #[] 0)) 91 #[.pointer (some ⟨g,0,none⟩),.pointer (some ⟨w1.heap.size,0,none⟩),.map (some (w1.heap.size+1)),.slice none 0 0];simp only[World.size_alloc]at J L
 exact {
  bel:=(hk.trans I).below (Qk _) (fun _ h=>h.elim)
  ei:=L
  src:=⟨0,hs.cJ I⟩
  off:=ho
  st:=N
  map:=by rw[DX];exact J
  own:=⟨rfl,fun h=>by omega⟩
  oV:=fun _=>rfl
  row:=⟨rfl,.inl ⟨rfl,rfl⟩⟩
  out:=rfl
  bodies:=fun x H=>by simp at H
  apart:=fun x H=>by simp at H
  sp:=fun A y hy=>M _ (ku hs.gZ A hy)
  sq:=fun A y hy=>M _ (xN hs.NJ A hy)
  ne:=⟨by show w1.heap.size+1+1≠g;omega,by show w1.heap.size+1+1≠w1.heap.size;omega,by show w1.heap.size+1+1≠w1.heap.size+1;omega,by show g≠w1.heap.size;omega,by show g≠w1.heap.size+1;omega,by show w1.heap.size≠w1.heap.size+1;omega⟩
  uN:=fun b B=>by cases B
  rM:=fun b B=>by cases B
  base:=⟨by show w.heap.size≤w1.heap.size+1+1;omega,hg,E,by show w.heap.size≤w1.heap.size+1;omega⟩
  many:=by show 0≤4096;omega
  gl:=(fun r D=>by cases D)
  ol:=⟨(fun r D=>by cases D),by show 0≤1048576;omega⟩
  nl:=fun t G=>by cases G
  ll:=fun t G=>by cases G}
theorem uO (w:World) (p:Option Addr) (n c:Nat) (bs:List UInt8) (q:Option Addr) (m d:Nat) (zs:List Int) (hb:cB w p n bs) (hl:bs.length=n) (hn:n≤140737488351232) (hq:Fx w q m zs) (hz:zs.length=m) (hm:m*8≤140737488351232):
 Calls Tryz.prog 42 #[.slice p n c,.slice q m d] w (S9 w bs):=by
 have H:=NW w p n c bs q m d zs hb hl hn hq hz hm;have N:=@run_makeMap Tryz.prog;clear hb hl hn hq hz hm
 go_enter Tryz.func42,Tryz.ntmps42
 go_wp2_with fail
 refine H.mono ?_;rintro e A ⟨g,S,rfl,h1,B,I,J,D,L,M,E,G⟩;have F:=Qh (And.intro B (Hs h1 D E G));clear h1 B I J D L M E G H;go_wp2;go_ret;exact⟨⟨A.heap.size+1+1,g,A.heap.size,A.heap.size+1,S⟩,rfl,F.out.1,F.out.2⟩
end Mem
namespace Mem
open Path Go.Shelf
theorem wI {fn:Func} (hf:fn.results=#[.tmp 4,.cell 5 32]) (tmps:Array Value) (w:World) (g:Nat) (v:Value) (ht:tmps.getD 5 undef=.pointer (some ⟨g,0,none⟩)) (hv:tmps.getD 4 undef=v)
 (a b:Int) (hb:ao w g 32 #[.int .i64 a,.int .i64 b]):(results fn tmps).run Tryz.prog w=.ok (.tuple #[v,.agg #[.int .i64 a,.int .i64 b]]) w:=by
 have c0:=hb.cell 0;have c1:=hb.cell 1;simp only[Qc,Qa,Qb]at c0 c1;have hl:(loadVar 32 ⟨g,0,none⟩).run Tryz.prog w=.ok (.agg #[.int .i64 a,.int .i64 b]) w:=by go_simp
 have B:tmps[5]?.getD undef=.pointer (some ⟨g,0,none⟩):=by simpa using ht
 have A:tmps[4]?.getD undef=v:=by simpa using hv
 simp only[results,hf];simp[Result.andThen,B,A,asAddr,hl]
theorem yV {w:World} {p:Option Addr} {n:Nat} {bs:List UInt8} {b:Nat} {t:TypeId} {cs:Array Value} (h:cB w p n bs) (hb:ao w b t cs) (hs:∀(i:Nat) (x:Int),cs[i]? ≠some (.int .u8 x)) (h0:0<n) {y:Addr} (hy:p=some y):y.block≠b:=by
 obtain⟨A,o,rfl,_,hc⟩:=h.cell h0
 cases hy
 rintro rfl;have c0:=hc 0 h0;rw[hb.cell]at c0;exact hs _ _ c0
def OJ (w:World) (bs:List UInt8) (e:Ending) (w':World):Prop:=
 ∃(p:Option Addr) (c:Nat) (xs:List MP),e=.returned (.tuple #[.slice p xs.length c,.agg #[.int .i64 (cK bs).2.1,.int .i64 ((cK bs).2.2:Nat)]])∧xs.length≤c∧c≤maxLen∧xs.map MP.m=(cK bs).1∧dr w' p xs.length xs∧Below w.heap.size w w'
theorem zV (w:World) (p:Option Addr) (n c:Nat) (bs:List UInt8) (q:Option Addr) (m d:Nat) (zs:List Int) (hb:cB w p n bs) (hl:bs.length=n) (hn:n≤140737488351232) (hq:Fx w q m zs) (hz:zs.length=m) (hm:m*8≤140737488351232) (hN:Need w):
 Calls Tryz.prog 18 #[.slice p n c,.slice q m d] w (OJ w bs):=by
 obtain⟨W1,U⟩:∃W1,w.alloc (.cells #[.int .i64 0,.int .i64 0] 32)=W1:=⟨_,rfl⟩
 have I:Below w.heap.size w W1:=by rw[←U];exact(Below.refl _ w).alloc (Qk _) _
 have pG:ao W1 w.heap.size 32 #[.int .i64 0,.int .i64 0]:=by rw[←U];exact ao.new w _ _
 have ZB:=uO W1 p n c bs q m d zs (hb.below I) hl hn (hq.kept (Kept.aS I ag) (fun _ _ _=>id)) hz hm;have O:=Qh I;have H:=Qh pG;have mE:=Qh (hN.below I);have yy:=Qh hl;clear hb hl hn hq hz hm hN I pG
 go_enter Tryz.func18,Tryz.ntmps18
 go_upto_region 1 with fail
 clear U;go_wp2_with fail;refine ZB.mono ?_;rintro e w2 ⟨K,rfl,Kg,B⟩;have VV:=Qh Kg;have HR:=Qh B;clear Kg B ZB;go_wp2_with fail
 go_loopg [7,8,9] bs.length (fun g s7 s8 s9 wr=>Hid (∃(a:Nat) (s:RS) (mb:Option Nat) (v:Value) (xs:List MP) (q:Option Addr) (n c:Nat),Rd W1 wr K a s mb v xs q n c∧bH bs 0 gH=bH (bs.drop a) a s∧g=bs.length - a))
 case atStart=>exact Qh ⟨0,gH,none,.slice none 0 0,[],none,0,0,HR.out,by rw[List.drop_zero],rfl⟩
 case round=>
  obtain⟨a,s,mb,v,xs,q,n,c,B,J,rfl⟩:=hrel.out;obtain⟨t,hs⟩:=B.src;have hP:=pS wr K.g a t K.S hs;have N:=Lb B mE.out;rw[VV.out]at N;have x0:=B.c0;have yG:=Qh B;have T:=Qh J;obtain⟨st,l⟩:∃st,dM (bs.drop a) s=st:=⟨_,rfl⟩
  rw[l]at N;have L:=Qh l;have Z:=H.out.below B.bel H.out.lt;clear B J hs l hrel;go_wp2_with fail;refine hP.mono ?_;rintro e w3 ⟨rfl,rfl⟩;go_wp2_with fail;refine N.mono ?_;clear N hP Z;intro e R f
  cases st with
  |fault er=>
   obtain⟨⟨b,rfl⟩,V⟩:=f;have cV:=ua L.out;have Th:(er != 0)=true:=by simpa using cV
   have A:=H.out.below V H.out.lt;have r:=A.cell 0;have u:=A.cell 1;have f0:=A.frozen 0;have f1:=A.frozen 1;simp only[Qc,Qa,Qb]at r u;have M:=Qh A;have nW:=Qh V
   have E:Hid (cK bs=([],er,a)):=Qh (by
    show bH bs 0 gH=_
    rw[T.out,eH L.out])
   clear V cV A x0;go_wp2;refine bodyPost_ret (wI rfl _ _ w.heap.size _ rfl rfl er (a:Int) ((M.out.set 0 (.int .i64 er) (by decide:0<2)).set 1 (.int .i64 (a:Int)) (by decide:1<2))) rfl ?_;refine⟨none,0,[],?_,by simp,by decide,?_,tv _ _,?_⟩
   ·rw[E.out];rfl
   ·rw[E.out];rfl
   ·exact((O.out.trans (nW.out.mono O.out.size)).setCell (p:=⟨w.heap.size,0,none⟩) (Qk _) _).setCell (p:=⟨w.heap.size,1,none⟩) (Qk _) _
  |done=>
   obtain⟨rfl,a',G⟩:=f;have A:=H.out.below G.bel H.out.lt;have r:=A.cell 0;have u:=A.cell 1;have f0:=A.frozen 0;have f1:=A.frozen 1;simp only[Qc,Qa,Qb]at r u;have M:=Qh A;have x3:=G.c3;have D:=Qh G
   have E:Hid (cK bs=(s.out,0,0)):=Qh (by
    show bH bs 0 gH=_
    rw[T.out,gL L.out])
   clear G A x0;go_wp2
   have q7:Below w.heap.size w ((R.setCell ⟨w.heap.size,0,none⟩ (.int .i64 0)).setCell ⟨w.heap.size,1,none⟩ (.int .i64 0)):=
    ((O.out.trans (D.out.bel.mono O.out.size)).setCell (p:=⟨w.heap.size,0,none⟩) (Qk _) _).setCell (p:=⟨w.heap.size,1,none⟩) (Qk _) _
   refine bodyPost_ret (wI rfl _ _ w.heap.size _ rfl rfl 0 0 ((M.out.set 0 (.int .i64 0) (by decide:0<2)).set 1 (.int .i64 0) (by decide:1<2))) rfl ?_
   have ig:Kept (aA w.heap.size) R ((R.setCell ⟨w.heap.size,0,none⟩ (.int .i64 0)).setCell ⟨w.heap.size,1,none⟩ (.int .i64 0)):=
    ((Kept.refl (aA w.heap.size) R).setCell (a:=⟨w.heap.size,0,none⟩) (.inr rfl) _).setCell (a:=⟨w.heap.size,1,none⟩) (.inr rfl) _
   have CD:=H.out.lt
   obtain⟨p5,c5,rfl,W,X,Y⟩:=jg (bN D.out.row ig (fun k hk e=>by
    have h1:=(D.out.row.lt k hk).1;have h2:k=w.heap.size:=e
    omega)) (fun x hx=>(D.out.bodies x hx).kept ig (fun h0 y hy e=>yV (D.out.bodies x hx).gZ M.out (fun i z hz=>by rcases i with _|_|i<;>simp at hz) h0 hy e))
   refine⟨p5,c5,xs,?_,W,X,?_,Y,q7⟩
   ·rw[E.out];rfl
   ·rw[E.out];exact D.out.out
  |next k s'=>
   obtain⟨rfl,o,v',xs',q',n',c',G⟩:=f;have D:=Qh G;have qz:=ko L.out
   have E:Hid (bH bs 0 gH=bH (bs.drop (a+k)) (a+k) s'):=Qh (by
    rw[T.out,fb L.out,List.drop_drop])
   have S4:=Qh qz;clear G qz x0;go_wp2
   go_roundg (bs.length - (a+k))
   case measure=>have:=S4.out;rw[Qe]at this;omega
   case rel=>exact Qh ⟨a+k,s',o,v',xs',q',n',c',D.out,E.out,rfl⟩
end Mem
end Go.Proofs.YtdhibldkldlfpaaGreatDoor
