/- Merged. -/
import Derived.Test.YtdhibldkldlfpaaGreatDoorEmitUnpacksX35
namespace Go.Proofs.YtdhibldkldlfpaaGreatDoor
set_option linter.unusedSectionVars false
set_option linter.unusedVariables false
set_option maxHeartbeats 16000000
set_option maxRecDepth 1000000
open Go.ChangeShapes Go.WideShapes Go.ChangeAt Go.RowKit Base cb iK Bk Hp Rec Go.Lib
variable {bs:List UInt8} {N a g m:Nat} {p q:Option Addr} {w wa wr:World}
namespace Mem
open Mk Block Head Attr Path Go.Shelf
section
variable {w0 w w':World} {K:RK} {a:Nat} {s:RS} {mb:Option Nat} {v:Value} {xs:List MP} {q:Option Addr} {n c:Nat}
theorem Rd.fresh (h:Rd w0 w K a s mb v xs q n c) {b:Nat} (hb:w.heap.size≤b):¬Ot K mb v b∧b≠K.g:=by
 obtain⟨t,hs⟩:=h.src;have h1:=h.pE.lt;have A:=hs.lt;have B:=h.st.lt;have D:=h.map.lt;refine⟨fun e=>?_,by omega⟩;rcases e with e|e|e|e|e
 ·omega
 ·omega
 ·omega
 ·have:=h.st.j1 e;omega
 ·have:=(h.row.lt b e).2;omega
theorem Rd.XT {wo:World} {a0:Nat} (ho:Rd w0 wo K a0 s mb v xs q n c) (h:Rd w0 w K a s mb v xs q n c) (hk:Kept (fun k=>wo.heap.size≤k) w w'):Rd w0 w' K a s mb v xs q n c:=by
 obtain⟨t0,B⟩:=ho.src;obtain⟨t,hs⟩:=h.src;have I:=ho.pE.lt;have J:=B.lt;have L:=ho.st.lt;have M:=ho.map.lt;have G:=ho.bel.size
 exact {
  bel:=h.bel.trans (hk.below h.bel.size (fun k hk=>Nat.le_trans G hk))
  pE:=h.pE.iH hk (by omega)
  src:=⟨t,hs.kept hk (by omega) (fun A y hy e=>by have:=qP B.nB A hy;omega) (fun A y hy e=>by have:=GR B.Ym A hy;omega)⟩
  off:=h.off
  st:=h.st.kept hk (fun k ow e=>by
   rcases ow with rfl|ow
   ·omega
   ·have:=ho.st.j1 ow;omega)
  map:=h.map.kept hk (by omega)
  own:=jQ h.own hk (fun A y hy e=>by
   obtain⟨b',o,D,H,_⟩:=ho.own.2 A;rw[hy]at D
   cases D
   have e:wo.heap.size≤b':=e
   omega)
  yw:=h.yw
  row:=cg h.row hk (fun k ow e=>by have:=(ho.row.lt k ow).2;omega)
  out:=h.out
  bodies:=fun x E=>(h.bodies x E).kept hk (fun A y hy e=>by have:=qP (ho.bodies x E).nB A hy;omega)
  apart:=h.apart
  sp:=h.sp
  sq:=h.sq
  ne:=h.ne
  Eh:=h.Eh
  BD:=h.BD
  base:=h.base
  many:=h.many
  gl:=h.gl
  ol:=h.ol
  nl:=h.nl
  ll:=h.ll}
theorem P4 (hr:Rd w0 w K (a+512) s mb v xs q n c) (h:af) (hf:s.out.length<4096) (hk:oM h.kind=true) (hN:Need w0) (h0:0≤h.size) (h1:h.name.length≤1048576) (h2:h.link.length≤1048576) (ah:af) (KH:cC (aD s.bE) s.own (kR h s)=(ah,0)) (A7:(j6 ah).2=0) (k:Nat) (hsz:ah.size=(k:Int)) (nF:k≤1048576) (hl:K.S.n<a+512+lr k):
 Calls Tryz.prog 76 #[.pointer (some ⟨K.r,0,none⟩),.agg (aa h)] w fun e w'=>e=.returned (.int .i64 2)∧Below w0.heap.size w0 w':=by
 obtain⟨vp,vc,hv,_,_,_⟩:=oN hr.row hr.bodies;subst hv;have V:xs.length=s.out.length:=by have:=congrArg List.length hr.out;simpa using this
 obtain⟨W1,z⟩:∃W1,w.alloc (.cells (aa h) 66)=W1:=⟨_,rfl⟩
 have y:Below w.heap.size w W1:=by rw[←z];exact(Below.refl _ w).alloc (Qk _) _
 have xA:au W1 w.heap.size 66 (aa h):=by rw[←z];exact au.new w _ _
 have W:=hr.below y;have x3:=W.c3;have E:=Qh hr;have iA:=Qh y;have oX:=Qh xA;have SF:=Qh W;have Ix:=Qh V;clear hr y xA W;have Md:((xs.length:Int)==4096)=false:=by rw[V];simpa using (by omega:¬(s.out.length:Int)=4096)
 clear V;have k2:=oX.out.cell 2;simp only[aa,Qc,Qa,Qb]at k2;have cn:=qF h.kind W1;rw[hk]at cn;obtain⟨⟨oq,on,oc⟩,b⟩:∃x,Hg s q n c=x:=⟨_,rfl⟩
 have NY:Hid (∀wi,Rd w0 wi K (a+512) s mb (.slice vp xs.length vc) xs q n c→((wi.cell? ⟨K.r,1,none⟩=some (.pointer (some ⟨K.gs,0,none⟩))∧wi.cell? ⟨K.r,2,none⟩=some (.map (some K.mw)))∧(Instr.lookup 89 (.map (some K.mw)) (.int .u8 120) false).run Tryz.prog wi=.ok (.agg #[.string ⟨#[]⟩,.slice oq on oc]) wi)):=
  Qh (fun wi hi=>⟨⟨hi.c1,hi.c2⟩,BC hi.map b⟩)
 have Wv:Hid (∀wi,Rd w0 wi K (a+512) s mb (.slice vp xs.length vc) xs q n c→Calls Tryz.prog 112 #[.pointer (some ⟨K.gs,0,none⟩),.agg (aa (kR h s)),.slice oq on oc] wi fun e w'=>e=.returned (.tuple #[.agg (aa ah),.int .i64 0])∧Below wi.heap.size wi w'):=
  Qh (fun wi hi=>by have:=xP h hi b (kR h s);rw[KH]at this;exact this)
 have Xs:=Qh KH;clear b KH
 have sU:Hid (0≤ah.size∧ah.name.length≤1048576∧ah.link.length≤1048576):=Qh (by
  have:=xO h E.out h0 h1 h2;rw[Xs.out]at this
  exact this)
 have vy:=Qh hN;clear hN h0 h1 h2;obtain⟨⟨A,fe⟩,N⟩:∃x,j6 ah=x:=⟨_,rfl⟩
 have d:A.body=[]:=by have:=tt ah;rw[N]at this;exact this
 have Y:Hid (∀wi,Tabs wi→Calls Tryz.prog 80 #[.agg (aa ah)] wi fun e w'=>e=.returned (.tuple #[.agg #[.string (str A.path),.string (str A.target),.int .u8 (A.kind.toNat:Int),.int .i64 A.mode,.int .i64 A.uid,.int .i64 A.gid,.int .i64 A.time,.slice none 0 0],.int .i64 fe])∧Below wi.heap.size wi w'):=
  Qh (fun wi hT=>by
   obtain⟨_,b1,b2⟩:=sU.out;have:=qu ah wi (by omega) (by omega) hT;rw[N]at this;unfold jB at this;simp only[d,List.length_nil]at this
   exact this)
 have Zl:=Qh N;have HFB:=Qh d;clear N d;rw[Zl.out]at A7;simp only at A7;subst A7;have DV:=Qh hl;have sg:=Qh nF;have jo:=Qh hsz;clear hl nF hsz
 go_enter Tryz.func76,Tryz.ntmps76
 go_upto_region 1 with fail
 clear z;go_wp2_with fail;refine cn.mono ?_;rintro e w1 ⟨rfl,rfl⟩;go_upto_region 5 with fail;refine wp_region_any (by kernel_rfl) (rI (w:=w) (w1:=W1) K.r K.gs K.mw w.heap.size h (kR h s) oq on oc ah 0 (show 73≤73 from Qk 73) rfl rfl (Qk _) iA.out oX.out (fun wi L=>NY.out wi (E.out.below L)) (fun wi L=>rU h (E.out.below L)) (fun wi L=>Wv.out wi (E.out.below L)) ?_);intro W5 U KM;have AU:=Qh U;have M:=Qh KM;have KT:=Qh (E.out.below U);clear U KM k2 x3;simp only[Exit.then]
 apply_assumption
 have B:=M.out;have c0:=B.cell 0;have c1:=B.cell 1;have c2:=B.cell 2;have c3:=B.cell 3;have c4:=B.cell 4;have c5:=B.cell 5;have c6:=B.cell 6;have c7:=B.cell 7;have c8:=B.cell 8;simp only[aa,Qc,Qa,Qb]at c0 c1 c2 c3 c4 c5 c6 c7 c8;clear B;go_wp2_with fail;refine(Y.out _ (KT.out.CY vy.out).Hy).mono ?_;rintro e D ⟨rfl,T⟩;have o:=T.alloc T.size (.cells #[.string (str A.path),.string (str A.target),.int .u8 (A.kind.toNat:Int),.int .i64 A.mode,.int .i64 A.uid,.int .i64 A.gid,.int .i64 A.time,.slice none 0 0] 48);have Bv:=au.new D 48 #[.string (str A.path),.string (str A.target),.int .u8 (A.kind.toNat:Int),.int .i64 A.mode,.int .i64 A.uid,.int .i64 A.gid,.int .i64 A.time,.slice none 0 0];have OK:w.heap.size<D.heap.size:=Nat.lt_of_lt_of_le M.out.lt T.size;have f:=Qh (M.out.below o M.out.lt);have m:=Qh (KT.out.below o);have BR:=Qh Bv;have O:=Qh OK;clear T o Bv OK c0 c1 c2 c3 c4 c5 c6 c7 c8;obtain⟨W7,l⟩:∃W7,D.alloc (.cells #[.string (str A.path),.string (str A.target),.int .u8 (A.kind.toNat:Int),.int .i64 A.mode,.int .i64 A.uid,.int .i64 A.gid,.int .i64 A.time,.slice none 0 0] 48)=W7:=⟨_,rfl⟩
 rw[l]at f m BR;have Z:=Qh l;clear l;have x0:=m.out.c0;have z7:=f.out.cell 7;simp only[aa,Qc,Qa,Qb,jo.out]at z7;have R:=m.out.idle ((Kept.refl ag W7).drew);obtain⟨t,hs⟩:=R.src
 have ck:w.heap.size≠K.g∧D.heap.size≠K.g:=by
  obtain⟨t',vZ⟩:=E.out.src;have:=vZ.lt;have:=O.out;exact⟨by omega,by omega⟩
 have Iw:=Qh R;have vT:=Qh ck;have hB:=Ob W7.drew K.g (a+512) t K.S hs R.off k sg.out DV.out;clear hs R ck;go_upto_region 11 with fail;rw[Z.out]
 go_region_held_law (fun w'=>w'.cell? ⟨K.r,0,none⟩=some (.pointer (some ⟨K.g,0,none⟩))∧w'.cell? ⟨w.heap.size,7,none⟩=some (.int .i64 (k:Int))) (first|exact⟨x0,z7⟩|exact J|exact u)
  (first
   |(go_at_call 108
     refine hB.mono ?_;rintro e G ⟨t',rfl,h4,I⟩;have X:=Qh (Iw.out.nZ I ⟨t',h4⟩);have H:Hid (au G w.heap.size 66 (aa ah)):=Qh ((f.out.drew).iH I vT.out.1);have DM:Hid (au G D.heap.size 48 #[.string (str A.path),.string (str A.target),.int .u8 (A.kind.toNat:Int),.int .i64 A.mode,.int .i64 A.uid,.int .i64 A.gid,.int .i64 A.time,.slice none 0 0]):=Qh ((BR.out.drew).iH I vT.out.2);have Xg:=Qh I;have J:G.cell? ⟨K.r,0,none⟩=some (.pointer (some ⟨K.g,0,none⟩))∧G.cell? ⟨w.heap.size,7,none⟩=some (.int .i64 (k:Int)):=⟨X.out.c0,by have:=H.out.cell 7;simp only[aa,Qc,Qa,Qb,jo.out]at this;exact this⟩
     have u:(G.setCell ⟨D.heap.size,7,none⟩ (.slice none 0 0)).cell? ⟨K.r,0,none⟩=some (.pointer (some ⟨K.g,0,none⟩))∧(G.setCell ⟨D.heap.size,7,none⟩ (.slice none 0 0)).cell? ⟨w.heap.size,7,none⟩=some (.int .i64 (k:Int)):=
      ⟨(X.out.pE.other (b':=D.heap.size) (i:=7) (by have:=E.out.pE.lt;have:=O.out;omega) _).cell 0,by have:=(H.out.other (b':=D.heap.size) (i:=7) (by have:=O.out;omega) (.slice none 0 0)).cell 7;simp only[aa,Qc,Qa,Qb,jo.out]at this;exact this⟩
     have m7:=DM.out.cell 7;have fm7:=DM.out.frozen 7;simp only[Qc,Qa,Qb]at m7
     clear h4 I))
 clear hB J x0 z7;go_wp2;go_ret;exact⟨rfl,X.out.bel.setCell (p:=⟨D.heap.size,7,none⟩) (Nat.le_trans E.out.bel.size (Nat.le_of_lt O.out)) _⟩
theorem ac2 (hr:Rd w0 w K (a+512) s mb v xs q n c) (h:af) (hf:s.out.length<4096) (hk:oM h.kind=true) (hN:Need w0) (h0:0≤h.size) (h1:h.name.length≤1048576) (h2:h.link.length≤1048576) (ah:af) (KH:cC (aD s.bE) s.own (kR h s)=(ah,0)) (A7:(j6 ah).2=0) (k:Nat) (hsz:ah.size=(k:Int)) (nF:k≤1048576) (X:List UInt8) (hX:(K.S.bs.drop (a+512)).take k=X) (hl:a+512+lr k≤K.S.n):
 Calls Tryz.prog 76 #[.pointer (some ⟨K.r,0,none⟩),.agg (aa h)] w fun e w'=>e=.returned (.int .i64 0)∧Left w0 K (a+512+lr k) {s with out:=s.out++[{(j6 ah).1 with body:=X}],own:=[],name:=none,link:=none,iT:=false} w':=by
 have qh:Hid (X.length=k):=Qh (by
  obtain⟨t,hs⟩:=hr.src;have:=rQ k;have:=hs.len
  rw[←hX,Qg,Qe];omega)
 obtain⟨vp,Y,hv,_,_,_⟩:=oN hr.row hr.bodies;subst hv;have Bz:xs.length=s.out.length:=by have:=congrArg List.length hr.out;simpa using this
 obtain⟨W1,jK⟩:∃W1,w.alloc (.cells (aa h) 66)=W1:=⟨_,rfl⟩
 have iB:Below w.heap.size w W1:=by rw[←jK];exact(Below.refl _ w).alloc (Qk _) _
 have xA:au W1 w.heap.size 66 (aa h):=by rw[←jK];exact au.new w _ _
 have Cj:=hr.below iB;have x3:=Cj.c3;have I:=Qh hr;have iA:=Qh iB;have oX:=Qh xA;have SF:=Qh Cj;have Ix:=Qh Bz;clear hr iB xA Cj;have Md:((xs.length:Int)==4096)=false:=by rw[Bz];simpa using (by omega:¬(s.out.length:Int)=4096)
 clear Bz;have k2:=oX.out.cell 2;simp only[aa,Qc,Qa,Qb]at k2;have cn:=qF h.kind W1;rw[hk]at cn;obtain⟨⟨oq,on,oc⟩,Ip⟩:∃x,Hg s q n c=x:=⟨_,rfl⟩
 have NY:Hid (∀wi,Rd w0 wi K (a+512) s mb (.slice vp xs.length Y) xs q n c→((wi.cell? ⟨K.r,1,none⟩=some (.pointer (some ⟨K.gs,0,none⟩))∧wi.cell? ⟨K.r,2,none⟩=some (.map (some K.mw)))∧(Instr.lookup 89 (.map (some K.mw)) (.int .u8 120) false).run Tryz.prog wi=.ok (.agg #[.string ⟨#[]⟩,.slice oq on oc]) wi)):=
  Qh (fun wi hi=>⟨⟨hi.c1,hi.c2⟩,BC hi.map Ip⟩)
 have Wv:Hid (∀wi,Rd w0 wi K (a+512) s mb (.slice vp xs.length Y) xs q n c→Calls Tryz.prog 112 #[.pointer (some ⟨K.gs,0,none⟩),.agg (aa (kR h s)),.slice oq on oc] wi fun e w'=>e=.returned (.tuple #[.agg (aa ah),.int .i64 0])∧Below wi.heap.size wi w'):=
  Qh (fun wi hi=>by have:=xP h hi Ip (kR h s);rw[KH]at this;exact this)
 have Xs:=Qh KH;clear Ip KH
 have sU:Hid (0≤ah.size∧ah.name.length≤1048576∧ah.link.length≤1048576):=Qh (by
  have:=xO h I.out h0 h1 h2;rw[Xs.out]at this
  exact this)
 have vy:=Qh hN;clear hN h0 h1 h2;obtain⟨⟨A,fe⟩,b⟩:∃x,j6 ah=x:=⟨_,rfl⟩
 have Oz:A.body=[]:=by have:=tt ah;rw[b]at this;exact this
 have HFR:Hid (∀wi,Tabs wi→Calls Tryz.prog 80 #[.agg (aa ah)] wi fun e w'=>e=.returned (.tuple #[.agg #[.string (str A.path),.string (str A.target),.int .u8 (A.kind.toNat:Int),.int .i64 A.mode,.int .i64 A.uid,.int .i64 A.gid,.int .i64 A.time,.slice none 0 0],.int .i64 fe])∧Below wi.heap.size wi w'):=
  Qh (fun wi hT=>by
   obtain⟨_,b1,b2⟩:=sU.out;have:=qu ah wi (by omega) (by omega) hT;rw[b]at this;unfold jB at this;simp only[Oz,List.length_nil]at this
   exact this)
 have Zl:=Qh b;have HFB:=Qh Oz;clear b Oz;rw[Zl.out]at A7;simp only at A7;subst A7;rw[Zl.out];have HF:=Qh hf;have DV:=Qh (And.intro hX hl);have sg:=Qh nF;have jo:=Qh hsz;clear hl nF hsz hX hf
 go_enter Tryz.func76,Tryz.ntmps76
 go_upto_region 1 with fail
 clear jK;go_wp2_with fail;refine cn.mono ?_;rintro e w1 ⟨rfl,rfl⟩;go_upto_region 5 with fail;refine wp_region_any (by kernel_rfl) (rI (w:=w) (w1:=W1) K.r K.gs K.mw w.heap.size h (kR h s) oq on oc ah 0 (show 73≤73 from Qk 73) rfl rfl (Qk _) iA.out oX.out (fun wi T=>NY.out wi (I.out.below T)) (fun wi T=>rU h (I.out.below T)) (fun wi T=>Wv.out wi (I.out.below T)) ?_);intro W5 u KM;have AU:=Qh u;have Z:=Qh KM;have KT:=Qh (I.out.below u);clear u KM k2 x3;simp only[Exit.then]
 apply_assumption
 have H:=Z.out;have c0:=H.cell 0;have c1:=H.cell 1;have c2:=H.cell 2;have c3:=H.cell 3;have c4:=H.cell 4;have c5:=H.cell 5;have c6:=H.cell 6;have c7:=H.cell 7;have c8:=H.cell 8;simp only[aa,Qc,Qa,Qb]at c0 c1 c2 c3 c4 c5 c6 c7 c8;clear H;go_wp2_with fail;refine(HFR.out _ (KT.out.CY vy.out).Hy).mono ?_;rintro e B ⟨rfl,o⟩;have Uk:=o.alloc o.size (.cells #[.string (str A.path),.string (str A.target),.int .u8 (A.kind.toNat:Int),.int .i64 A.mode,.int .i64 A.uid,.int .i64 A.gid,.int .i64 A.time,.slice none 0 0] 48);have Bv:=au.new B 48 #[.string (str A.path),.string (str A.target),.int .u8 (A.kind.toNat:Int),.int .i64 A.mode,.int .i64 A.uid,.int .i64 A.gid,.int .i64 A.time,.slice none 0 0];have OK:w.heap.size<B.heap.size:=Nat.lt_of_lt_of_le Z.out.lt o.size;have Pr:=Qh (Z.out.below Uk Z.out.lt);have Tl:=Qh (KT.out.below Uk);have y:=Qh Bv;have d:=Qh OK;clear o Uk Bv OK c0 c1 c2 c3 c4 c5 c6 c7 c8;obtain⟨W7,SN⟩:∃W7,B.alloc (.cells #[.string (str A.path),.string (str A.target),.int .u8 (A.kind.toNat:Int),.int .i64 A.mode,.int .i64 A.uid,.int .i64 A.gid,.int .i64 A.time,.slice none 0 0] 48)=W7:=⟨_,rfl⟩
 rw[SN]at Pr Tl y;have HW7:=Qh SN;clear SN;have x0:=Tl.out.c0;have z7:=Pr.out.cell 7;simp only[aa,Qc,Qa,Qb,jo.out]at z7;have l:=Tl.out.idle ((Kept.refl ag W7).drew);obtain⟨t,hs⟩:=l.src
 have ck:w.heap.size≠K.g∧B.heap.size≠K.g:=by
  obtain⟨t',vZ⟩:=I.out.src;have:=vZ.lt;have:=d.out;exact⟨by omega,by omega⟩
 have Iw:=Qh l;have vT:=Qh ck;have hB:=vD W7.drew K.g (a+512) t K.S hs l.off k sg.out X DV.out.1 DV.out.2;clear hs l ck;go_upto_region 11 with fail;rw[HW7.out]
 go_region_held_law (fun w'=>w'.cell? ⟨K.r,0,none⟩=some (.pointer (some ⟨K.g,0,none⟩))∧w'.cell? ⟨w.heap.size,7,none⟩=some (.int .i64 (k:Int))) (first|exact⟨x0,z7⟩|exact O|exact R)
  (first
   |(go_at_call 108
     refine hB.mono ?_;rintro e D ⟨p,t',rfl,h2,h3,h4,f⟩;have H8:=Qh (Iw.out.nZ f ⟨t',h4⟩);have N:Hid (au D w.heap.size 66 (aa ah)):=Qh ((Pr.out.drew).iH f vT.out.1);have DM:Hid (au D B.heap.size 48 #[.string (str A.path),.string (str A.target),.int .u8 (A.kind.toNat:Int),.int .i64 A.mode,.int .i64 A.uid,.int .i64 A.gid,.int .i64 A.time,.slice none 0 0]):=Qh ((y.out.drew).iH f vT.out.2);have Xg:=Qh (And.intro h2 h3);have O:D.cell? ⟨K.r,0,none⟩=some (.pointer (some ⟨K.g,0,none⟩))∧D.cell? ⟨w.heap.size,7,none⟩=some (.int .i64 (k:Int)):=⟨H8.out.c0,by have:=N.out.cell 7;simp only[aa,Qc,Qa,Qb,jo.out]at this;exact this⟩
     have R:(D.setCell ⟨B.heap.size,7,none⟩ (.slice p k k)).cell? ⟨K.r,0,none⟩=some (.pointer (some ⟨K.g,0,none⟩))∧(D.setCell ⟨B.heap.size,7,none⟩ (.slice p k k)).cell? ⟨w.heap.size,7,none⟩=some (.int .i64 (k:Int)):=
      ⟨(H8.out.pE.other (b':=B.heap.size) (i:=7) (by have:=I.out.pE.lt;have:=d.out;omega) _).cell 0,by have:=(N.out.other (b':=B.heap.size) (i:=7) (by have:=d.out;omega) (.slice p k k)).cell 7;simp only[aa,Qc,Qa,Qb,jo.out]at this;exact this⟩
     have m7:=DM.out.cell 7;have fm7:=DM.out.frozen 7;simp only[Qc,Qa,Qb]at m7
     clear h2 h3 h4 f))
 clear hB O x0 z7
 have M:au (D.setCell ⟨B.heap.size,7,none⟩ (.slice p k k)) B.heap.size 48 (MP.mk {A with body:=X} p k).cs:=by
  have h9:=DM.out.set 7 (.slice p k k) (by decide:7<8);have e:(MP.mk {A with body:=X} p k).cs=#[.string (str A.path),.string (str A.target),.int .u8 (A.kind.toNat:Int),.int .i64 A.mode,.int .i64 A.uid,.int .i64 A.gid,.int .i64 A.time,.slice p X.length k]:=rfl;rw[e,qh.out];exact h9
 have V:Kept (fun k=>w.heap.size≤k) D (D.setCell ⟨B.heap.size,7,none⟩ (.slice p k k)):=(Kept.refl _ D).setCell (a:=⟨B.heap.size,7,none⟩) (.inr (Nat.le_of_lt d.out)) _;have J:=Rd.XT I.out H8.out V
 have WL:iC (D.setCell ⟨B.heap.size,7,none⟩ (.slice p k k)) p k X:=Xg.out.1.kept ((Kept.refl (aA B.heap.size) D).setCell (a:=⟨B.heap.size,7,none⟩) (.inr rfl) _) (fun _ x hx e=>by
  have h1:=Xg.out.2 x hx;have h2:=y.out.lt;have h3:x.block=B.heap.size:=e;have h4:W7.drew.heap.size=W7.heap.size:=rfl
  omega)
 obtain⟨W9,L⟩:∃W9,D.setCell ⟨B.heap.size,7,none⟩ (.slice p k k)=W9:=⟨_,rfl⟩
 rw[L]at M J WL;have HW9:=Qh L;have BS:=Qh M;have E:=Qh J;have HB9:=Qh WL;clear M J WL V R m7 fm7 L;go_upto_region 14 with fail;rw[HW9.out];refine wp_region_any (by kernel_rfl) (Ge (w1:=W9) w0.heap.size K.r B.heap.size (.slice vp xs.length Y) xs (MP.mk {A with body:=X} p k) (O9 K (.slice vp xs.length Y)) (show 73≤73 from Qk 73) rfl rfl BS.out E.out.pE rfl (fun e=>(E.out.BD _ e).1 rfl) E.out.row E.out.bel.size (by have:=Ix.out;have:=HF.out;omega) ?_);intro γ wB hA;obtain⟨m,g1,g2,g3,g4⟩:=hA;have G:=E.out.below g1;have D8:=G.Rq (v':=γ.va) g3;have W:Kept (fun k=>(Value.slice vp xs.length Y).ownBlock=some k) m wB:=(Kept.refl _ m).grown g3 (fun k hk=>.inr hk);have U:=((G.pE.iH W (fun e=>(G.BD _ e).1 rfl)).set 3 γ.va (by decide:3<4)).cell 2;have c2:(wB.setCell ⟨K.r,3,none⟩ γ.va).cell? ⟨K.r,2,none⟩=some (.map (some K.mw)):=U;obtain⟨w2,jO,WO,jm,Bw⟩:=D8.XN Tryz.underlying89 0;have hy:js m (MP.mk {A with body:=X} p k):=⟨by show iC m p X.length X;rw[qh.out];exact HB9.out.below g1,by show X.length≤k;rw[qh.out];exact Qk _,by show k≤maxLen;have:=sg.out;unfold maxLen;omega⟩
 have F:=Qh (G.added g2 g3 g4 hy (fun _ z hz=>Iw.out.fresh (Xg.out.2 z hz)) HF.out WO jm);clear g1 g2 g3 g4 G D8 W U WO jm Bw hy;simp only[Exit.then]
 apply_assumption
 go_wp2;go_ret;exact⟨rfl,mb,γ.va,_,none,0,0,F.out⟩
end
section
variable {w0 w w':World} {K:RK} {a:Nat} {s:RS} {mb:Option Nat} {v:Value} {xs:List MP} {q:Option Addr} {n c:Nat}
theorem Jv (k:UInt8):oM k=true↔¬(k≠48∧k≠49∧k≠50∧k≠53):=by
 unfold oM;simp only[Bool.or_eq_true,beq_iff_eq];constructor
 ·rintro(((h|h)|h)|h) ⟨h1,A,B,D⟩
  ·exact h1 h
  ·exact A h
  ·exact B h
  ·exact D h
 ·intro h
  by_cases h1:k=48
  ·exact .inl (.inl (.inl h1))
  ·by_cases A:k=49
   ·exact .inl (.inl (.inr A))
   ·by_cases B:k=50
    ·exact .inl (.inr B)
    ·by_cases D:k=53
     ·exact .inr D
     ·exact absurd ⟨h1,A,B,D⟩ h
theorem Bl (hr:Rd w0 w K (a+512) s mb v xs q n c) (h:af) (hN:Need w0) (h0:0≤h.size) (h1:h.name.length≤1048576) (h2:h.link.length≤1048576):
 Calls Tryz.prog 76 #[.pointer (some ⟨K.r,0,none⟩),.agg (aa h)] w (j4 w0 K a (oo (K.S.bs.drop a) h s)):=by
 obtain⟨t,hs⟩:=hr.src;have hlen:=hs.len;have hle:=hs.le;have R:(K.S.bs.drop a).length=K.S.n - a:=by rw[Qe,hlen]
 unfold oo
 by_cases hf:4096≤s.out.length
 ·rw[if_pos hf]
  exact(TG hr h (Nat.le_antisymm hr.many hf)).mono fun e w' h=>h
 ·rw[if_neg hf]
  have A:s.out.length<4096:=by omega
  by_cases hk:h.kind≠48∧h.kind≠49∧h.kind≠50∧h.kind≠53
  ·rw[if_pos hk]
   exact(XH hr h A (by
    cases V:oM h.kind with
    |false=>rfl
    |true=>exact absurd hk ((Jv _).1 V))).mono fun e w' h=>h
  ·rw[if_neg hk,Vi]
   have I:=(Jv _).2 hk
   by_cases ha:(cC (aD s.bE) s.own (kR h s)).2≠0
   ·rw[if_pos ha]
    exact(IF hr h A I ha).mono fun e w' h=>h
   ·rw[if_neg ha]
    have B:cC (aD s.bE) s.own (kR h s)=((cC (aD s.bE) s.own (kR h s)).1,0):=Prod.ext rfl (Classical.byContradiction ha);have H:=xO h hr h0 h1 h2;obtain⟨G,L⟩:∃x,(cC (aD s.bE) s.own (kR h s)).1=x:=⟨_,rfl⟩
    rw[L]at B H⊢
    by_cases D:(j6 G).2≠0
    ·rw[if_pos D]
     exact(Lm hr h A I hN h0 h1 h2 G B D).mono fun e w' h=>h
    ·rw[if_neg D]
     have E:(j6 G).2=0:=Classical.byContradiction D;have U:=LS E;obtain⟨k,M⟩:∃k:Nat,G.size=(k:Int):=⟨G.size.toNat,by omega⟩
     have O:k≤1048576:=by omega
     have J:aw k=lr k:=rfl;simp only;unfold kF;rw[M,Int.toNat_natCast,R]
     by_cases T:K.S.n<a+512+lr k
     ·rw[if_pos (by rw[J];omega)]
      exact(P4 hr h A I hN h0 h1 h2 G B E k M O T).mono fun e w' h=>h
     ·rw[if_neg (by rw[J];omega)]
      simp only;obtain⟨X,N⟩:∃X,(K.S.bs.drop (a+512)).take k=X:=⟨_,rfl⟩
      rw[List.drop_drop,N,J];refine(ac2 hr h A I hN h0 h1 h2 G B E k M O X N (by omega)).mono ?_;rintro e w' ⟨rfl,H⟩;rw[Nat.add_assoc]at H;exact⟨rfl,H⟩
theorem wW (w:World) (g a t:Nat) (S:Sv) (h:Block.Src w g S a t) (ho:S.off g) (X:List UInt8) (hX:(S.bs.drop a).take 512=X) (hl:a+512≤S.n):
 Calls Tryz.prog 71 #[.pointer (some ⟨g,0,none⟩)] w fun e w'=>∃p c t',e=.returned (.tuple #[.slice p 512 c,.int .i64 0])∧512≤c∧c≤maxLen∧iC w' p 512 X∧Block.Src w' g S (a+512) t'∧Kept (aA g) w w':=by
 refine(tT w g a t S h ho).mono ?_;rintro e w' (⟨h1,_⟩|⟨_,B⟩)
 ·omega
 ·rcases B with⟨_,v,rfl,h3,⟨t',h4⟩,h5⟩|⟨h1,_⟩
  ·obtain⟨p,c,rfl,D,E,A,_,_⟩:=h3.slice
   rw[hX]at A;exact⟨p,c,t',rfl,D,E,A,h4,h5⟩
  ·omega
theorem ac4 (w:World) (g a t:Nat) (S:Sv) (h:Block.Src w g S a t) (ho:S.off g) (hl:S.n<a+512):
 Calls Tryz.prog 71 #[.pointer (some ⟨g,0,none⟩)] w fun e w'=>∃E a' t',(E=14∨E=2)∧e=.returned (.tuple #[.slice none 0 0,.int .i64 E])∧Block.Src w' g S a' t'∧Kept (aA g) w w':=by
 refine(tT w g a t S h ho).mono ?_;rintro e w' (⟨_,rfl,⟨t',h1⟩,A⟩|⟨_,A⟩)
 ·exact⟨14,_,t',.inl rfl,rfl,h1,A⟩
 ·rcases A with⟨h3,_⟩|⟨_,rfl,⟨t',h4⟩,h5⟩
  ·omega
  ·exact⟨2,_,t',.inr rfl,rfl,h4,h5⟩
def IA (w0:World) (K:RK) (a:Nat) (s:RS) (mb:Option Nat) (v:Value) (xs:List MP) (q:Option Addr) (n c:Nat) (st:Step) (e:Ending) (w':World):Prop:=
 match st with
 |.fault er=>(∃b,e=.returned (.tuple #[.bool b,.int .i64 er]))∧Below w0.heap.size w0 w'
 |.done=>e=.returned (.tuple #[.bool false,.int .i64 0])∧∃a',Rd w0 w' K a' s mb v xs q n c
 |.next k s'=>e=.returned (.tuple #[.bool true,.int .i64 0])∧Left w0 K (a+k) s' w'
theorem MR (hr:Rd w0 w K a s mb v xs q n c) (hl:K.S.n<a+512):
 Calls Tryz.prog 44 #[.pointer (some ⟨K.r,0,none⟩)] w fun e w'=>e=.returned (.tuple #[.bool false,.int .i64 2])∧Below w0.heap.size w0 w':=by
 obtain⟨t,hs⟩:=hr.src;have H:=Qh hr;have x0:=hr.c0;have D:=ac4 w K.g a t K.S hs hr.off hl;clear hr hs hl
 go_enter Tryz.func44,Tryz.ntmps44
 go_wp2_with fail
 refine D.mono ?_;rintro e L ⟨E,a',J,G,rfl,A,B⟩;have F:=Qh (H.out.nZ B ⟨J,A⟩);have I:(E != 0)=true:=by rcases G with rfl|rfl<;>rfl
 clear A B D x0 G;go_wp2;go_ret2;exact⟨rfl,F.out.bel⟩
theorem Vv (hr:Rd w0 w K a s mb v xs q n c) (X:List UInt8) (hX:(K.S.bs.drop a).take 512=X) (hl:a+512≤K.S.n) (hz:bZ X=true):
 Calls Tryz.prog 44 #[.pointer (some ⟨K.r,0,none⟩)] w fun e w'=>e=.returned (.tuple #[.bool false,.int .i64 (LH (K.S.bs.drop (a+512)) s)])∧∃a',Rd w0 w' K a' s mb v xs q n c:=by
 obtain⟨t,hs⟩:=hr.src;have J:X.length=512:=by rw[←hX,Qg,Qe,hs.len];omega
 have L:=Qh hr;have x0:=hr.c0;have H:=wW w K.g a t K.S hs hr.off X hX hl;have T:=Qh J;have M:=Qh hz;obtain⟨EE,A⟩:∃EE,LH (K.S.bs.drop (a+512)) s=EE:=⟨_,rfl⟩
 rw[A];have N:=Qh A;clear hr hs hl hX J hz A
 go_enter Tryz.func44,Tryz.ntmps44
 go_wp2_with fail
 refine H.mono ?_;rintro e V ⟨p,O,U,rfl,_,_,B,D,E⟩;have F:=Qh (L.out.nZ E ⟨U,D⟩);have R:=Qh B;clear B D E H x0;go_wp2_with fail;refine(kq p O X V T.out R.out).mono ?_;rw[M.out];rintro e W ⟨rfl,rfl⟩;go_wp2_with fail;refine(show Calls _ _ _ _ (NQ w0 K (a+512) s mb v xs q n c (LH (K.S.bs.drop (a+512)) s))from Gr F.out).mono ?_;rw[N.out];rintro e w3 ⟨rfl,a',I⟩;have G:=Qh I;clear I;go_wp2;go_ret2;exact⟨rfl,a',G.out⟩
theorem JT (hr:Rd w0 w K a s mb v xs q n c) (X:List UInt8) (hX:(K.S.bs.drop a).take 512=X) (hl:a+512≤K.S.n) (hz:bZ X=false) (he:(aR X).2≠0):
 Calls Tryz.prog 44 #[.pointer (some ⟨K.r,0,none⟩)] w fun e w'=>e=.returned (.tuple #[.bool false,.int .i64 (aR X).2])∧Below w0.heap.size w0 w':=by
 obtain⟨t,hs⟩:=hr.src;have U:X.length=512:=by rw[←hX,Qg,Qe,hs.len];omega
 have W:=Qh hr;have x0:=hr.c0;have L:=wW w K.g a t K.S hs hr.off X hX hl;have R:=Qh U;have Y:=Qh hz;obtain⟨⟨h,Z⟩,A⟩:∃x,aR X=x:=⟨_,rfl⟩
 rw[A]at he⊢;simp only at he⊢;have b:(Z != 0)=true:=by simpa using he
 have V:=Qh A;clear hr hs hl hX U hz he A
 go_enter Tryz.func44,Tryz.ntmps44
 go_wp2_with fail
 refine L.mono ?_;rintro e T ⟨p,E,d,rfl,N,O,H,I,J⟩;have F:=Qh (W.out.nZ J ⟨d,I⟩);have M:=Qh H;have D:=Qh (And.intro N O);clear H I J L x0 N O;go_wp2_with fail;refine(kq p E X T R.out M.out).mono ?_;rw[Y.out];rintro e f ⟨rfl,rfl⟩;go_wp2_with fail;refine(pq p 512 E X T R.out D.out.1 D.out.2 M.out).mono ?_;rw[V.out];unfold oF aa;simp only;rintro e w3 ⟨rfl,B⟩;have G:=Qh ((F.out.idle B).bel.alloc (F.out.idle B).bel.size (.cells #[.string (str h.name),.string (str h.link),.int .u8 (h.kind.toNat:Int),.int .i64 h.mode,.int .i64 h.uid,.int .i64 h.gid,.int .i64 h.time,.int .i64 h.size,.bool h.j7] 66));clear B;go_wp2;go_ret2;exact⟨rfl,G.out⟩
end
section
variable {w0 w w':World} {K:RK} {a:Nat} {s:RS} {mb:Option Nat} {v:Value} {xs:List MP} {q:Option Addr} {n c:Nat}
theorem JS (hr:Rd w0 w K a s mb v xs q n c) (X:List UInt8) (hX:(K.S.bs.drop a).take 512=X) (hl:a+512≤K.S.n) (hz:bZ X=false) (h:af) (hh:aR X=(h,0)) (kV:h.kind=120) (hN:Need w0):
 Calls Tryz.prog 44 #[.pointer (some ⟨K.r,0,none⟩)] w fun e w'=>∃E,e=.returned (.tuple #[.bool true,.int .i64 E])∧j4 w0 K a (ji (K.S.bs.drop a) h s) (.returned (.int .i64 E)) w':=by
 obtain⟨t,hs⟩:=hr.src;have f:X.length=512:=by rw[←hX,Qg,Qe,hs.len];omega
 have u:=Qh hr;have x0:=hr.c0;have O:=wW w K.g a t K.S hs hr.off X hX hl;have Z:=Qh f;have y:=Qh hz;have l:=Qh hh;have d:=sA X;rw[hh]at d;obtain⟨H,b1,I⟩:=d;have z:=Qh (And.intro H (And.intro b1 I));have vy:=Qh hN;obtain⟨kn,B⟩:∃kn:Int,(h.kind.toNat:Int)=kn:=⟨_,rfl⟩
 obtain rfl:kn=120:=by rw[←B,kV];rfl
 have m:=Qh kV;clear kV;clear hr hs hl hX f hz hh H b1 I hN;have W:=Qh B;clear B
 go_enter Tryz.func44,Tryz.ntmps44
 go_wp2_with fail
 refine O.mono ?_;rintro e b ⟨p,J,t',rfl,V,Y,L,M,N⟩;have F:=Qh (u.out.nZ N ⟨t',M⟩);have T:=Qh L;have D:=Qh (And.intro V Y);clear L M N O x0 V Y;go_wp2_with fail;refine(kq p J X b Z.out T.out).mono ?_;rw[y.out];rintro e w2 ⟨rfl,rfl⟩;go_wp2_with fail;refine(pq p 512 J X b Z.out D.out.1 D.out.2 T.out).mono ?_;rw[l.out];unfold oF aa;simp only[W.out];rintro e w3 ⟨rfl,U⟩;have R:=(F.out.idle U).below ((Below.refl _ w3).alloc (Qk _) (.cells #[.string (str h.name),.string (str h.link),.int .u8 120,.int .i64 h.mode,.int .i64 h.uid,.int .i64 h.gid,.int .i64 h.time,.int .i64 h.size,.bool h.j7] 66));have b1:=au.new w3 66 #[.string (str h.name),.string (str h.link),.int .u8 120,.int .i64 h.mode,.int .i64 h.uid,.int .i64 h.gid,.int .i64 h.time,.int .i64 h.size,.bool h.j7];have d0:=b1.cell 0;have d1:=b1.cell 1;have d2:=b1.cell 2;have d3:=b1.cell 3;have d4:=b1.cell 4;have d5:=b1.cell 5;have d6:=b1.cell 6;have d7:=b1.cell 7;have d8:=b1.cell 8;simp only[Qc,Qa,Qb]at d0 d1 d2 d3 d4 d5 d6 d7 d8;have G:=Qh R;clear U b1 R;go_wp2_with fail
 refine(show Calls _ _ #[.pointer (some ⟨K.r,0,none⟩),.agg #[.string (str h.name),.string (str h.link),.int .u8 120,.int .i64 h.mode,.int .i64 h.uid,.int .i64 h.gid,.int .i64 h.time,.int .i64 h.size,.bool h.j7]] _ (j4 w0 K a (ji (K.S.bs.drop a) h s))from by
  have:=Bp G.out h z.out.1 (by rw[m.out];rfl) vy.out;unfold aa at this;rw[W.out]at this
  exact this).mono ?_
 intro e w4 A
 obtain⟨E,rfl⟩:∃E,e=.returned (.int .i64 E):=by
  revert A
  cases ji (K.S.bs.drop a) h s with
  |fault er=>exact fun A=>⟨er,A.1⟩
  |done=>exact fun A=>A.elim
  |next k s'=>exact fun A=>⟨0,A.1⟩
 have o:=Qh A;clear A;go_wp2;go_ret2;exact⟨E,rfl,o.out⟩
theorem JR (hr:Rd w0 w K a s mb v xs q n c) (X:List UInt8) (hX:(K.S.bs.drop a).take 512=X) (hl:a+512≤K.S.n) (hz:bZ X=false) (h:af) (hh:aR X=(h,0)) (kV:h.kind=103) (hN:Need w0):
 Calls Tryz.prog 44 #[.pointer (some ⟨K.r,0,none⟩)] w fun e w'=>∃E,e=.returned (.tuple #[.bool true,.int .i64 E])∧j4 w0 K a (ji (K.S.bs.drop a) h s) (.returned (.int .i64 E)) w':=by
 obtain⟨t,hs⟩:=hr.src;have f:X.length=512:=by rw[←hX,Qg,Qe,hs.len];omega
 have u:=Qh hr;have x0:=hr.c0;have O:=wW w K.g a t K.S hs hr.off X hX hl;have Z:=Qh f;have y:=Qh hz;have l:=Qh hh;have d:=sA X;rw[hh]at d;obtain⟨H,b1,I⟩:=d;have z:=Qh (And.intro H (And.intro b1 I));have vy:=Qh hN;obtain⟨kn,B⟩:∃kn:Int,(h.kind.toNat:Int)=kn:=⟨_,rfl⟩
 obtain rfl:kn=103:=by rw[←B,kV];rfl
 have m:=Qh kV;clear kV;clear hr hs hl hX f hz hh H b1 I hN;have W:=Qh B;clear B
 go_enter Tryz.func44,Tryz.ntmps44
 go_wp2_with fail
 refine O.mono ?_;rintro e b ⟨p,J,t',rfl,V,Y,L,M,N⟩;have F:=Qh (u.out.nZ N ⟨t',M⟩);have T:=Qh L;have D:=Qh (And.intro V Y);clear L M N O x0 V Y;go_wp2_with fail;refine(kq p J X b Z.out T.out).mono ?_;rw[y.out];rintro e w2 ⟨rfl,rfl⟩;go_wp2_with fail;refine(pq p 512 J X b Z.out D.out.1 D.out.2 T.out).mono ?_;rw[l.out];unfold oF aa;simp only[W.out];rintro e w3 ⟨rfl,U⟩;have R:=(F.out.idle U).below ((Below.refl _ w3).alloc (Qk _) (.cells #[.string (str h.name),.string (str h.link),.int .u8 103,.int .i64 h.mode,.int .i64 h.uid,.int .i64 h.gid,.int .i64 h.time,.int .i64 h.size,.bool h.j7] 66));have b1:=au.new w3 66 #[.string (str h.name),.string (str h.link),.int .u8 103,.int .i64 h.mode,.int .i64 h.uid,.int .i64 h.gid,.int .i64 h.time,.int .i64 h.size,.bool h.j7];have d0:=b1.cell 0;have d1:=b1.cell 1;have d2:=b1.cell 2;have d3:=b1.cell 3;have d4:=b1.cell 4;have d5:=b1.cell 5;have d6:=b1.cell 6;have d7:=b1.cell 7;have d8:=b1.cell 8;simp only[Qc,Qa,Qb]at d0 d1 d2 d3 d4 d5 d6 d7 d8;have G:=Qh R;clear U b1 R;go_wp2_with fail
 refine(show Calls _ _ #[.pointer (some ⟨K.r,0,none⟩),.agg #[.string (str h.name),.string (str h.link),.int .u8 103,.int .i64 h.mode,.int .i64 h.uid,.int .i64 h.gid,.int .i64 h.time,.int .i64 h.size,.bool h.j7]] _ (j4 w0 K a (ji (K.S.bs.drop a) h s))from by
  have:=Bp G.out h z.out.1 (by rw[m.out];rfl) vy.out;unfold aa at this;rw[W.out]at this
  exact this).mono ?_
 intro e w4 A
 obtain⟨E,rfl⟩:∃E,e=.returned (.int .i64 E):=by
  revert A
  cases ji (K.S.bs.drop a) h s with
  |fault er=>exact fun A=>⟨er,A.1⟩
  |done=>exact fun A=>A.elim
  |next k s'=>exact fun A=>⟨0,A.1⟩
 have o:=Qh A;clear A;go_wp2;go_ret2;exact⟨E,rfl,o.out⟩
theorem MQ (hr:Rd w0 w K a s mb v xs q n c) (X:List UInt8) (hX:(K.S.bs.drop a).take 512=X) (hl:a+512≤K.S.n) (hz:bZ X=false) (h:af) (hh:aR X=(h,0)) (kV:h.kind=76) (hN:Need w0):
 Calls Tryz.prog 44 #[.pointer (some ⟨K.r,0,none⟩)] w fun e w'=>∃E,e=.returned (.tuple #[.bool true,.int .i64 E])∧j4 w0 K a (ji (K.S.bs.drop a) h s) (.returned (.int .i64 E)) w':=by
 obtain⟨t,hs⟩:=hr.src;have f:X.length=512:=by rw[←hX,Qg,Qe,hs.len];omega
 have u:=Qh hr;have x0:=hr.c0;have O:=wW w K.g a t K.S hs hr.off X hX hl;have Z:=Qh f;have y:=Qh hz;have l:=Qh hh;have d:=sA X;rw[hh]at d;obtain⟨H,b1,I⟩:=d;have z:=Qh (And.intro H (And.intro b1 I));have vy:=Qh hN;obtain⟨kn,B⟩:∃kn:Int,(h.kind.toNat:Int)=kn:=⟨_,rfl⟩
 obtain rfl:kn=76:=by rw[←B,kV];rfl
 have m:=Qh kV;clear kV;clear hr hs hl hX f hz hh H b1 I hN;have W:=Qh B;clear B
 go_enter Tryz.func44,Tryz.ntmps44
 go_wp2_with fail
 refine O.mono ?_;rintro e b ⟨p,J,t',rfl,V,Y,L,M,N⟩;have F:=Qh (u.out.nZ N ⟨t',M⟩);have T:=Qh L;have D:=Qh (And.intro V Y);clear L M N O x0 V Y;go_wp2_with fail;refine(kq p J X b Z.out T.out).mono ?_;rw[y.out];rintro e w2 ⟨rfl,rfl⟩;go_wp2_with fail;refine(pq p 512 J X b Z.out D.out.1 D.out.2 T.out).mono ?_;rw[l.out];unfold oF aa;simp only[W.out];rintro e w3 ⟨rfl,U⟩;have R:=(F.out.idle U).below ((Below.refl _ w3).alloc (Qk _) (.cells #[.string (str h.name),.string (str h.link),.int .u8 76,.int .i64 h.mode,.int .i64 h.uid,.int .i64 h.gid,.int .i64 h.time,.int .i64 h.size,.bool h.j7] 66));have b1:=au.new w3 66 #[.string (str h.name),.string (str h.link),.int .u8 76,.int .i64 h.mode,.int .i64 h.uid,.int .i64 h.gid,.int .i64 h.time,.int .i64 h.size,.bool h.j7];have d0:=b1.cell 0;have d1:=b1.cell 1;have d2:=b1.cell 2;have d3:=b1.cell 3;have d4:=b1.cell 4;have d5:=b1.cell 5;have d6:=b1.cell 6;have d7:=b1.cell 7;have d8:=b1.cell 8;simp only[Qc,Qa,Qb]at d0 d1 d2 d3 d4 d5 d6 d7 d8;have G:=Qh R;clear U b1 R;go_wp2_with fail
 refine(show Calls _ _ #[.pointer (some ⟨K.r,0,none⟩),.agg #[.string (str h.name),.string (str h.link),.int .u8 76,.int .i64 h.mode,.int .i64 h.uid,.int .i64 h.gid,.int .i64 h.time,.int .i64 h.size,.bool h.j7]] _ (j4 w0 K a (ji (K.S.bs.drop a) h s))from by
  have:=Bp G.out h z.out.1 (by rw[m.out];rfl) vy.out;unfold aa at this;rw[W.out]at this
  exact this).mono ?_
 intro e w4 A
 obtain⟨E,rfl⟩:∃E,e=.returned (.int .i64 E):=by
  revert A
  cases ji (K.S.bs.drop a) h s with
  |fault er=>exact fun A=>⟨er,A.1⟩
  |done=>exact fun A=>A.elim
  |next k s'=>exact fun A=>⟨0,A.1⟩
 have o:=Qh A;clear A;go_wp2;go_ret2;exact⟨E,rfl,o.out⟩
theorem MO (hr:Rd w0 w K a s mb v xs q n c) (X:List UInt8) (hX:(K.S.bs.drop a).take 512=X) (hl:a+512≤K.S.n) (hz:bZ X=false) (h:af) (hh:aR X=(h,0)) (kV:h.kind=75) (hN:Need w0):
 Calls Tryz.prog 44 #[.pointer (some ⟨K.r,0,none⟩)] w fun e w'=>∃E,e=.returned (.tuple #[.bool true,.int .i64 E])∧j4 w0 K a (ji (K.S.bs.drop a) h s) (.returned (.int .i64 E)) w':=by
 obtain⟨t,hs⟩:=hr.src;have f:X.length=512:=by rw[←hX,Qg,Qe,hs.len];omega
 have u:=Qh hr;have x0:=hr.c0;have O:=wW w K.g a t K.S hs hr.off X hX hl;have Z:=Qh f;have y:=Qh hz;have l:=Qh hh;have d:=sA X;rw[hh]at d;obtain⟨H,b1,I⟩:=d;have z:=Qh (And.intro H (And.intro b1 I));have vy:=Qh hN;obtain⟨kn,B⟩:∃kn:Int,(h.kind.toNat:Int)=kn:=⟨_,rfl⟩
 obtain rfl:kn=75:=by rw[←B,kV];rfl
 have m:=Qh kV;clear kV;clear hr hs hl hX f hz hh H b1 I hN;have W:=Qh B;clear B
 go_enter Tryz.func44,Tryz.ntmps44
 go_wp2_with fail
 refine O.mono ?_;rintro e b ⟨p,J,t',rfl,V,Y,L,M,N⟩;have F:=Qh (u.out.nZ N ⟨t',M⟩);have T:=Qh L;have D:=Qh (And.intro V Y);clear L M N O x0 V Y;go_wp2_with fail;refine(kq p J X b Z.out T.out).mono ?_;rw[y.out];rintro e w2 ⟨rfl,rfl⟩;go_wp2_with fail;refine(pq p 512 J X b Z.out D.out.1 D.out.2 T.out).mono ?_;rw[l.out];unfold oF aa;simp only[W.out];rintro e w3 ⟨rfl,U⟩;have R:=(F.out.idle U).below ((Below.refl _ w3).alloc (Qk _) (.cells #[.string (str h.name),.string (str h.link),.int .u8 75,.int .i64 h.mode,.int .i64 h.uid,.int .i64 h.gid,.int .i64 h.time,.int .i64 h.size,.bool h.j7] 66));have b1:=au.new w3 66 #[.string (str h.name),.string (str h.link),.int .u8 75,.int .i64 h.mode,.int .i64 h.uid,.int .i64 h.gid,.int .i64 h.time,.int .i64 h.size,.bool h.j7];have d0:=b1.cell 0;have d1:=b1.cell 1;have d2:=b1.cell 2;have d3:=b1.cell 3;have d4:=b1.cell 4;have d5:=b1.cell 5;have d6:=b1.cell 6;have d7:=b1.cell 7;have d8:=b1.cell 8;simp only[Qc,Qa,Qb]at d0 d1 d2 d3 d4 d5 d6 d7 d8;have G:=Qh R;clear U b1 R;go_wp2_with fail
 refine(show Calls _ _ #[.pointer (some ⟨K.r,0,none⟩),.agg #[.string (str h.name),.string (str h.link),.int .u8 75,.int .i64 h.mode,.int .i64 h.uid,.int .i64 h.gid,.int .i64 h.time,.int .i64 h.size,.bool h.j7]] _ (j4 w0 K a (ji (K.S.bs.drop a) h s))from by
  have:=Bp G.out h z.out.1 (by rw[m.out];rfl) vy.out;unfold aa at this;rw[W.out]at this
  exact this).mono ?_
 intro e w4 A
 obtain⟨E,rfl⟩:∃E,e=.returned (.int .i64 E):=by
  revert A
  cases ji (K.S.bs.drop a) h s with
  |fault er=>exact fun A=>⟨er,A.1⟩
  |done=>exact fun A=>A.elim
  |next k s'=>exact fun A=>⟨0,A.1⟩
 have o:=Qh A;clear A;go_wp2;go_ret2;exact⟨E,rfl,o.out⟩
theorem Vt (hr:Rd w0 w K a s mb v xs q n c) (X:List UInt8) (hX:(K.S.bs.drop a).take 512=X) (hl:a+512≤K.S.n) (hz:bZ X=false) (h:af) (hh:aR X=(h,0)) (kV:tZ h.kind=false) (hN:Need w0):
 Calls Tryz.prog 44 #[.pointer (some ⟨K.r,0,none⟩)] w fun e w'=>∃E,e=.returned (.tuple #[.bool true,.int .i64 E])∧j4 w0 K a (oo (K.S.bs.drop a) h s) (.returned (.int .i64 E)) w':=by
 obtain⟨t,hs⟩:=hr.src;have o:X.length=512:=by rw[←hX,Qg,Qe,hs.len];omega
 have z:=Qh hr;have x0:=hr.c0;have T:=wW w K.g a t K.S hs hr.off X hX hl;have d:=Qh o;have HZ:=Qh hz;have u:=Qh hh;have l:=sA X;rw[hh]at l;obtain⟨I,b1,J⟩:=l;have D:=Qh (And.intro I (And.intro b1 J));have vy:=Qh hN;obtain⟨kn,B⟩:∃kn:Int,(h.kind.toNat:Int)=kn:=⟨_,rfl⟩
 have M:(kn==120)=false∧(kn==103)=false∧(kn==76)=false∧(kn==75)=false:=by
  have hu:=fun m hm=>rz h.kind m hm
  unfold tZ at kV;simp only[Bool.or_eq_false_iff,beq_eq_false_iff_ne]at kV;obtain⟨⟨⟨k1,k2⟩,k3⟩,k4⟩:=kV;simp only[beq_eq_false_iff_ne];exact⟨fun e=>k1 ((hu 120 (by decide)).1 (B.trans e)),fun e=>k2 ((hu 103 (by decide)).1 (B.trans e)),fun e=>k3 ((hu 76 (by decide)).1 (B.trans e)),fun e=>k4 ((hu 75 (by decide)).1 (B.trans e))⟩
 obtain⟨e1,e2,e3,M⟩:=M;clear kV;clear hr hs hl hX o hz hh I b1 J hN;have Z:=Qh B;clear B
 go_enter Tryz.func44,Tryz.ntmps44
 go_wp2_with fail
 refine T.mono ?_;rintro e f ⟨p,L,t',rfl,Y,b,N,O,R⟩;have F:=Qh (z.out.nZ R ⟨t',O⟩);have V:=Qh N;have H:=Qh (And.intro Y b);clear N O R T x0 Y b;go_wp2_with fail;refine(kq p L X f d.out V.out).mono ?_;rw[HZ.out];rintro e w2 ⟨rfl,rfl⟩;go_wp2_with fail;refine(pq p 512 L X f d.out H.out.1 H.out.2 V.out).mono ?_;rw[u.out];unfold oF aa;simp only[Z.out];rintro e w3 ⟨rfl,W⟩;have U:=(F.out.idle W).below ((Below.refl _ w3).alloc (Qk _) (.cells #[.string (str h.name),.string (str h.link),.int .u8 kn,.int .i64 h.mode,.int .i64 h.uid,.int .i64 h.gid,.int .i64 h.time,.int .i64 h.size,.bool h.j7] 66));have b1:=au.new w3 66 #[.string (str h.name),.string (str h.link),.int .u8 kn,.int .i64 h.mode,.int .i64 h.uid,.int .i64 h.gid,.int .i64 h.time,.int .i64 h.size,.bool h.j7];have d0:=b1.cell 0;have d1:=b1.cell 1;have d2:=b1.cell 2;have d3:=b1.cell 3;have d4:=b1.cell 4;have d5:=b1.cell 5;have d6:=b1.cell 6;have d7:=b1.cell 7;have d8:=b1.cell 8;simp only[Qc,Qa,Qb]at d0 d1 d2 d3 d4 d5 d6 d7 d8;have G:=Qh U;clear W b1 U;go_wp2_with fail
 refine(show Calls _ _ #[.pointer (some ⟨K.r,0,none⟩),.agg #[.string (str h.name),.string (str h.link),.int .u8 kn,.int .i64 h.mode,.int .i64 h.uid,.int .i64 h.gid,.int .i64 h.time,.int .i64 h.size,.bool h.j7]] _ (j4 w0 K a (oo (K.S.bs.drop a) h s))from by
  have:=Bl G.out h vy.out D.out.1 (by have:=D.out.2.1;omega) (by have:=D.out.2.2;omega);unfold aa at this;rw[Z.out]at this
  exact this).mono ?_
 intro e w4 A
 obtain⟨E,rfl⟩:∃E,e=.returned (.int .i64 E):=by
  revert A
  cases oo (K.S.bs.drop a) h s with
  |fault er=>exact fun A=>⟨er,A.1⟩
  |done=>exact fun A=>A.elim
  |next k s'=>exact fun A=>⟨0,A.1⟩
 have y:=Qh A;clear A;go_wp2;go_ret2;exact⟨E,rfl,y.out⟩
theorem OZ {st:Step} (hd:st≠.done) (h:Calls Tryz.prog 44 #[.pointer (some ⟨K.r,0,none⟩)] w fun e w'=>∃E,e=.returned (.tuple #[.bool true,.int .i64 E])∧j4 w0 K a st (.returned (.int .i64 E)) w'):
 Calls Tryz.prog 44 #[.pointer (some ⟨K.r,0,none⟩)] w (IA w0 K a s mb v xs q n c st):=by
 refine h.mono ?_;rintro e w' ⟨E,rfl,B⟩
 cases st with
 |fault er=>
  obtain⟨h1,A⟩:=B;simp only[Ending.returned.injEq,Value.int.injEq,true_and]at h1;subst h1;exact⟨⟨true,rfl⟩,A⟩
 |done=>exact absurd rfl hd
 |next k D=>
  obtain⟨h1,A⟩:=B;simp only[Ending.returned.injEq,Value.int.injEq,true_and]at h1;subst h1;exact⟨rfl,A⟩
theorem Qy (l:List UInt8) (h:af) (s:RS):ji l h s≠.done:=by
 unfold ji;split
 ·exact fun h=>by cases h
 ·split
  ·exact fun h=>by cases h
  ·split
   ·exact fun h=>by cases h
   ·split
    ·exact fun h=>by cases h
    ·split
     ·exact fun h=>by cases h
     ·split
      ·exact fun h=>by cases h
      ·split<;>exact fun h=>by cases h
theorem Rt (l:List UInt8) (h:af) (s:RS):oo l h s≠.done:=by
 unfold oo;split
 ·exact fun h=>by cases h
 ·split
  ·exact fun h=>by cases h
  ·split
   ·exact fun h=>by cases h
   ·split<;>exact fun h=>by cases h
theorem Vu (hr:Rd w0 w K a s mb v xs q n c) (hN:Need w0):
 Calls Tryz.prog 44 #[.pointer (some ⟨K.r,0,none⟩)] w (IA w0 K a s mb v xs q n c (aG (K.S.bs.drop a) s)):=by
 obtain⟨t,hs⟩:=hr.src;have hlen:=hs.len;have hle:=hs.le;have J:(K.S.bs.drop a).length=K.S.n - a:=by rw[Qe,hlen]
 unfold aG
 by_cases h1:(K.S.bs.drop a).length<512
 ·rw[if_pos h1]
  exact(MR hr (by omega)).mono fun e w' h=>⟨⟨false,h.1⟩,h.2⟩
 ·rw[if_neg h1]
  have hl:a+512≤K.S.n:=by omega
  obtain⟨X,E⟩:∃X,(K.S.bs.drop a).take 512=X:=⟨_,rfl⟩
  rw[E]
  by_cases H:bZ X=true
  ·rw[if_pos H]
   refine(Vv hr X E hl H).mono ?_;rintro e w' ⟨rfl,a',I⟩;unfold LH;rw[List.drop_drop,J,Nat.sub_sub,show(K.S.bs.drop (a+512)).length=K.S.n - (a+512) by rw[Qe,hlen]]
   by_cases B:K.S.n - (a+512)<512
   ·rw[if_pos B,if_pos B]
    exact⟨⟨false,rfl⟩,I.bel⟩
   ·rw[if_neg B,if_neg B]
    by_cases A:bZ (K.S.bs.drop (a+512))=false
    ·rw[if_pos A,if_pos A]
     exact⟨⟨false,rfl⟩,I.bel⟩
    ·rw[if_neg A,if_neg A]
     by_cases D:s.iT=true∨s.name.isSome=true∨s.link.isSome=true
     ·rw[if_pos D,if_pos D]
      exact⟨⟨false,rfl⟩,I.bel⟩
     ·rw[if_neg D,if_neg D]
      exact⟨rfl,a',I⟩
  ·rw[if_neg H]
   have G:bZ X=false:=by simpa using H
   by_cases B:(aR X).2≠0
   ·rw[if_pos B]
    exact(JT hr X E hl G B).mono fun e w' h=>⟨⟨false,h.1⟩,h.2⟩
   ·rw[if_neg B]
    have A:aR X=((aR X).1,0):=Prod.ext rfl (Classical.byContradiction B)
    by_cases D:tZ (aR X).1.kind=true
    ·rw[if_pos D]
     refine OZ (Qy _ _ _) ?_;have h6:=D;unfold tZ at h6;simp only[Bool.or_eq_true,beq_iff_eq]at h6;rcases h6 with((h6|h6)|h6)|h6
     ·exact JS hr X E hl G _ A h6 hN
     ·exact JR hr X E hl G _ A h6 hN
     ·exact MQ hr X E hl G _ A h6 hN
     ·exact MO hr X E hl G _ A h6 hN
    ·rw[if_neg D]
     exact OZ (Rt _ _ _) (Vt hr X E hl G _ A (by simpa using D) hN)
end
end Mem
namespace Mem
open Mk Block Head Attr
theorem NJ (q:Option Addr) (n c:Nat):iI nU q n c=fun _=>none:=by
 funext k
 unfold iI nU;simp
def al1 (w:World) (bs:List UInt8) (e:Ending) (w':World):Prop:=
 ∃K:RK,e=.returned (.pointer (some ⟨K.r,0,none⟩))∧K.S.bs=bs∧Rd w w' K 0 nU none (.slice none 0 0) [] none 0 0
theorem Rx {w1:World} {S:Sv} (hg:w.heap.size≤g) (ho:S.off g) (hs:Block.Src w1 g S 0 0) (hk:Kept ag w w1):
 Rd w (((w1.alloc (.cells #[.map none] 128)).alloc (.map #[] 0)).alloc (.cells #[.pointer (some ⟨g,0,none⟩),.pointer (some ⟨w1.heap.size,0,none⟩),.map (some (w1.heap.size+1)),.slice none 0 0] 91))
  ⟨w1.heap.size+1+1,g,w1.heap.size,w1.heap.size+1,S⟩ 0 nU none (.slice none 0 0) [] none 0 0:=by
 have O:=hs.lt
 have I:Kept ag w1 (((w1.alloc (.cells #[.map none] 128)).alloc (.map #[] 0)).alloc (.cells #[.pointer (some ⟨g,0,none⟩),.pointer (some ⟨w1.heap.size,0,none⟩),.map (some (w1.heap.size+1)),.slice none 0 0] 91)):=
  (((Kept.refl ag w1).alloc _).alloc _).alloc _
 have E:=hk.size
 have M:∀y,y<w1.heap.size→¬Ot ⟨w1.heap.size+1+1,g,w1.heap.size,w1.heap.size+1,S⟩ none (.slice none 0 0) y:=fun y hy e=>by
  rcases e with e|e|e|e|e
  ·have e:y=w1.heap.size+1+1:=e;omega
  ·have e:y=w1.heap.size:=e;omega
  ·have e:y=w1.heap.size+1:=e;omega
  ·cases e
  ·cases e
 have N:=(St.new w1).kept (((Kept.refl ag (w1.alloc (.cells #[.map none] 128))).alloc (.map #[] 0)).alloc (.cells #[.pointer (some ⟨g,0,none⟩),.pointer (some ⟨w1.heap.size,0,none⟩),.map (some (w1.heap.size+1)),.slice none 0 0] 91)) (fun _ _=>id);have J:=(qG WZ (w1.alloc (.cells #[.map none] 128))).kept ((Kept.refl ag _).alloc (.cells #[.pointer (some ⟨g,0,none⟩),.pointer (some ⟨w1.heap.size,0,none⟩),.map (some (w1.heap.size+1)),.slice none 0 0] 91)) id;have L:=au.new ((w1.alloc (.cells #[.map none] 128)).alloc (.map #[] 0)) 91 #[.pointer (some ⟨g,0,none⟩),.pointer (some ⟨w1.heap.size,0,none⟩),.map (some (w1.heap.size+1)),.slice none 0 0];simp only[World.size_alloc]at J L
 exact {
  bel:=(hk.trans I).below (Qk _) (fun _ h=>h.elim)
  pE:=L
  src:=⟨0,hs.jq I⟩
  off:=ho
  st:=N
  map:=by rw[NJ];exact J
  own:=⟨rfl,fun h=>by omega⟩
  yw:=fun _=>rfl
  row:=⟨rfl,.inl ⟨rfl,rfl⟩⟩
  out:=rfl
  bodies:=fun x H=>by simp at H
  apart:=fun x H=>by simp at H
  sp:=fun A y hy=>M _ (qP hs.nB A hy)
  sq:=fun A y hy=>M _ (GR hs.Ym A hy)
  ne:=⟨by show w1.heap.size+1+1≠g;omega,by show w1.heap.size+1+1≠w1.heap.size;omega,by show w1.heap.size+1+1≠w1.heap.size+1;omega,by show g≠w1.heap.size;omega,by show g≠w1.heap.size+1;omega,by show w1.heap.size≠w1.heap.size+1;omega⟩
  Eh:=fun b B=>by cases B
  BD:=fun b B=>by cases B
  base:=⟨by show w.heap.size≤w1.heap.size+1+1;omega,hg,E,by show w.heap.size≤w1.heap.size+1;omega⟩
  many:=by show 0≤4096;omega
  gl:=(fun r D=>by cases D)
  ol:=⟨(fun r D=>by cases D),by show 0≤1048576;omega⟩
  nl:=fun t G=>by cases G
  ll:=fun t G=>by cases G}
theorem Ei (w:World) (p:Option Addr) (n c:Nat) (bs:List UInt8) (q:Option Addr) (m d:Nat) (zs:List Int) (hb:iC w p n bs) (hl:bs.length=n) (hn:n≤140737488351232) (hq:N4 w q m zs) (hz:zs.length=m) (hm:m*8≤140737488351232):
 Calls Tryz.prog 42 #[.slice p n c,.slice q m d] w (al1 w bs):=by
 have hN:=YK w p n c bs q m d zs hb hl hn hq hz hm;have M:=@run_makeMap Tryz.prog;clear hb hl hn hq hz hm
 go_enter Tryz.func42,Tryz.ntmps42
 go_wp2_with fail
 refine hN.mono ?_;rintro e A ⟨g,S,rfl,h1,B,H,I,D,J,L,E,G⟩;have F:=Qh (And.intro B (Rx h1 D E G));clear h1 B H I D J L E G hN;go_wp2;go_ret;exact⟨⟨A.heap.size+1+1,g,A.heap.size,A.heap.size+1,S⟩,rfl,F.out.1,F.out.2⟩
end Mem
namespace Mem
open Mk Block Head Attr Path Go.Shelf
theorem FL {fn:Func} (hf:fn.results=#[.tmp 4,.cell 5 32]) (tmps:Array Value) (w:World) (g:Nat) (v:Value) (ht:tmps.getD 5 undef=.pointer (some ⟨g,0,none⟩)) (hv:tmps.getD 4 undef=v)
 (a b:Int) (hb:au w g 32 #[.int .i64 a,.int .i64 b]):(results fn tmps).run Tryz.prog w=.ok (.tuple #[v,.agg #[.int .i64 a,.int .i64 b]]) w:=by
 have c0:=hb.cell 0;have c1:=hb.cell 1;simp only[Qc,Qa,Qb]at c0 c1;have hl:(loadVar 32 ⟨g,0,none⟩).run Tryz.prog w=.ok (.agg #[.int .i64 a,.int .i64 b]) w:=by go_simp
 have B:tmps[5]?.getD undef=.pointer (some ⟨g,0,none⟩):=by simpa using ht
 have A:tmps[4]?.getD undef=v:=by simpa using hv
 simp only[results,hf];simp[Result.andThen,B,A,asAddr,hl]
theorem Aa {n:Nat} {b:Nat} {t:TypeId} {cs:Array Value} (h:iC w p n bs) (hb:au w b t cs) (hs:∀(i:Nat) (x:Int),cs[i]? ≠some (.int .u8 x)) (h0:0<n) {y:Addr} (hy:p=some y):y.block≠b:=by
 obtain⟨A,o,rfl,_,hc⟩:=h.cell h0
 cases hy
 rintro rfl;have c0:=hc 0 h0;rw[hb.cell]at c0;exact hs _ _ c0
def zU (w:World) (bs:List UInt8) (e:Ending) (w':World):Prop:=
 ∃(p:Option Addr) (c:Nat) (xs:List MP),e=.returned (.tuple #[.slice p xs.length c,.agg #[.int .i64 (cu bs).2.1,.int .i64 ((cu bs).2.2:Nat)]])∧xs.length≤c∧c≤maxLen∧xs.map MP.m=(cu bs).1∧jI w' p xs.length xs∧Below w.heap.size w w'
theorem JK (w:World) (p:Option Addr) (n c:Nat) (bs:List UInt8) (q:Option Addr) (m d:Nat) (zs:List Int) (hb:iC w p n bs) (hl:bs.length=n) (hn:n≤140737488351232) (hq:N4 w q m zs) (hz:zs.length=m) (hm:m*8≤140737488351232) (hN:Need w):
 Calls Tryz.prog 18 #[.slice p n c,.slice q m d] w (zU w bs):=by
 obtain⟨W1,l⟩:∃W1,w.alloc (.cells #[.int .i64 0,.int .i64 0] 32)=W1:=⟨_,rfl⟩
 have O:Below w.heap.size w W1:=by rw[←l];exact(Below.refl _ w).alloc (Qk _) _
 have xA:au W1 w.heap.size 32 #[.int .i64 0,.int .i64 0]:=by rw[←l];exact au.new w _ _
 have M:=Ei W1 p n c bs q m d zs (hb.below O) hl hn (hq.kept (Kept.bj O ag) (fun _ _ _=>id)) hz hm;have T:=Qh O;have J:=Qh xA;have vy:=Qh (hN.below O);have Ij:=Qh hl;clear hb hl hn hq hz hm hN O xA
 go_enter Tryz.func18,Tryz.ntmps18
 go_upto_region 1 with fail
 clear l;go_wp2_with fail;refine M.mono ?_;rintro e w2 ⟨K,rfl,Ox,G⟩;have KD:=Qh Ox;have HR:=Qh G;clear Ox G M;go_wp2_with fail
 go_loopg [7,8,9] bs.length (fun g s7 s8 s9 wr=>Hid (∃(a:Nat) (s:RS) (mb:Option Nat) (v:Value) (xs:List MP) (q:Option Addr) (n c:Nat),Rd W1 wr K a s mb v xs q n c∧bY bs 0 nU=bY (bs.drop a) a s∧g=bs.length - a))
 case atStart=>exact Qh ⟨0,nU,none,.slice none 0 0,[],none,0,0,HR.out,by rw[List.drop_zero],rfl⟩
 case round=>
  obtain⟨a,s,mb,v,xs,q,n,c,G,N,rfl⟩:=hrel.out;obtain⟨t,hs⟩:=G.src;have hP:=zw wr K.g a t K.S hs;have D:=Vu G vy.out;rw[KD.out]at D;have x0:=G.c0;have Iw:=Qh G;have I:=Qh N;obtain⟨st,o⟩:∃st,aG (bs.drop a) s=st:=⟨_,rfl⟩
  rw[o]at D;have L:=Qh o;have Z:=J.out.below G.bel J.out.lt;clear G N hs o hrel;go_wp2_with fail;refine hP.mono ?_;rintro e w3 ⟨rfl,rfl⟩;go_wp2_with fail;refine D.mono ?_;clear D hP Z;intro e U f
  cases st with
  |fault er=>
   obtain⟨⟨b,rfl⟩,u⟩:=f;have ck:=DE L.out;have hE0:(er != 0)=true:=by simpa using ck
   have B:=J.out.below u J.out.lt;have r0:=B.cell 0;have r1:=B.cell 1;have f0:=B.frozen 0;have f1:=B.frozen 1;simp only[Qc,Qa,Qb]at r0 r1;have R:=Qh B;have si:=Qh u
   have E:Hid (cu bs=([],er,a)):=Qh (by
    show bY bs 0 nU=_
    rw[I.out,ke L.out])
   clear u ck B x0;go_wp2;refine bodyPost_ret (FL rfl _ _ w.heap.size _ rfl rfl er (a:Int) ((R.out.set 0 (.int .i64 er) (by decide:0<2)).set 1 (.int .i64 (a:Int)) (by decide:1<2))) rfl ?_;refine⟨none,0,[],?_,by simp,by decide,?_,yo _ _,?_⟩
   ·rw[E.out];rfl
   ·rw[E.out];rfl
   ·exact((T.out.trans (si.out.mono T.out.size)).setCell (p:=⟨w.heap.size,0,none⟩) (Qk _) _).setCell (p:=⟨w.heap.size,1,none⟩) (Qk _) _
  |done=>
   obtain⟨rfl,a',A⟩:=f;have B:=J.out.below A.bel J.out.lt;have r0:=B.cell 0;have r1:=B.cell 1;have f0:=B.frozen 0;have f1:=B.frozen 1;simp only[Qc,Qa,Qb]at r0 r1;have R:=Qh B;have x3:=A.c3;have H:=Qh A
   have E:Hid (cu bs=(s.out,0,0)):=Qh (by
    show bY bs 0 nU=_
    rw[I.out,nL L.out])
   clear A B x0;go_wp2
   have AZ:Below w.heap.size w ((U.setCell ⟨w.heap.size,0,none⟩ (.int .i64 0)).setCell ⟨w.heap.size,1,none⟩ (.int .i64 0)):=
    ((T.out.trans (H.out.bel.mono T.out.size)).setCell (p:=⟨w.heap.size,0,none⟩) (Qk _) _).setCell (p:=⟨w.heap.size,1,none⟩) (Qk _) _
   refine bodyPost_ret (FL rfl _ _ w.heap.size _ rfl rfl 0 0 ((R.out.set 0 (.int .i64 0) (by decide:0<2)).set 1 (.int .i64 0) (by decide:1<2))) rfl ?_
   have p7:Kept (aA w.heap.size) U ((U.setCell ⟨w.heap.size,0,none⟩ (.int .i64 0)).setCell ⟨w.heap.size,1,none⟩ (.int .i64 0)):=
    ((Kept.refl (aA w.heap.size) U).setCell (a:=⟨w.heap.size,0,none⟩) (.inr rfl) _).setCell (a:=⟨w.heap.size,1,none⟩) (.inr rfl) _
   have xE:=J.out.lt
   obtain⟨p5,c5,rfl,W,X,Y⟩:=oN (cg H.out.row p7 (fun k hk e=>by
    have h1:=(H.out.row.lt k hk).1;have h2:k=w.heap.size:=e
    omega)) (fun x hx=>(H.out.bodies x hx).kept p7 (fun h0 y hy e=>Aa (H.out.bodies x hx).nB R.out (fun i z hz=>by rcases i with _|_|i<;>simp at hz) h0 hy e))
   refine⟨p5,c5,xs,?_,W,X,?_,Y,AZ⟩
   ·rw[E.out];rfl
   ·rw[E.out];exact H.out.out
  |next k s'=>
   obtain⟨rfl,r,v',xs',q',n',c',A⟩:=f;have H:=Qh A;have Ar:=qK L.out
   have E:Hid (bY bs 0 nU=bY (bs.drop (a+k)) (a+k) s'):=Qh (by
    rw[I.out,kL L.out,List.drop_drop])
   have V:=Qh Ar;clear A Ar x0;go_wp2
   go_roundg (bs.length - (a+k))
   case measure=>have:=V.out;rw[Qe]at this;omega
   case rel=>exact Qh ⟨a+k,s',r,v',xs',q',n',c',H.out,E.out,rfl⟩
end Mem
namespace Mem
open Block Attr
variable {t:List UInt8} {k:Nat} {wz:World} {rs:bW}
theorem Ds {w:World} {B B':Nat} {e e':TypeId} {k':Nat} {v v':Value} {n n':Nat} {xs xs':List Value} (h:w.ownsRow B e k v n xs) (h':w.ownsRow B' e' k' v' n' xs') (he:e≠e'):∀b,v.ownBlock=some b→v'.ownBlock≠some b:=by
 intro b D A;rcases h.2 with⟨rfl,_⟩|⟨g,cap,cur,rfl,_,hg,_⟩
 ·simp[Value.ownBlock]at D
 rcases h'.2 with⟨rfl,_⟩|⟨g',aI8,aI9,rfl,_,hg',_⟩
 ·simp[Value.ownBlock]at A
 simp only[Value.ownBlock,Option.some.injEq]at D A;subst D;subst A;rw[hg]at hg'
 cases hg'
 exact he rfl
theorem YZ {w:World} (h:bG w p m rs) (h0:0<m) {y:Addr} (hy:p=some y):y.block<w.heap.size:=by
 obtain⟨b,o,he,A,_⟩:=h.2 h0;rw[hy]at he
 cases he
 exact A
theorem RV {S:Nat→Prop} {w w':World} (h:bG w p m rs) (hk:Kept S w w') (hn:0<m→∀a,p=some a→¬S a.block):bG w' p m rs:=by
 refine⟨h.1,fun A=>?_⟩;obtain⟨b,o,rfl,B,hc⟩:=h.2 A;have hs:=hk.block b B (hn A _ rfl);refine⟨b,o,rfl,Nat.lt_of_lt_of_le B hk.size,fun i hi=>?_⟩;have e:∀j,w'.cell? ⟨b,j,none⟩=w.cell? ⟨b,j,none⟩:=fun j=>by simp only[World.cell?,hs]
 rw[e,e];exact hc i hi
structure wC (w0 w:World) (bs:List UInt8) (a:Nat) (s:RS) (vo:Value) (xs:List MP) (vg:Value) (q:Option Addr) (n c:Nat) (nm lk:List UInt8) (hx hl hk:Bool):Prop where
 bel:Below w0.heap.size w0 w
 row:w.ownsRow w0.heap.size 48 8 vo xs.length (k8 xs)
 out:xs.map MP.m=s.out
 bodies:∀x∈xs,js w x
 bE:w.ownsRow w0.heap.size 121 2 vg s.bE.length (iQ s.bE)
 own:bG w q n s.own
 Hf:∀x∈xs,0<x.m.body.length→∀z,x.p=some z→vo.ownBlock≠some z.block∧vg.ownBlock≠some z.block
 He:0<n→∀z,q=some z→vo.ownBlock≠some z.block∧vg.ownBlock≠some z.block
 name:s.name=if hl then some nm else none
 link:s.link=if hk then some lk else none
 iT:s.iT=hx
 JB:∀r∈s.bE,r.2.length≤1048576
 JC:∀r∈s.own,r.2.length≤1048576
 uK:nm.length≤1048576∧lk.length≤1048576∧n≤1048576
 L0:s.bE.length≤a
 full:s.out.length≤4096
 le:a≤bs.length
 read:bY (bs.drop a) a s=cu bs
section
variable {w0 w w':World} {bs:List UInt8} {a:Nat} {s:RS} {vo:Value} {xs:List MP} {vg:Value} {q:Option Addr} {n c:Nat} {nm lk:List UInt8} {hx hl hk:Bool}
theorem R8 (w:World) (bs:List UInt8):wC w w bs 0 nU (.slice none 0 0) [] (.slice none 0 0) none 0 0 [] [] false false false where
 bel:=Below.refl _ _
 row:=World.ownsRow_nil _ _ _ _
 out:=rfl
 bodies:=fun x B=>by cases B
 bE:=World.ownsRow_nil _ _ _ _
 own:=⟨rfl,fun h=>absurd h (by omega)⟩
 Hf:=fun x B=>by cases B
 He:=fun h=>absurd h (by omega)
 name:=rfl
 link:=rfl
 iT:=rfl
 JB:=fun r A=>by cases A
 JC:=fun r A=>by cases A
 uK:=⟨Nat.zero_le _,Nat.zero_le _,Nat.zero_le _⟩
 L0:=Nat.zero_le _
 full:=Nat.zero_le _
 le:=Nat.zero_le _
 read:=rfl
theorem wC.below (h:wC w0 w bs a s vo xs vg q n c nm lk hx hl hk) (hb:Below w.heap.size w w'):wC w0 w' bs a s vo xs vg q n c nm lk hx hl hk where
 bel:=h.bel.trans (hb.mono h.bel.size)
 row:=iD h.row hb
 out:=h.out
 bodies:=fun x hx=>(h.bodies x hx).below hb
 bE:=iD h.bE hb
 own:=h.own.below hb
 Hf:=h.Hf
 He:=h.He
 name:=h.name
 link:=h.link
 iT:=h.iT
 JB:=h.JB
 JC:=h.JC
 uK:=h.uK
 L0:=h.L0
 full:=h.full
 le:=h.le
 read:=h.read
theorem wC.len (h:wC w0 w bs a s vo xs vg q n c nm lk hx hl hk):xs.length=s.out.length:=by have:=congrArg List.length h.out;simpa using this
theorem wC.fault (h:wC w0 w bs a s vo xs vg q n c nm lk hx hl hk) {e:Int} (hs:aG (bs.drop a) s=.fault e) (hb:Below wa.heap.size wa wz):
 zU wa bs (.returned (.tuple #[.slice none 0 0,.agg #[.int .i64 e,.int .i64 (a:Int)]])) wz:=by
 have hm:cu bs=([],e,a):=by rw[←h.read,ke hs]
 refine⟨none,0,[],?_,Qk _,by decide,?_,yo _ _,hb⟩
 ·rw[hm];rfl
 ·rw[hm];rfl
theorem wC.done (h:wC w0 w bs a s vo xs vg q n c nm lk hx hl hk) (hs:aG (bs.drop a) s=.done) (hg:g<w0.heap.size) (hX:au w g 32 #[.int .i64 0,.int .i64 0]) (hk:Kept (aA g) w wz) (hb:Below wa.heap.size wa wz):
 zU wa bs (.returned (.tuple #[vo,.agg #[.int .i64 0,.int .i64 0]])) wz:=by
 have hm:cu bs=(s.out,0,0):=by rw[←h.read,nL hs]
 obtain⟨p,c,rfl,h1,A,D⟩:=oN (cg h.row hk (fun k hk e=>by
  have h1:=(World.ownsRow.lt h.row k hk).1;have A:k=g:=e
  omega)) (fun x hx=>(h.bodies x hx).kept hk (fun B y hy e=>Aa (h.bodies x hx).nB hX (fun i z E=>by rcases i with _|_|i<;>simp at E) B hy e))
 refine⟨p,c,xs,?_,h1,A,?_,D,hb⟩
 ·rw[hm];rfl
 ·rw[hm];exact h.out
theorem wC.oP (h:wC w0 w bs a s vo xs vg q n c nm lk hx hl hk) {s':RS} (hs:aG (bs.drop a) s=.next k s'):a+k≤bs.length∧512≤k∧bY (bs.drop (a+k)) (a+k) s'=cu bs:=by
 obtain⟨h1,A⟩:=qK hs;rw[Qe]at A;have:=h.le;refine⟨by omega,h1,?_⟩;rw[←h.read,kL hs,List.drop_drop]
theorem wC.as2 (h:wC w0 w bs a s vo xs vg q n c nm lk hx hl hk) (hs:aG (bs.drop a) s=.next k {s with name:=some t}) (ht:t.length≤1048576):
 wC w0 w bs (a+k) {s with name:=some t} vo xs vg q n c t lk hx true hk:=
 {h with name:=rfl,uK:=⟨ht,h.uK.2⟩,le:=(h.oP hs).1,read:=(h.oP hs).2.2,L0:=Nat.le_trans h.L0 (Nat.le_add_right _ _)}
theorem wC.as1 (h:wC w0 w bs a s vo xs vg q n c nm lk hx hl hk) (hs:aG (bs.drop a) s=.next k {s with link:=some t}) (ht:t.length≤1048576):
 wC w0 w bs (a+k) {s with link:=some t} vo xs vg q n c nm t hx hl true:=
 {h with link:=rfl,uK:=⟨h.uK.1,ht,h.uK.2.2⟩,le:=(h.oP hs).1,read:=(h.oP hs).2.2,L0:=Nat.le_trans h.L0 (Nat.le_add_right _ _)}
theorem wC.as4 (h:wC w0 w bs a s vo xs vg q n c nm lk hx hl hk) (hs:aG (bs.drop a) s=.next k {s with iT:=true,own:=rs}) (hr:∀r∈rs,r.2.length≤1048576) (Eb:rs.length≤1048576)
 {w1:World} (h1:wC w0 w1 bs a s vo xs vg q n c nm lk hx hl hk) {q':Option Addr} {c':Nat} (hq:bG w q' rs.length rs) (vY:∀z,q'=some z→w1.heap.size≤z.block):
 wC w0 w bs (a+k) {s with iT:=true,own:=rs} vo xs vg q' rs.length c' nm lk true hl hk:=
 {h with
  own:=hq
  He:=fun _ z A=>⟨fun e=>by have:=(World.ownsRow.lt h1.row _ e).2;have:=vY z A;omega,fun e=>by have:=(World.ownsRow.lt h1.bE _ e).2;have:=vY z A;omega⟩
  iT:=rfl
  JC:=hr
  uK:=⟨h.uK.1,h.uK.2.1,Eb⟩
  le:=(h.oP hs).1
  read:=(h.oP hs).2.2
  L0:=Nat.le_trans h.L0 (Nat.le_add_right _ _)}
theorem wC.as0 (h:wC w0 w bs a s vo xs vg q n c nm lk hx hl hk) (hs:aG (bs.drop a) s=.next k {s with bE:=s.bE++rs}) (hr:∀r∈rs,r.2.length≤1048576) (Eb:rs.length≤k)
 {Zd:Value} (bM:w'.ownsRow w0.heap.size 121 2 Zd (s.bE++rs).length (iQ (s.bE++rs))) (hg:w.grownBy w' vg.ownBlock) (hn:jX w vg Zd):
 wC w0 w' bs (a+k) {s with bE:=s.bE++rs} vo xs Zd q n c nm lk hx hl hk:=by
 have D:Kept (fun b=>vg.ownBlock=some b) w w':=(Kept.refl _ w).grown hg (fun k hk=>.inr hk)
 have lt:∀{b:Nat},Zd.ownBlock=some b→b<w.heap.size→vg.ownBlock=some b:=fun E G=>by
  rcases hn _ E with h|h
  ·exact h
  ·omega
 exact
 {bel:=h.bel.trans (D.below h.bel.size (fun k hk=>(World.ownsRow.lt h.bE _ hk).1))
  row:=cg h.row D (Ds h.row h.bE (by decide))
  out:=h.out
  bodies:=fun x hx=>(h.bodies x hx).kept D (fun A z B=>(h.Hf x hx A z B).2)
  bE:=bM
  own:=RV h.own D (fun A z B=>(h.He A z B).2)
  Hf:=fun x hx A z B=>⟨(h.Hf x hx A z B).1,fun e=>(h.Hf x hx A z B).2 (lt e (qP (h.bodies x hx).nB A B))⟩
  He:=fun A z B=>⟨(h.He A z B).1,fun e=>(h.He A z B).2 (lt e (YZ h.own A B))⟩
  name:=h.name
  link:=h.link
  iT:=h.iT
  JB:=fun r Ba=>by
   rcases List.mem_append.1 Ba with Ba|Ba
   ·exact h.JB r Ba
   ·exact hr r Ba
  JC:=h.JC
  uK:=h.uK
  L0:=by have:=h.L0;show(s.bE++rs).length≤_;rw[Qf];omega
  full:=h.full
  le:=(h.oP hs).1
  read:=(h.oP hs).2.2}
theorem wC.as3 (h:wC w0 w bs a s vo xs vg q n c nm lk hx hl hk) {y:MP} (hs:aG (bs.drop a) s=.next k {s with out:=s.out++[y.m],own:=[],name:=none,link:=none,iT:=false}) (hf:s.out.length<4096)
 (hy:js w y) (hyo:0<y.m.body.length→∀z,y.p=some z→vo.ownBlock≠some z.block∧vg.ownBlock≠some z.block)
 {Ze:Value} (bM:w'.ownsRow w0.heap.size 48 8 Ze (xs++[y]).length (k8 (xs++[y]))) (hg:w.grownBy w' vo.ownBlock) (hn:jX w vo Ze):
 wC w0 w' bs (a+k) {s with out:=s.out++[y.m],own:=[],name:=none,link:=none,iT:=false} Ze (xs++[y]) vg none 0 0 [] [] false false false:=by
 have D:Kept (fun b=>vo.ownBlock=some b) w w':=(Kept.refl _ w).grown hg (fun k hk=>.inr hk)
 have lt:∀{b:Nat},Ze.ownBlock=some b→b<w.heap.size→vo.ownBlock=some b:=fun E I=>by
  rcases hn _ E with h|h
  ·exact h
  ·omega
 have all:∀x∈xs++[y],js w x∧(0<x.m.body.length→∀z,x.p=some z→vo.ownBlock≠some z.block∧vg.ownBlock≠some z.block):=fun x hx=>by
  rcases List.mem_append.1 hx with hx|hx
  ·exact⟨h.bodies x hx,h.Hf x hx⟩
  ·rw[List.mem_singleton.1 hx]
   exact⟨hy,hyo⟩
 exact
 {bel:=h.bel.trans (D.below h.bel.size (fun k hk=>(World.ownsRow.lt h.row _ hk).1))
  row:=bM
  out:=by rw[List.map_append,h.out];rfl
  bodies:=fun x hx=>(all x hx).1.kept D (fun A z B=>((all x hx).2 A z B).1)
  bE:=cg h.bE D (fun b E G=>Ds h.row h.bE (by decide) b G E)
  own:=⟨rfl,fun h=>absurd h (by omega)⟩
  Hf:=fun x hx A z B=>⟨fun e=>((all x hx).2 A z B).1 (lt e (qP (all x hx).1.nB A B)),((all x hx).2 A z B).2⟩
  He:=fun h=>absurd h (by omega)
  name:=rfl
  link:=rfl
  iT:=rfl
  JB:=h.JB
  JC:=fun r H=>by cases H
  uK:=⟨Nat.zero_le _,Nat.zero_le _,Nat.zero_le _⟩
  L0:=Nat.le_trans h.L0 (Nat.le_add_right _ _)
  full:=by show(s.out++[y.m]).length≤_;rw[Qf];simp only[List.length_cons,List.length_nil];omega
  le:=(h.oP hs).1
  read:=(h.oP hs).2.2}
end
theorem AX {w:World} {ops:Array Oper} {rest:List Oper} {o:Oper} {a:Act} {Q:Exit→Act→World→Prop} (vI:o.guard=none) (s x:Operand)
 (ho:o.op=.call {callee:=.builtin .append,args:=#[s,x],argTypes:=#[64,64]})
 (base:Nat) (v:Value) (n:Nat) (xs:bW) (hn:xs.length=n) (hs:a.eval s=v) (aK:w.ownsRow base 121 2 v n (iQ xs))
 (p:Option Addr) (m c:Nat) (rs:bW) (hx:a.eval x=.slice p m c) (hb:bG w p m rs) (qy:(n+m)*32≤140737488355328) (jx:base≤w.heap.size)
 (h:∀v' w',w'.ownsRow base 121 2 v' (xs++rs).length (iQ (xs++rs))→w.grownBy w' v.ownBlock→jX w v v'→wpList Tryz.prog ops Q rest (a.put o.dst v') w'):wpList Tryz.prog ops Q (o::rest) a w:=by
 obtain⟨i0,hi,M,J,L⟩:=info_parts BB;have hl:=hb.1;rcases p with _|ad
 ·have hm:m=0:=by
   rcases Nat.eq_zero_or_pos m with h0|h0
   ·exact h0
   ·obtain⟨_,_,he,_⟩:=hb.2 h0
    cases he
  subst hm;obtain rfl:rs=[]:=List.eq_nil_of_length_eq_zero hl
  have I:(Builtin.append_ #[64,64] o.type #[v,.slice none 0 c]).run Tryz.prog w=.ok v w:=by
   rcases aK.2 with⟨rfl,rfl⟩|⟨g,cap,cur,rfl,_,_,Jo,_⟩
   ·simp[Builtin.append_,run_underlying Tryz.underlying64,sizeOf,typeInfo,hi,Builtin.lenOf,Builtin.firstCells]
   ·simp[Builtin.append_,run_underlying Tryz.underlying64,sizeOf,typeInfo,hi,Builtin.lenOf,Builtin.firstCells,Jo,storeCells]
  refine wpList_plain vI fun K B=>?_
  unfold Oper.wp;simp[execOp,ho,resolve,invoke,builtin,hs,hx,I,Result.andThen];exact B _ _ (h v w (by rw[List.append_nil,hn];exact aK) (World.grownBy.refl w _) (jX.refl w v))
 ·obtain⟨v',w',H,D,E,G⟩:=kK (P:=Tryz.prog) base 64 o.type 121 i0 _ 2 32 Tryz.underlying64 hi M J L rfl (by decide) v n (iQ xs) aK ad m c (iQ rs) (by rw[qt,hl];omega) (by
   intro j u A
   have N:j<2*m:=by
    have:=(List.getElem?_eq_some_iff.1 A).1;rw[qt,hl]at this;exact this
   obtain⟨b,off,he,_,hc⟩:=hb.2 (by omega)
   cases he
   obtain⟨c0,c1⟩:=hc (j / 2) (by omega);obtain⟨g0,g1⟩:=zh rs (j / 2) (by omega);rw[Lib.add_plain];rcases Nat.mod_two_eq_zero_or_one j with Ao|Ao
   ·have e:j=2*(j / 2):=by omega
    rw[e]at A;rw[g0]at A
    cases A
    rw[show off+j=off+2*(j / 2) by omega];exact c0
   ·have e:j=2*(j / 2)+1:=by omega
    rw[e]at A;rw[g1]at A
    cases A
    rw[show off+j=off+2*(j / 2)+1 by omega]
    exact c1) (EV rs) (by unfold maxLen;omega) qy jx
  refine wpList_plain vI fun K B=>?_
  unfold Oper.wp;simp[execOp,ho,resolve,invoke,builtin,hs,hx,H,Result.andThen];rw[←EU,show n+m=(xs++rs).length by rw[Qf,hn,hl]]at D;exact B _ _ (h v' w' D E G)
end Mem
namespace Mem
open Head ur Path Block
theorem FP (p:Option Addr) (n c:Nat) (bs:List UInt8) (w:World) (hl:bs.length=n) (hm:n≤140737488351232) (h:iC w p n bs):
 Calls Tryz.prog 31 #[.slice p n c] w fun e w'=>e=.returned (.bool (bZ bs))∧w=w':=by
 have H:=Qh h;have B:=Qh hl;clear h hl
 go_enter Tryz.func31,Tryz.ntmps31
 go_wp2
 go_loop [3] (fun i=>∃(k:Nat),k≤n∧i=.int .i64 k∧Hid (bZ (bs.take k)=true)) (fun i=>n - (RowKit.intOf i).toNat)
 case atStart=>exact⟨0,Nat.zero_le _,rfl,Qh rfl⟩
 case round=>
  obtain⟨k,hk,rfl,L⟩:=hrel
  by_cases A:k<n
  ·obtain⟨b,o,rfl,V,hcell⟩:=H.out.cell A
   have hc:=hcell k A;clear hcell;have N:=Qh (FY bs k (by rw[B.out];exact A));have M:=Qh (Vj bs k (by rw[B.out];exact A));obtain⟨x,G⟩:∃x:Int,x=((bs.getD k 0).toNat:Int):=⟨_,rfl⟩
   rw[←G]at hc;have J:=Qh G;clear G
   by_cases D:x=0
   ·subst D
    have O:Hid (bZ (bs.take (k+1))=true):=Qh (by
     have I:bs.getD k 0=0:=UInt8.toNat.inj (by have:=J.out;simp only[UInt8.toNat_zero];omega);rw[N.out,I];have:=L.out;unfold bZ at this⊢;rw[List.all_append,this]
     rfl)
    go_wp2
    go_round
    case rel=>exact⟨k+1,by omega,by go_num,O⟩
    case measure=>simp[RowKit.intOf];omega
   ·have U:(x != 0)=true:=by simpa using D
    have E:Hid (bZ bs=false):=Qh (by
     unfold bZ;rw[Bool.eq_false_iff];intro R;have I:=List.all_eq_true.1 R _ M.out;have T:bs.getD k 0=0:=by simpa using I
     apply D;rw[J.out,T]
     rfl)
    go_wp2;go_ret;rw[E.out];exact⟨rfl,rfl⟩
  ·have E:Hid (bZ bs=true):=Qh (by
    have:=L.out
    rwa [List.take_of_length_le (by rw[B.out];omega)]at this)
   go_wp2;go_ret;rw[E.out];exact⟨rfl,rfl⟩
def qM (N a:Nat) (n:Int) (bs:List UInt8) (w:World) (e:Ending) (w':World):Prop:=
 w=w'∧(((2097152<n∨N - a<aw n.toNat)∧e=.returned (.tuple #[.slice none 0 0,.int .i64 (a:Int),.bool false]))∨
  (n≤2097152∧aw n.toNat≤N - a∧∃q d,e=.returned (.tuple #[.slice q n.toNat d,.int .i64 ((a+aw n.toNat:Nat):Int),.bool true])∧n.toNat≤d∧d≤maxLen∧iC w q n.toNat ((bs.drop a).take n.toNat)))
theorem J7 (h:(2097152:Int)<(m:Int)∨N - a<aw m):qM N a (m:Int) bs w (.returned (.tuple #[.slice none 0 0,.int .i64 (a:Int),.bool false])) w:=⟨rfl,.inl ⟨h,rfl⟩⟩
theorem Fz {m' d:Nat} (hm:m'=m) (h1:(m:Int)≤2097152) (h2:aw m≤N - a) (h3:m≤d) (h4:d≤maxLen) (h5:iC w q m ((bs.drop a).take m)) {B:Nat} (hB:aw m=B):
 qM N a (m:Int) bs w (.returned (.tuple #[.slice q m' d,.int .i64 ((a:Int)+(B:Int)),.bool true])) w:=by
 subst hm;exact⟨rfl,.inr ⟨h1,h2,q,d,by subst hB;rfl,h3,h4,h5⟩⟩
theorem sL (p:Option Addr) (N c:Nat) (bs:List UInt8) (w:World) (a:Nat) (n:Int) (hl:bs.length=N) (hm:N≤140737488351232) (hc:N≤c) (Bu:c≤maxLen) (h:iC w p N bs) (ha:a≤N) (h0:0≤n) (hn:n≤9223372036854775807):
 Calls Tryz.prog 33 #[.slice p N c,.int .i64 (a:Int),.int .i64 n] w (qM N a n bs w):=by
 have H:=Qh h;have T:=Qh hl;have HC:=Qh Bu;clear h hl Bu;obtain⟨m,rfl⟩:∃m:Nat,(m:Int)=n:=⟨n.toNat,by omega⟩
 by_cases U:(2097152:Int)<(m:Int)
 ·have E:Hid ((2097152:Int)<(m:Int)∨N - a<aw m):=Qh (.inl U)
  go_enter Tryz.func33,Tryz.ntmps33
  go_wp2
  go_ret3
  exact J7 E.out
 ·have hdiv:((m:Int)+511) / 512*512=((aw m:Nat):Int):=by unfold aw;omega
  have W:=(jL m).1;have L:=(jL m).2;obtain⟨B,J⟩:∃B,aw m=B:=⟨_,rfl⟩
  rw[J]at hdiv W L;have A:=Qh J;clear J
  by_cases M:N - a<B
  ·have I:(N:Int) - (a:Int)<(B:Int):=by omega
   have E:Hid ((2097152:Int)<(m:Int)∨N - a<aw m):=Qh (.inr (by rw[A.out];exact M))
   go_enter Tryz.func33,Tryz.ntmps33
   go_wp2
   go_ret3
   exact J7 E.out
  ·have I:¬((N:Int) - (a:Int)<(B:Int)):=by omega
   have G:=(H.out.drop (k:=a) (c:=c) ha hc T.out).take (k:=m) (by omega);have E:Hid ((m:Int)≤2097152∧aw m≤N - a∧m≤c - a):=Qh ⟨by omega,by rw[A.out];omega,by omega⟩;have X:a+m≤c:=by omega
   have V:a+m≤N:=by omega
   by_cases D:c=a
   ·rw[if_pos D]at G
    have O:=Qh G;have R:=Qh D;subst D;clear G
    go_enter Tryz.func33,Tryz.ntmps33
    go_wp2
    go_ret3
    exact Fz (d:=0) (m':=0) (by have:=E.out.2.2;omega) E.out.1 E.out.2.1 (by have:=E.out.2.2;omega) (by decide) O.out A.out
   ·rw[if_neg D]at G
    have O:=Qh G;clear G
    go_enter Tryz.func33,Tryz.ntmps33
    go_wp2
    go_ret3
    exact Fz rfl E.out.1 E.out.2.1 E.out.2.2 (Nat.le_trans (Nat.sub_le _ _) HC.out) O.out A.out
theorem Sy (bs:List UInt8) (k:Nat) (hk:k<bs.length) (h0:∀x∈bs.take k,x≠0) (h1:bs.getD k 0=0):av bs=bs.take k:=by
 have e:bs=bs.take k++0::bs.drop (k+1):=by
  have A:bs[k]=0:=by rw[←h1,List.getD,Qd hk];rfl
  rw[←A,←List.drop_eq_getElem_cons hk,List.take_append_drop]
 unfold av
 conv=>lhs;rw[e]
 rw[List.takeWhile_append_of_pos (fun x B=>by simpa using h0 x B)];simp
theorem NH (bs:List UInt8) (h0:∀x∈bs,x≠0):av bs=bs:=by
 have:=rA h0 0
 simpa using this
theorem Du (p:Option Addr) (n c:Nat) (bs:List UInt8) (w:World) (hl:bs.length=n) (hc:n≤c) (hm:n≤140737488351232) (h:iC w p n bs):
 Calls Tryz.prog 34 #[.slice p n c] w fun e w'=>e=.returned (.string (str (av bs)))∧w=w':=by
 have H:=Qh h;have A:=Qh hl;clear h hl
 go_enter Tryz.func34,Tryz.ntmps34
 go_wp2
 go_loop [3] (fun i=>∃(k:Nat),k≤n∧i=.int .i64 k∧Hid (∀x∈bs.take k,x≠0)) (fun i=>n - (RowKit.intOf i).toNat)
 case atStart=>exact⟨0,Nat.zero_le _,rfl,Qh (by simp)⟩
 case round=>
  obtain⟨k,hk,rfl,I⟩:=hrel
  by_cases D:k<n
  ·have O:=Qh (FY bs k (by rw[A.out];exact D))
   have N:=H.out.take (k:=k) (by omega);have L:(bs.take k).length=k:=by rw[Qg,A.out];omega
   obtain⟨b,o,rfl,U,hcell⟩:=H.out.cell D;have B:=iR (P:=Tryz.prog) N L 26 5 9 Tryz.underlying26 Tryz.underlying5 Tryz.underlying9 c;have hc:=hcell k D;clear hcell N L;obtain⟨x,J⟩:∃x:Int,x=((bs.getD k 0).toNat:Int):=⟨_,rfl⟩
   rw[←J]at hc;have M:=Qh J;clear J
   by_cases G:x=0
   ·subst G
    have E:Hid (av bs=bs.take k):=Qh (Sy bs k (by rw[A.out];exact D) I.out (UInt8.toNat.inj (by have:=M.out;simp only[UInt8.toNat_zero];omega)));go_wp2;go_ret;rw[E.out];exact⟨rfl,rfl⟩
   ·have T:(x==0)=false:=by simpa using G
    have R:Hid (∀y∈bs.take (k+1),y≠0):=Qh (fun y hy=>by
     rw[O.out,List.mem_append]at hy;rcases hy with hy|hy
     ·exact I.out y hy
     ·simp only[List.mem_singleton]at hy
      subst hy;intro h;apply G;rw[M.out,h]
      rfl)
    clear B;go_wp2
    go_round
    case rel=>exact⟨k+1,by omega,by go_num,R⟩
    case measure=>simp[RowKit.intOf];omega
  ·have E:Hid (av bs=bs):=Qh (NH bs (by
    have:=I.out
    rwa [List.take_of_length_le (by rw[A.out];omega)]at this))
   have B:=iR (P:=Tryz.prog) H.out A.out 26 5 9 Tryz.underlying26 Tryz.underlying5 Tryz.underlying9 c;go_wp2;go_ret;rw[E.out];exact⟨rfl,rfl⟩
end Mem
namespace Mem
open Head ur Path Block Attr
variable {hk hl hx:Bool} {Q:Exit→Act→World→Prop} {er:Int} {xs:List MP} {lk nm pt tg:List UInt8} {c b0 gm o0 qd qn:Nat} {s:RS} {DK Ib cD cE cF cG cH cI cJ cK cL cM cN cO cP cQ cR cT cU cV cW cX cY cZ dA dB dC dD dE dF dG dH dI dJ dK dL dM dN dO dP dQ dR dS dU dV dW dX dY dZ dc dd dh di dj dn dq dr dt du dv dw dx dy dz eA eB eC eD eE eF eG eH eI eJ eK eM eN eO eP eQ eR eS eT eU eV eW eX eY eZ ea eb ee ef eh ei ej eo et eu ew ey ez fA fB fC fD fE fF fG fH fI fJ fK fL fM fN fO fP fQ fR fS fT fU fV fW fX fY fZ fa fb fc ff fg fh fi fj fk fp fq fr ft fu fv fw fx fy fz gA gB gC gD gE gF gG gH gI gJ gK gL gM gN gO gP gQ gR gS gT gU gV gW gX gY gZ ga gh gj gn gq gr gu gv gw gy gz ia ib ic ie ig ij ik il im iq ir iu iv iw iy iz l8 l9 lA lB lC lD lE lF lG lH lI lJ lK lL lM lN lO lP lQ lR lS lT lU lV lW lX lY lZ lx ly lz mA mB mC mD mE mF mG mH mI mJ mK mL mM mN mO mP mQ mR mS mT mU mV mW mX mY mZ ma mc me mf mh mi mj ml mq mr mu my nV na nf ng nh ni nj nk np nr nt nu pW u0 u1 u2 u4 u5 u6 u7 u8 u9 vg vo xt xu u32 u64:Value} {W1 wc:World} {h h1:af}
def ZH:Code→Nat
 |.region k _ _=>k+1
 |.seq x _=>ZH x
 |_=>0
def Ak (n:Nat):Code→Option Code
 |.seq x y=>match Nat.beq (ZH x) (n+1)with
  |true=>some (.seq x y)
  |false=>match Ak n y with
   |some r=>some r
   |none=>Ak n x
 |.cond _ x y=>match Ak n x with
  |some r=>some r
  |none=>Ak n y
 |.block _ x=>Ak n x
 |.loop x=>Ak n x
 |.scope x=>Ak n x
 |_=>none
noncomputable def jc (n:Nat):Code:=(Tryz.f16.body.bind (Ak n)).getD .skip
structure MC (wa W1 wr:World) (bs:List UInt8) (a N c b0 o0:Nat) (s:RS) (vo:Value) (xs:List MP) (vg:Value) (q:Option Addr) (qn qd:Nat) (nm lk:List UInt8) (hx hl hk:Bool) (h:af):Prop where
 b1:Below wa.heap.size wa W1
 rd:wC W1 wr bs a s vo xs vg q qn qd nm lk hx hl hk
 box:au wr wa.heap.size 32 #[.int .i64 0,.int .i64 0]
 nB:iC wr (some ⟨b0,o0,none⟩) N bs
 CY:Need wr
 len:bs.length=N
 hN:N≤1000000000
 hc:N≤c
 Bu:c≤140737488351232
 ha:a+512≤N
 step:aG (bs.drop a) s=oo (bs.drop a) h s
 full:¬4096≤s.out.length
 kind:¬(h.kind≠48∧h.kind≠49∧h.kind≠50∧h.kind≠53)
structure MM (wr w:World) (g gm:Nat) (h1:af) (pt tg:List UInt8):Prop where
 sn:Below wr.heap.size wr w
 head:au w g 66 (aa h1)
 mem:au w gm 48 #[.string (str pt),.string (str tg),.int .u8 (h1.kind.toNat:Int),.int .i64 h1.mode,.int .i64 h1.uid,.int .i64 h1.gid,.int .i64 h1.time,.slice none 0 0]
 LV:wr.heap.size≤gm
theorem MM.below {w':World} (h:MM wr w g gm h1 pt tg) (hb:Below w.heap.size w w'):MM wr w' g gm h1 pt tg:=
 ⟨h.sn.trans (hb.mono h.sn.size),h.head.below hb h.head.lt,h.mem.below hb h.mem.lt,h.LV⟩
theorem MM.ne (h:MM wr w g gm h1 pt tg):gm≠g:=fun e=>by
 have h1:=h.head;have A:=h.mem;subst e;unfold au at h1 A;rw[h1]at A;simp only[Option.some.injEq,Obj.cells.injEq]at A;exact absurd A.2.1 (by decide)
theorem MM.aH7 (h:MM wr w g gm h1 pt tg) (p:List UInt8):MM wr (w.setCell ⟨gm,0,none⟩ (.string (str p))) g gm h1 p tg:=
 ⟨h.sn.setCell (p:=⟨gm,0,none⟩) h.LV _,h.head.other h.ne _,h.mem.set 0 _ (by decide:0<8),h.LV⟩
theorem MM.ax2 (h:MM wr w g gm h1 pt tg) (p:List UInt8):MM wr (w.setCell ⟨gm,1,none⟩ (.string (str p))) g gm h1 pt p:=
 ⟨h.sn.setCell (p:=⟨gm,1,none⟩) h.LV _,h.head.other h.ne _,h.mem.set 1 _ (by decide:1<8),h.LV⟩
def xK (wa:World) (a:Nat) (Q:Exit→Act→World→Prop) (er:Int):Prop:=
 ∀(T:Array Value) (w':World),T.getD 3 undef=.pointer (some ⟨wa.heap.size,0,none⟩)→T.getD 2 undef=.slice none 0 0→au w' wa.heap.size 32 #[.int .i64 er,.int .i64 (a:Int)]→Below wa.heap.size wa w'→Q .ret ⟨T,[]⟩ w'
def iX (wa:World) (a:Nat) (bs:List UInt8) (s:RS) (Q:Exit→Act→World→Prop):Prop:=∀er,aG (bs.drop a) s=.fault er→xK wa a Q er
theorem jJ {t:TypeId} (h:au wr g t #[.int .i64 0,.int .i64 0]) (hb:Below wr.heap.size wr wc):wc.cell? ⟨g,0,none⟩=some (.int .i64 0)∧wc.cell? ⟨g,1,none⟩=some (.int .i64 0)∧wc.frozen? ⟨g,0,none⟩=false∧wc.frozen? ⟨g,1,none⟩=false:=
 ⟨(h.below hb h.lt).cell 0,(h.below hb h.lt).cell 1,(h.below hb h.lt).frozen 0,(h.below hb h.lt).frozen 1⟩
theorem Ai (h1:Below w.heap.size w W1) (h2:Below W1.heap.size W1 wr) (h3:Below wr.heap.size wr wc) (u v:Value):Below w.heap.size w ((wc.setCell ⟨w.heap.size,0,none⟩ u).setCell ⟨w.heap.size,1,none⟩ v):=
 ((h1.trans ((h2.trans (h3.mono h2.size)).mono h1.size)).setCell (p:=⟨w.heap.size,0,none⟩) (Qk _) _).setCell (p:=⟨w.heap.size,1,none⟩) (Qk _) _
theorem EO (h:au wr g 32 #[.int .i64 0,.int .i64 0]) (hb:Below wr.heap.size wr wc) (a b:Int):au ((wc.setCell ⟨g,0,none⟩ (.int .i64 a)).setCell ⟨g,1,none⟩ (.int .i64 b)) g 32 #[.int .i64 a,.int .i64 b]:=
 ((h.below hb h.lt).set 0 (.int .i64 a) (by decide:0<2)).set 1 (.int .i64 b) (by decide:1<2)
theorem jW (hE:xK wa a Q er) (ae4:au wr wa.heap.size 32 #[.int .i64 0,.int .i64 0]) (b1:Below wa.heap.size wa W1) (b2:Below W1.heap.size W1 wr) (sn:Below wr.heap.size wr wc)
 (T:Array Value) (h3:T.getD 3 undef=.pointer (some ⟨wa.heap.size,0,none⟩)) (h2:T.getD 2 undef=.slice none 0 0):Q .ret ⟨T,[]⟩ ((wc.setCell ⟨wa.heap.size,0,none⟩ (.int .i64 er)).setCell ⟨wa.heap.size,1,none⟩ (.int .i64 (a:Int))):=
 hE T _ h3 h2 (EO ae4 sn er (a:Int)) (Ai b1 b2 sn _ _)
def bt (wa W1:World) (bs:List UInt8) (a N c:Nat) (p:Option Addr) (Q:Exit→Act→World→Prop) (ex:Exit):Prop:=
 ∀(T:Array Value) (w':World) (tu:Nat) (s':RS) (Ze:Value) (xs':List MP) (Zd:Value) (q':Option Addr) (qn' qd':Nat) (nm' lk':ByteArray) (hx' E8 ow:Bool),
  wC W1 w' bs tu s' Ze xs' Zd q' qn' qd' nm'.data.toList lk'.data.toList hx' E8 ow→a<tu→tu≤N→T.size=298→T.getD 0 undef=.slice p N c→T.getD 3 undef=.pointer (some ⟨wa.heap.size,0,none⟩)→
  T.getD 4 undef=Ze→T.getD 5 undef=Zd→T.getD 6 undef=.slice q' qn' qd'→T.getD 7 undef=.string nm'→T.getD 8 undef=.string lk'→T.getD 9 undef=.bool hx'→T.getD 10 undef=.bool E8→T.getD 11 undef=.bool ow→T.getD 12 undef=.int .i64 (tu:Int)→Q ex ⟨T,[]⟩ w'
theorem ax8 (C:MC wa W1 wr bs a N c b0 o0 s vo xs vg q qn qd nm lk hx hl hk h) (sn:Below wr.heap.size wr w) (ck:er≠0) (hE:xK wa a Q er):Code.wp Tryz.prog (jc 63) Q ⟨#[u0,u1,u2,.pointer (some ⟨wa.heap.size,0,none⟩),u4,u5,u6,u7,u8,u9,xt,xu,.int .i64 (a:Int),nV,Ib,DK,.int .i64 er,lx,ly,lz,lA,lB,pW,lC,lD,lE,lF,lG,lH,lI,lJ,lK,u32,lL,lM,lN,lO,lP,lQ,lR,lS,lT,lU,lV,lW,lX,lY,lZ,l8,l9,ma,mc,me,mf,mh,mi,mj,ml,mq,mr,mu,my,mA,mB,u64,mC,mD,mE,mF,mG,mH,mI,mJ,mK,mL,mM,mN,mO,mP,mQ,mR,mS,mT,mU,mV,mW,mX,mY,mZ,na,nf,ng,nh,ni,nj,nk,np,nr,nt,nu,cD,cE,cF,cG,cH,cI,cJ,cK,cL,cM,cN,cO,cP,cQ,cR,cT,cU,cV,cW,cX,cY,cZ,dc,dd,dh,di,dj,dn,dq,dr,dt,du,dv,dw,dx,dy,dz,dA,dB,dC,dD,dE,dF,dG,dH,dI,dJ,dK,dL,dM,dN,dO,dP,dQ,dR,dS,dU,dV,dW,dX,dY,dZ,ea,eb,ee,ef,eh,ei,ej,eo,et,eu,ew,ey,ez,eA,eB,eC,eD,eE,eF,eG,eH,eI,eJ,eK,eM,eN,eO,eP,eQ,eR,eS,eT,eU,eV,eW,eX,eY,eZ,fa,fb,fc,ff,fg,fh,fi,fj,fk,fp,fq,fr,ft,fu,fv,fw,fx,fy,fz,fA,fB,fC,fD,fE,fF,fG,fH,fI,fJ,fK,fL,fM,fN,fO,fP,fQ,fR,fS,fT,fU,fV,fW,fX,fY,fZ,ga,gh,gj,gn,gq,gr,gu,gv,gw,gy,gz,gA,gB,gC,gD,gE,gF,gG,gH,gI,gJ,gK,gL,gM,gN,gO,gP,gQ,gR,gS,gT,gU,gV,gW,gX,gY,gZ,ia,ib,ic,ie,ig,ij,ik,il,im,iq,ir,iu,iv,iw,iy,iz],[]⟩ w:=by
 have H:(er==0)=false:=by simpa using ck
 have I:(er != 0)=true:=by simpa using ck
 have HC:=Qh C;have A:=Qh sn;have D:=Qh hE;have G:=Qh ck;clear C sn hE ck
 conv=>arg 2;whnf
 refine wp_seq_k (fun K B=>?_);have E:=Qh B;clear B;obtain⟨J,L,f0,f1⟩:=jJ HC.out.box A.out;go_wp2;exact jW D.out HC.out.box HC.out.b1 HC.out.rd.bel A.out _ rfl rfl
theorem ax7 (C:MC wa W1 wr bs a N c b0 o0 s vo xs vg q qn qd nm lk hx hl hk h) (sn:Below wr.heap.size wr w) (ck:er≠0) (hE:xK wa a Q er):Code.wp Tryz.prog (jc 61) Q ⟨#[u0,u1,u2,.pointer (some ⟨wa.heap.size,0,none⟩),u4,u5,u6,u7,u8,u9,xt,xu,.int .i64 (a:Int),nV,Ib,DK,.int .i64 er,lx,ly,lz,lA,lB,pW,lC,lD,lE,lF,lG,lH,lI,lJ,lK,u32,lL,lM,lN,lO,lP,lQ,lR,lS,lT,lU,lV,lW,lX,lY,lZ,l8,l9,ma,mc,me,mf,mh,mi,mj,ml,mq,mr,mu,my,mA,mB,u64,mC,mD,mE,mF,mG,mH,mI,mJ,mK,mL,mM,mN,mO,mP,mQ,mR,mS,mT,mU,mV,mW,mX,mY,mZ,na,nf,ng,nh,ni,nj,nk,np,nr,nt,nu,cD,cE,cF,cG,cH,cI,cJ,cK,cL,cM,cN,cO,cP,cQ,cR,cT,cU,cV,cW,cX,cY,cZ,dc,dd,dh,di,dj,dn,dq,dr,dt,du,dv,dw,dx,dy,dz,dA,dB,dC,dD,dE,dF,dG,dH,dI,dJ,dK,dL,dM,dN,dO,dP,dQ,dR,dS,dU,dV,dW,dX,dY,dZ,ea,eb,ee,ef,eh,ei,ej,eo,et,eu,ew,ey,ez,eA,eB,eC,eD,eE,eF,eG,eH,eI,eJ,eK,eM,eN,eO,eP,eQ,eR,eS,eT,eU,eV,eW,eX,eY,eZ,fa,fb,fc,ff,fg,fh,fi,fj,fk,fp,fq,fr,ft,fu,fv,fw,fx,fy,fz,fA,fB,fC,fD,fE,fF,fG,fH,fI,fJ,fK,fL,fM,fN,fO,fP,fQ,fR,fS,fT,fU,fV,fW,fX,fY,fZ,ga,gh,gj,gn,gq,gr,gu,gv,gw,gy,gz,gA,gB,gC,gD,gE,gF,gG,gH,gI,gJ,gK,gL,gM,gN,gO,gP,gQ,gR,gS,gT,gU,gV,gW,gX,gY,gZ,ia,ib,ic,ie,ig,ij,ik,il,im,iq,ir,iu,iv,iw,iy,iz],[]⟩ w:=by
 have H:(er==0)=false:=by simpa using ck
 have I:(er != 0)=true:=by simpa using ck
 have HC:=Qh C;have G:=Qh sn;have B:=Qh hE;have E:=Qh ck;clear C sn hE ck
 conv=>arg 2;whnf
 refine wp_seq_k (fun K A=>?_);have D:=Qh A;clear A;go_wp2;exact D.out _ _ (ax8 HC.out G.out E.out B.out)
theorem ax6 (C:MC wa W1 wr bs a N c b0 o0 s vo xs vg q qn qd nm lk hx hl hk h) (sn:Below wr.heap.size wr w) (ck:er≠0) (hE:xK wa a Q er):Code.wp Tryz.prog (jc 59) Q ⟨#[u0,u1,u2,.pointer (some ⟨wa.heap.size,0,none⟩),u4,u5,u6,u7,u8,u9,xt,xu,.int .i64 (a:Int),nV,Ib,DK,.int .i64 er,lx,ly,lz,lA,lB,pW,lC,lD,lE,lF,lG,lH,lI,lJ,lK,u32,lL,lM,lN,lO,lP,lQ,lR,lS,lT,lU,lV,lW,lX,lY,lZ,l8,l9,ma,mc,me,mf,mh,mi,mj,ml,mq,mr,mu,my,mA,mB,u64,mC,mD,mE,mF,mG,mH,mI,mJ,mK,mL,mM,mN,mO,mP,mQ,mR,mS,mT,mU,mV,mW,mX,mY,mZ,na,nf,ng,nh,ni,nj,nk,np,nr,nt,nu,cD,cE,cF,cG,cH,cI,cJ,cK,cL,cM,cN,cO,cP,cQ,cR,cT,cU,cV,cW,cX,cY,cZ,dc,dd,dh,di,dj,dn,dq,dr,dt,du,dv,dw,dx,dy,dz,dA,dB,dC,dD,dE,dF,dG,dH,dI,dJ,dK,dL,dM,dN,dO,dP,dQ,dR,dS,dU,dV,dW,dX,dY,dZ,ea,eb,ee,ef,eh,ei,ej,eo,et,eu,ew,ey,ez,eA,eB,eC,eD,eE,eF,eG,eH,eI,eJ,eK,eM,eN,eO,eP,eQ,eR,eS,eT,eU,eV,eW,eX,eY,eZ,fa,fb,fc,ff,fg,fh,fi,fj,fk,fp,fq,fr,ft,fu,fv,fw,fx,fy,fz,fA,fB,fC,fD,fE,fF,fG,fH,fI,fJ,fK,fL,fM,fN,fO,fP,fQ,fR,fS,fT,fU,fV,fW,fX,fY,fZ,ga,gh,gj,gn,gq,gr,gu,gv,gw,gy,gz,gA,gB,gC,gD,gE,gF,gG,gH,gI,gJ,gK,gL,gM,gN,gO,gP,gQ,gR,gS,gT,gU,gV,gW,gX,gY,gZ,ia,ib,ic,ie,ig,ij,ik,il,im,iq,ir,iu,iv,iw,iy,iz],[]⟩ w:=by
 have H:(er==0)=false:=by simpa using ck
 have I:(er != 0)=true:=by simpa using ck
 have HC:=Qh C;have G:=Qh sn;have B:=Qh hE;have E:=Qh ck;clear C sn hE ck
 conv=>arg 2;whnf
 refine wp_seq_k (fun K A=>?_);have D:=Qh A;clear A;go_wp2;exact D.out _ _ (ax7 HC.out G.out E.out B.out)
theorem ax5 (C:MC wa W1 wr bs a N c b0 o0 s vo xs vg q qn qd nm lk hx hl hk h) (sn:Below wr.heap.size wr w) (ck:er≠0) (hE:xK wa a Q er):Code.wp Tryz.prog (jc 57) Q ⟨#[u0,u1,u2,.pointer (some ⟨wa.heap.size,0,none⟩),u4,u5,u6,u7,u8,u9,xt,xu,.int .i64 (a:Int),nV,Ib,DK,.int .i64 er,lx,ly,lz,lA,lB,pW,lC,lD,lE,lF,lG,lH,lI,lJ,lK,u32,lL,lM,lN,lO,lP,lQ,lR,lS,lT,lU,lV,lW,lX,lY,lZ,l8,l9,ma,mc,me,mf,mh,mi,mj,ml,mq,mr,mu,my,mA,mB,u64,mC,mD,mE,mF,mG,mH,mI,mJ,mK,mL,mM,mN,mO,mP,mQ,mR,mS,mT,mU,mV,mW,mX,mY,mZ,na,nf,ng,nh,ni,nj,nk,np,nr,nt,nu,cD,cE,cF,cG,cH,cI,cJ,cK,cL,cM,cN,cO,cP,cQ,cR,cT,cU,cV,cW,cX,cY,cZ,dc,dd,dh,di,dj,dn,dq,dr,dt,du,dv,dw,dx,dy,dz,dA,dB,dC,dD,dE,dF,dG,dH,dI,dJ,dK,dL,dM,dN,dO,dP,dQ,dR,dS,dU,dV,dW,dX,dY,dZ,ea,eb,ee,ef,eh,ei,ej,eo,et,eu,ew,ey,ez,eA,eB,eC,eD,eE,eF,eG,eH,eI,eJ,eK,eM,eN,eO,eP,eQ,eR,eS,eT,eU,eV,eW,eX,eY,eZ,fa,fb,fc,ff,fg,fh,fi,fj,fk,fp,fq,fr,ft,fu,fv,fw,fx,fy,fz,fA,fB,fC,fD,fE,fF,fG,fH,fI,fJ,fK,fL,fM,fN,fO,fP,fQ,fR,fS,fT,fU,fV,fW,fX,fY,fZ,ga,gh,gj,gn,gq,gr,gu,gv,gw,gy,gz,gA,gB,gC,gD,gE,gF,gG,gH,gI,gJ,gK,gL,gM,gN,gO,gP,gQ,gR,gS,gT,gU,gV,gW,gX,gY,gZ,ia,ib,ic,ie,ig,ij,ik,il,im,iq,ir,iu,iv,iw,iy,iz],[]⟩ w:=by
 have H:(er==0)=false:=by simpa using ck
 have I:(er != 0)=true:=by simpa using ck
 have HC:=Qh C;have G:=Qh sn;have B:=Qh hE;have E:=Qh ck;clear C sn hE ck
 conv=>arg 2;whnf
 refine wp_seq_k (fun K A=>?_);have D:=Qh A;clear A;go_wp2;exact D.out _ _ (ax6 HC.out G.out E.out B.out)
theorem ax4 (C:MC wa W1 wr bs a N c b0 o0 s vo xs vg q qn qd nm lk hx hl hk h) (sn:Below wr.heap.size wr w) (ck:er≠0) (hE:xK wa a Q er):Code.wp Tryz.prog (jc 55) Q ⟨#[u0,u1,u2,.pointer (some ⟨wa.heap.size,0,none⟩),u4,u5,u6,u7,u8,u9,xt,xu,.int .i64 (a:Int),nV,Ib,DK,.int .i64 er,lx,ly,lz,lA,lB,pW,lC,lD,lE,lF,lG,lH,lI,lJ,lK,u32,lL,lM,lN,lO,lP,lQ,lR,lS,lT,lU,lV,lW,lX,lY,lZ,l8,l9,ma,mc,me,mf,mh,mi,mj,ml,mq,mr,mu,my,mA,mB,u64,mC,mD,mE,mF,mG,mH,mI,mJ,mK,mL,mM,mN,mO,mP,mQ,mR,mS,mT,mU,mV,mW,mX,mY,mZ,na,nf,ng,nh,ni,nj,nk,np,nr,nt,nu,cD,cE,cF,cG,cH,cI,cJ,cK,cL,cM,cN,cO,cP,cQ,cR,cT,cU,cV,cW,cX,cY,cZ,dc,dd,dh,di,dj,dn,dq,dr,dt,du,dv,dw,dx,dy,dz,dA,dB,dC,dD,dE,dF,dG,dH,dI,dJ,dK,dL,dM,dN,dO,dP,dQ,dR,dS,dU,dV,dW,dX,dY,dZ,ea,eb,ee,ef,eh,ei,ej,eo,et,eu,ew,ey,ez,eA,eB,eC,eD,eE,eF,eG,eH,eI,eJ,eK,eM,eN,eO,eP,eQ,eR,eS,eT,eU,eV,eW,eX,eY,eZ,fa,fb,fc,ff,fg,fh,fi,fj,fk,fp,fq,fr,ft,fu,fv,fw,fx,fy,fz,fA,fB,fC,fD,fE,fF,fG,fH,fI,fJ,fK,fL,fM,fN,fO,fP,fQ,fR,fS,fT,fU,fV,fW,fX,fY,fZ,ga,gh,gj,gn,gq,gr,gu,gv,gw,gy,gz,gA,gB,gC,gD,gE,gF,gG,gH,gI,gJ,gK,gL,gM,gN,gO,gP,gQ,gR,gS,gT,gU,gV,gW,gX,gY,gZ,ia,ib,ic,ie,ig,ij,ik,il,im,iq,ir,iu,iv,iw,iy,iz],[]⟩ w:=by
 have H:(er==0)=false:=by simpa using ck
 have I:(er != 0)=true:=by simpa using ck
 have HC:=Qh C;have G:=Qh sn;have B:=Qh hE;have E:=Qh ck;clear C sn hE ck
 conv=>arg 2;whnf
 refine wp_seq_k (fun K A=>?_);have D:=Qh A;clear A;go_wp2;exact D.out _ _ (ax5 HC.out G.out E.out B.out)
theorem ax3 (C:MC wa W1 wr bs a N c b0 o0 s vo xs vg q qn qd nm lk hx hl hk h) (sn:Below wr.heap.size wr w) (ck:er≠0) (hE:xK wa a Q er):Code.wp Tryz.prog (jc 53) Q ⟨#[u0,u1,u2,.pointer (some ⟨wa.heap.size,0,none⟩),u4,u5,u6,u7,u8,u9,xt,xu,.int .i64 (a:Int),nV,Ib,DK,.int .i64 er,lx,ly,lz,lA,lB,pW,lC,lD,lE,lF,lG,lH,lI,lJ,lK,u32,lL,lM,lN,lO,lP,lQ,lR,lS,lT,lU,lV,lW,lX,lY,lZ,l8,l9,ma,mc,me,mf,mh,mi,mj,ml,mq,mr,mu,my,mA,mB,u64,mC,mD,mE,mF,mG,mH,mI,mJ,mK,mL,mM,mN,mO,mP,mQ,mR,mS,mT,mU,mV,mW,mX,mY,mZ,na,nf,ng,nh,ni,nj,nk,np,nr,nt,nu,cD,cE,cF,cG,cH,cI,cJ,cK,cL,cM,cN,cO,cP,cQ,cR,cT,cU,cV,cW,cX,cY,cZ,dc,dd,dh,di,dj,dn,dq,dr,dt,du,dv,dw,dx,dy,dz,dA,dB,dC,dD,dE,dF,dG,dH,dI,dJ,dK,dL,dM,dN,dO,dP,dQ,dR,dS,dU,dV,dW,dX,dY,dZ,ea,eb,ee,ef,eh,ei,ej,eo,et,eu,ew,ey,ez,eA,eB,eC,eD,eE,eF,eG,eH,eI,eJ,eK,eM,eN,eO,eP,eQ,eR,eS,eT,eU,eV,eW,eX,eY,eZ,fa,fb,fc,ff,fg,fh,fi,fj,fk,fp,fq,fr,ft,fu,fv,fw,fx,fy,fz,fA,fB,fC,fD,fE,fF,fG,fH,fI,fJ,fK,fL,fM,fN,fO,fP,fQ,fR,fS,fT,fU,fV,fW,fX,fY,fZ,ga,gh,gj,gn,gq,gr,gu,gv,gw,gy,gz,gA,gB,gC,gD,gE,gF,gG,gH,gI,gJ,gK,gL,gM,gN,gO,gP,gQ,gR,gS,gT,gU,gV,gW,gX,gY,gZ,ia,ib,ic,ie,ig,ij,ik,il,im,iq,ir,iu,iv,iw,iy,iz],[]⟩ w:=by
 have H:(er==0)=false:=by simpa using ck
 have I:(er != 0)=true:=by simpa using ck
 have HC:=Qh C;have G:=Qh sn;have B:=Qh hE;have E:=Qh ck;clear C sn hE ck
 conv=>arg 2;whnf
 refine wp_seq_k (fun K A=>?_);have D:=Qh A;clear A;go_wp2;exact D.out _ _ (ax4 HC.out G.out E.out B.out)
theorem aI0 (C:MC wa W1 wr bs a N c b0 o0 s vo xs vg q qn qd nm lk hx hl hk h) (sn:Below wr.heap.size wr w) (ck:er≠0) (hE:xK wa a Q er):Code.wp Tryz.prog (jc 51) Q ⟨#[u0,u1,u2,.pointer (some ⟨wa.heap.size,0,none⟩),u4,u5,u6,u7,u8,u9,xt,xu,.int .i64 (a:Int),nV,Ib,DK,.int .i64 er,lx,ly,lz,lA,lB,pW,lC,lD,lE,lF,lG,lH,lI,lJ,lK,u32,lL,lM,lN,lO,lP,lQ,lR,lS,lT,lU,lV,lW,lX,lY,lZ,l8,l9,ma,mc,me,mf,mh,mi,mj,ml,mq,mr,mu,my,mA,mB,u64,mC,mD,mE,mF,mG,mH,mI,mJ,mK,mL,mM,mN,mO,mP,mQ,mR,mS,mT,mU,mV,mW,mX,mY,mZ,na,nf,ng,nh,ni,nj,nk,np,nr,nt,nu,cD,cE,cF,cG,cH,cI,cJ,cK,cL,cM,cN,cO,cP,cQ,cR,cT,cU,cV,cW,cX,cY,cZ,dc,dd,dh,di,dj,dn,dq,dr,dt,du,dv,dw,dx,dy,dz,dA,dB,dC,dD,dE,dF,dG,dH,dI,dJ,dK,dL,dM,dN,dO,dP,dQ,dR,dS,dU,dV,dW,dX,dY,dZ,ea,eb,ee,ef,eh,ei,ej,eo,et,eu,ew,ey,ez,eA,eB,eC,eD,eE,eF,eG,eH,eI,eJ,eK,eM,eN,eO,eP,eQ,eR,eS,eT,eU,eV,eW,eX,eY,eZ,fa,fb,fc,ff,fg,fh,fi,fj,fk,fp,fq,fr,ft,fu,fv,fw,fx,fy,fz,fA,fB,fC,fD,fE,fF,fG,fH,fI,fJ,fK,fL,fM,fN,fO,fP,fQ,fR,fS,fT,fU,fV,fW,fX,fY,fZ,ga,gh,gj,gn,gq,gr,gu,gv,gw,gy,gz,gA,gB,gC,gD,gE,gF,gG,gH,gI,gJ,gK,gL,gM,gN,gO,gP,gQ,gR,gS,gT,gU,gV,gW,gX,gY,gZ,ia,ib,ic,ie,ig,ij,ik,il,im,iq,ir,iu,iv,iw,iy,iz],[]⟩ w:=by
 have H:(er==0)=false:=by simpa using ck
 have I:(er != 0)=true:=by simpa using ck
 have HC:=Qh C;have G:=Qh sn;have B:=Qh hE;have E:=Qh ck;clear C sn hE ck
 conv=>arg 2;whnf
 refine wp_seq_k (fun K A=>?_);have D:=Qh A;clear A;go_wp2;exact D.out _ _ (ax3 HC.out G.out E.out B.out)
theorem aD6 (C:MC wa W1 wr bs a N c b0 o0 s vo xs vg q qn qd nm lk hx hl hk h) (M:MM wr w g gm h1 pt tg) (Ye:jF h s=.ok (⟨pt,tg,h1.kind,h1.mode,h1.uid,h1.gid,h1.time,[]⟩,h1.size)) (h0:0≤h1.size) (KJ:h1.size≤1048576) (bL:iX wa a bs s Q) (aI:bt wa W1 bs a N c (some ⟨b0,o0,none⟩) Q .normal):Code.wp Tryz.prog (jc 65) Q ⟨#[.slice (some ⟨b0,o0,none⟩) N c,u1,u2,.pointer (some ⟨wa.heap.size,0,none⟩),vo,vg,u6,u7,u8,u9,xt,xu,.int .i64 (a:Int),nV,.int .i64 ((a:Int)+512),.pointer (some ⟨g,0,none⟩),.int .i64 0,lx,ly,lz,lA,lB,.pointer (some ⟨gm,0,none⟩),lC,lD,lE,lF,lG,lH,lI,lJ,lK,u32,lL,lM,lN,lO,lP,lQ,lR,lS,lT,lU,lV,lW,lX,lY,lZ,l8,l9,ma,mc,me,mf,mh,mi,mj,ml,mq,mr,mu,my,mA,mB,u64,mC,mD,mE,mF,mG,mH,mI,mJ,mK,mL,mM,mN,mO,mP,mQ,mR,mS,mT,mU,mV,mW,mX,mY,mZ,na,nf,ng,nh,ni,nj,nk,np,nr,nt,nu,cD,cE,cF,cG,cH,cI,cJ,cK,cL,cM,cN,cO,cP,cQ,cR,cT,cU,cV,cW,cX,cY,cZ,dc,dd,dh,di,dj,dn,dq,dr,dt,du,dv,dw,dx,dy,dz,dA,dB,dC,dD,dE,dF,dG,dH,dI,dJ,dK,dL,dM,dN,dO,dP,dQ,dR,dS,dU,dV,dW,dX,dY,dZ,ea,eb,ee,ef,eh,ei,ej,eo,et,eu,ew,ey,ez,eA,eB,eC,eD,eE,eF,eG,eH,eI,eJ,eK,eM,eN,eO,eP,eQ,eR,eS,eT,eU,eV,eW,eX,eY,eZ,fa,fb,fc,ff,fg,fh,fi,fj,fk,fp,fq,fr,ft,fu,fv,fw,fx,fy,fz,fA,fB,fC,fD,fE,fF,fG,fH,fI,fJ,fK,fL,fM,fN,fO,fP,fQ,fR,fS,fT,fU,fV,fW,fX,fY,fZ,ga,gh,gj,gn,gq,gr,gu,gv,gw,gy,gz,gA,gB,gC,gD,gE,gF,gG,gH,gI,gJ,gK,gL,gM,gN,gO,gP,gQ,gR,gS,gT,gU,gV,gW,gX,gY,gZ,ia,ib,ic,ie,ig,ij,ik,il,im,iq,ir,iu,iv,iw,iy,iz],[]⟩ w:=by
 have HC:=Qh C;have G:=Qh M;have br:=Qh bL;have kE:=Qh aI;clear C M bL aI;obtain⟨i0,hi,kh,jS,jU⟩:=info_parts qZ;have HI:=Qh hi;have rC:=Qh kh;have pX:=Qh jS;have pD:=Qh jU;obtain⟨sz,H⟩:∃sz:Nat,h1.size=(sz:Int):=⟨h1.size.toNat,by omega⟩
 have c7:w.cell? ⟨g,7,none⟩=some (.int .i64 (sz:Int)):=by rw[←H];exact G.out.head.cell 7
 have aC8:sz≤1048576:=by omega
 have I:=Qh Ye;have U:=Qh H;clear hi kh jS jU Ye H h0 KJ;have hN:=HC.out.hN;have KG:=HC.out.hc;have Zy:=HC.out.ha;have f:=sL (some ⟨b0,o0,none⟩) N c bs w (a+512) (sz:Int) HC.out.len (by omega) KG (by have:=HC.out.Bu;unfold maxLen;omega) (HC.out.nB.below G.out.sn) (by omega) (by omega) (by omega);rw[show((a+512:Nat):Int)=(a:Int)+512 by omega]at f;have J:=Qh f;clear f
 conv=>arg 2;whnf
 refine wp_seq_k (fun K hK=>?_);go_wp2_with fail;refine J.out.mono ?_;clear J;rintro e wz ⟨rfl,(⟨oH,rfl⟩|⟨hle,oE,q1,d1,rfl,Q3,SR,V⟩)⟩
 ·have E:Hid (aG (bs.drop a) s=.fault 2):=Qh (by
   rw[HC.out.step];refine Vh HC.out.full HC.out.kind I.out (sk ?_);rw[U.out,Qe,HC.out.len];rcases oH with oH|oH
   ·exact .inl oH
   ·exact .inr (by omega))
  clear oH;obtain⟨r0,r1,f0,f1⟩:=jJ HC.out.box G.out.sn;go_wp2;exact jW (br.out 2 E.out) HC.out.box HC.out.b1 HC.out.rd.bel G.out.sn _ rfl rfl
 ·simp only[Int.toNat_natCast]at oE Q3 V⊢
  obtain⟨T,R⟩:∃T,(bs.drop (a+512)).take sz=T:=⟨_,rfl⟩
  have Ul:=(jL sz).1
  have KD:Hid (kF (bs.drop a) h1.size=some (T,512+aw sz)):=Qh (by
   have:=sr (L:=bs.drop a) (n:=h1.size) (by rw[U.out];exact hle) (by rw[U.out,Qe,HC.out.len,Int.toNat_natCast];omega)
   rw[this,U.out,Int.toNat_natCast,List.drop_drop,R])
  have Oq:T.length=sz:=by rw[←R,Qg,Qe,HC.out.len];omega
  rw[R]at V
  have r:Hid (aG (bs.drop a) s=.next (512+aw sz) {s with out:=s.out++[⟨pt,tg,h1.kind,h1.mode,h1.uid,h1.gid,h1.time,T⟩],own:=[],name:=none,link:=none,iT:=false}):=Qh (by
   rw[HC.out.step];exact ar3 HC.out.full HC.out.kind I.out KD.out)
  obtain⟨tu,OJ⟩:∃tu,a+512+aw sz=tu:=⟨_,rfl⟩
  rw[OJ];have Z:Hid (tu=a+(512+aw sz)):=Qh (by omega);have BO:=Qh V;have W:=Qh Oq;clear oE V R Oq OJ hle SR Ul KD
  go_wp2_with (at_builtin;refine kt rfl _ _ 26 rfl w.heap.size 5 i0 Tryz.underlying26 HI.out rC.out pX.out pD.out _ 0 [] rfl (World.ownsRow_made w #[] 0 (Qk _) (by decide) rfl) q1 sz d1 T rfl (BO.out.alloc _) W.out ?d2 ?d3 ?_)
  case d2=>omega
  case d3=>simp
  intro v2 w2 aK aU;have o:j3 w2 w.heap.size v2 sz T:=by simpa [j3]using aK
  have jm:Kept ag w w2:=(((Kept.refl ag w).alloc _)).grown aU (by intro k hk;simp[Value.ownBlock]at hk;omega);have Ja:Below w.heap.size w w2:=jm.below (Qk _) (fun _ h=>h.elim);obtain⟨A,c2,rfl,Jl,Jn,cj,_,m⟩:=o.slice;have B:=G.out.below Ja;have y7:=B.mem.cell 7;have f7:=B.mem.frozen 7;simp only[Qc,Qa,Qb]at y7;have kr:=Qh B;have cB:=Qh cj;have S6:=Qh m;clear aK aU o jm Ja cj m B c7;go_upto_region 69 with fail;obtain⟨w3,hw⟩:∃w3,w2.setCell ⟨gm,7,none⟩ (.slice A sz c2)=w3:=⟨_,rfl⟩
  have D:au w3 gm 48 #[.string (str pt),.string (str tg),.int .u8 (h1.kind.toNat:Int),.int .i64 h1.mode,.int .i64 h1.uid,.int .i64 h1.gid,.int .i64 h1.time,.slice A sz c2]:=by rw[←hw];exact kr.out.mem.set 7 _ (by decide:7<8)
  have jC:Kept (aA gm) w2 w3:=by rw[←hw];exact(Kept.refl (aA gm) w2).setCell (a:=⟨gm,7,none⟩) (.inr rfl) _
  have kW:iC w3 A sz T:=cB.out.kept jC (fun _ y hy e=>by
   have h1:=(S6.out y hy).1;have d:y.block=gm:=e;have h3:=G.out.mem.lt
   omega)
  have l:Below wr.heap.size wr w3:=by rw[←hw];exact kr.out.sn.setCell (p:=⟨gm,7,none⟩) G.out.LV _
  have z0:=D.cell 0;have z1:=D.cell 1;have z2:=D.cell 2;have z3:=D.cell 3;have z4:=D.cell 4;have z5:=D.cell 5;have z6:=D.cell 6;have z7:=D.cell 7;simp only[Qc,Qa,Qb]at z0 z1 z2 z3 z4 z5 z6 z7;rw[hw];have O:=Qh (HC.out.rd.below l)
  have J:Hid (js w3 ⟨⟨pt,tg,h1.kind,h1.mode,h1.uid,h1.gid,h1.time,T⟩,A,c2⟩):=Qh (by
   refine⟨?_,?_,Jn⟩
   ·show iC w3 A T.length T
    rw[W.out];exact kW
   ·show T.length≤c2
    rw[W.out];exact Jl)
  have nR:Hid (0<T.length→∀z,A=some z→vo.ownBlock≠some z.block∧vg.ownBlock≠some z.block):=Qh (fun _ z hz=>by
   have h1:=(S6.out z hz).1;have h3:=G.out.sn.size
   exact⟨fun e=>by have d:=(World.ownsRow.lt HC.out.rd.row _ e).2;omega,fun e=>by have d:=(World.ownsRow.lt HC.out.rd.bE _ e).2;omega⟩)
  have X:Hid (au (w3.alloc (.cells #[.string (str pt),.string (str tg),.int .u8 (h1.kind.toNat:Int),.int .i64 h1.mode,.int .i64 h1.uid,.int .i64 h1.gid,.int .i64 h1.time,.slice A sz c2] 48)) w3.heap.size 48 (MP.cs ⟨⟨pt,tg,h1.kind,h1.mode,h1.uid,h1.gid,h1.time,T⟩,A,c2⟩)):=Qh (by
   have:=au.new w3 48 #[.string (str pt),.string (str tg),.int .u8 (h1.kind.toNat:Int),.int .i64 h1.mode,.int .i64 h1.uid,.int .i64 h1.gid,.int .i64 h1.time,.slice A sz c2];unfold MP.cs jB;simp only[W.out]
   exact this)
  have u:Hid (s.out.length<4096):=Qh (by have:=HC.out.full;omega);clear hw D jC kW l y7 f7
  go_wp2_with (at_builtin;refine DZ rfl _ _ rfl W1.heap.size vo xs rfl (iD O.out.row ((Below.refl _ _).alloc (Qk _) _)) w3.heap.size 1 ⟨⟨pt,tg,h1.kind,h1.mode,h1.uid,h1.gid,h1.time,T⟩,A,c2⟩ rfl X.out ?e1 ?e2 ?_)
  case e1=>have h1:=O.out.len;have d:=u.out;omega
  case e2=>have:=O.out.bel.size;simp;omega
  intro v4 w4 b hg t;have Y:Below w3.heap.size w3 (w3.alloc (.cells #[.string (str pt),.string (str tg),.int .u8 (h1.kind.toNat:Int),.int .i64 h1.mode,.int .i64 h1.uid,.int .i64 h1.gid,.int .i64 h1.time,.slice A sz c2] 48)):=(Below.refl _ _).alloc (Qk _) _;rw[show xs.length+1=(xs++[(⟨⟨pt,tg,h1.kind,h1.mode,h1.uid,h1.gid,h1.time,T⟩,A,c2⟩:MP)]).length by simp]at b;have Il:=Qh ((O.out.below Y).as3 (k:=512+aw sz) (y:=⟨⟨pt,tg,h1.kind,h1.mode,h1.uid,h1.gid,h1.time,T⟩,A,c2⟩) r.out u.out (J.out.below Y) nR.out b hg t);rw[←Z.out]at Il;clear b hg t Y z0 z1 z2 z3 z4 z5 z6 z7;go_wp2;exact kE.out _ _ tu _ _ _ _ none 0 0 ⟨#[]⟩ ⟨#[]⟩ false false false Il.out (by have:=Z.out;omega) (by have:=Z.out;have:=(HC.out.rd.oP r.out).1;have:=HC.out.len;omega) rfl rfl rfl rfl rfl rfl rfl rfl rfl rfl rfl rfl
theorem aD5 (C:MC wa W1 wr bs a N c b0 o0 s vo xs vg q qn qd nm lk hx hl hk h) (M:MM wr w g gm h1 pt tg) (Ye:jF h s=.ok (⟨pt,tg,h1.kind,h1.mode,h1.uid,h1.gid,h1.time,[]⟩,h1.size)) (h0:0≤h1.size) (KJ:h1.size≤1048576) (bL:iX wa a bs s Q) (aI:bt wa W1 bs a N c (some ⟨b0,o0,none⟩) Q .normal):Code.wp Tryz.prog (jc 63) Q ⟨#[.slice (some ⟨b0,o0,none⟩) N c,u1,u2,.pointer (some ⟨wa.heap.size,0,none⟩),vo,vg,u6,u7,u8,u9,xt,xu,.int .i64 (a:Int),nV,.int .i64 ((a:Int)+512),.pointer (some ⟨g,0,none⟩),.int .i64 0,lx,ly,lz,lA,lB,.pointer (some ⟨gm,0,none⟩),lC,lD,lE,lF,lG,lH,lI,lJ,lK,u32,lL,lM,lN,lO,lP,lQ,lR,lS,lT,lU,lV,lW,lX,lY,lZ,l8,l9,ma,mc,me,mf,mh,mi,mj,ml,mq,mr,mu,my,mA,mB,u64,mC,mD,mE,mF,mG,mH,mI,mJ,mK,mL,mM,mN,mO,mP,mQ,mR,mS,mT,mU,mV,mW,mX,mY,mZ,na,nf,ng,nh,ni,nj,nk,np,nr,nt,nu,cD,cE,cF,cG,cH,cI,cJ,cK,cL,cM,cN,cO,cP,cQ,cR,cT,cU,cV,cW,cX,cY,cZ,dc,dd,dh,di,dj,dn,dq,dr,dt,du,dv,dw,dx,dy,dz,dA,dB,dC,dD,dE,dF,dG,dH,dI,dJ,dK,dL,dM,dN,dO,dP,dQ,dR,dS,dU,dV,dW,dX,dY,dZ,ea,eb,ee,ef,eh,ei,ej,eo,et,eu,ew,ey,ez,eA,eB,eC,eD,eE,eF,eG,eH,eI,eJ,eK,eM,eN,eO,eP,eQ,eR,eS,eT,eU,eV,eW,eX,eY,eZ,fa,fb,fc,ff,fg,fh,fi,fj,fk,fp,fq,fr,ft,fu,fv,fw,fx,fy,fz,fA,fB,fC,fD,fE,fF,fG,fH,fI,fJ,fK,fL,fM,fN,fO,fP,fQ,fR,fS,fT,fU,fV,fW,fX,fY,fZ,ga,gh,gj,gn,gq,gr,gu,gv,gw,gy,gz,gA,gB,gC,gD,gE,gF,gG,gH,gI,gJ,gK,gL,gM,gN,gO,gP,gQ,gR,gS,gT,gU,gV,gW,gX,gY,gZ,ia,ib,ic,ie,ig,ij,ik,il,im,iq,ir,iu,iv,iw,iy,iz],[]⟩ w:=by
 have HC:=Qh C;have E:=Qh M;have G:=Qh bL;have H:=Qh aI;clear C M bL aI;have A:=Qh Ye;clear Ye
 conv=>arg 2;whnf
 refine wp_seq_k (fun K B=>?_);have D:=Qh B;clear B;go_wp2;exact D.out _ _ (aD6 HC.out E.out A.out h0 KJ G.out H.out)
theorem ar8 (C:MC wa W1 wr bs a N c b0 o0 s vo xs vg q qn qd nm lk hx hl hk h) (M:MM wr w g gm h1 (aF 9 6 h1.name).1 (pU h1)) (ha:bI h s h1 0) (h0:(aF 9 6 h1.name).2=0) (h2:iU h1.mode h1.uid h1.gid h1.time=true) (h3:wM h1) (h4:¬(h1.kind≠48∧h1.size≠0)) (h5:0≤h1.size) (bL:iX wa a bs s Q) (aI:bt wa W1 bs a N c (some ⟨b0,o0,none⟩) Q .normal):Code.wp Tryz.prog (jc 61) Q ⟨#[.slice (some ⟨b0,o0,none⟩) N c,u1,u2,.pointer (some ⟨wa.heap.size,0,none⟩),vo,vg,u6,u7,u8,u9,xt,xu,.int .i64 (a:Int),nV,.int .i64 ((a:Int)+512),.pointer (some ⟨g,0,none⟩),.int .i64 0,lx,ly,lz,lA,lB,.pointer (some ⟨gm,0,none⟩),lC,lD,lE,lF,lG,lH,lI,lJ,lK,u32,lL,lM,lN,lO,lP,lQ,lR,lS,lT,lU,lV,lW,lX,lY,lZ,l8,l9,ma,mc,me,mf,mh,mi,mj,ml,mq,mr,mu,my,mA,mB,u64,mC,mD,mE,mF,mG,mH,mI,mJ,mK,mL,mM,mN,mO,mP,mQ,mR,mS,mT,mU,mV,mW,mX,mY,mZ,na,nf,ng,nh,ni,nj,nk,np,nr,nt,nu,cD,cE,cF,cG,cH,cI,cJ,cK,cL,cM,cN,cO,cP,cQ,cR,cT,cU,cV,cW,cX,cY,cZ,dc,dd,dh,di,dj,dn,dq,dr,dt,du,dv,dw,dx,dy,dz,dA,dB,dC,dD,dE,dF,dG,dH,dI,dJ,dK,dL,dM,dN,dO,dP,dQ,dR,dS,dU,dV,dW,dX,dY,dZ,ea,eb,ee,ef,eh,ei,ej,eo,et,eu,ew,ey,ez,eA,eB,eC,eD,eE,eF,eG,eH,eI,eJ,eK,eM,eN,eO,eP,eQ,eR,eS,eT,eU,eV,eW,eX,eY,eZ,fa,fb,fc,ff,fg,fh,fi,fj,fk,fp,fq,fr,ft,fu,fv,fw,fx,fy,fz,fA,fB,fC,fD,fE,fF,fG,fH,fI,fJ,fK,fL,fM,fN,fO,fP,fQ,fR,fS,fT,fU,fV,fW,fX,fY,fZ,ga,gh,gj,gn,gq,gr,gu,gv,gw,gy,gz,gA,gB,gC,gD,gE,gF,gG,gH,gI,gJ,gK,gL,gM,gN,gO,gP,gQ,gR,gS,gT,gU,gV,gW,gX,gY,gZ,ia,ib,ic,ie,ig,ij,ik,il,im,iq,ir,iu,iv,iw,iy,iz],[]⟩ w:=by
 have HC:=Qh C;have B:=Qh M;have O:=Qh bL;have U:=Qh aI;clear C M bL aI;have c7:=B.out.head.cell 7;unfold aa at c7;simp only[Qc,Qa,Qb]at c7;have I:=Qh ha;have D:=Qh h0;have E:=Qh h2;have G:=Qh h3;have H:=Qh h4;have T:=Qh h5;clear ha h0 h2 h3 h4 h5
 conv=>arg 2;whnf
 refine wp_seq_k (fun K R=>?_);have J:=Qh R;clear R
 by_cases L:1048576<h1.size
 ·have A:=Qh L
  go_wp2;exact J.out _ _ (ax8 HC.out B.out.sn (by decide) (O.out 10 (by rw[HC.out.step];exact xl HC.out.full HC.out.kind (Vm I.out D.out E.out G.out H.out A.out))))
 ·have A:=Qh L
  go_wp2;exact J.out _ _ (aD5 HC.out B.out (ar5 I.out D.out E.out G.out H.out (by have:=A.out;omega)) T.out (by have:=A.out;omega) O.out U.out)
theorem ar7 (C:MC wa W1 wr bs a N c b0 o0 s vo xs vg q qn qd nm lk hx hl hk h) (M:MM wr w g gm h1 (aF 9 6 h1.name).1 (pU h1)) (ha:bI h s h1 0) (h0:(aF 9 6 h1.name).2=0) (h2:iU h1.mode h1.uid h1.gid h1.time=true) (h3:wM h1) (h5:0≤h1.size) (bL:iX wa a bs s Q) (aI:bt wa W1 bs a N c (some ⟨b0,o0,none⟩) Q .normal):Code.wp Tryz.prog (jc 59) Q ⟨#[.slice (some ⟨b0,o0,none⟩) N c,u1,u2,.pointer (some ⟨wa.heap.size,0,none⟩),vo,vg,u6,u7,u8,u9,xt,xu,.int .i64 (a:Int),nV,.int .i64 ((a:Int)+512),.pointer (some ⟨g,0,none⟩),.int .i64 0,lx,ly,lz,lA,lB,.pointer (some ⟨gm,0,none⟩),lC,lD,lE,lF,lG,lH,lI,lJ,lK,u32,lL,lM,lN,lO,lP,lQ,lR,lS,lT,lU,lV,lW,lX,lY,lZ,l8,l9,ma,mc,me,mf,mh,mi,mj,ml,mq,mr,mu,my,mA,mB,u64,mC,mD,mE,mF,mG,mH,mI,mJ,mK,mL,mM,mN,mO,mP,mQ,mR,mS,mT,mU,mV,mW,mX,mY,mZ,na,nf,ng,nh,ni,nj,nk,np,nr,nt,nu,cD,cE,cF,cG,cH,cI,cJ,cK,cL,cM,cN,cO,cP,cQ,cR,cT,cU,cV,cW,cX,cY,cZ,dc,dd,dh,di,dj,dn,dq,dr,dt,du,dv,dw,dx,dy,dz,dA,dB,dC,dD,dE,dF,dG,dH,dI,dJ,dK,dL,dM,dN,dO,dP,dQ,dR,dS,dU,dV,dW,dX,dY,dZ,ea,eb,ee,ef,eh,ei,ej,eo,et,eu,ew,ey,ez,eA,eB,eC,eD,eE,eF,eG,eH,eI,eJ,eK,eM,eN,eO,eP,eQ,eR,eS,eT,eU,eV,eW,eX,eY,eZ,fa,fb,fc,ff,fg,fh,fi,fj,fk,fp,fq,fr,ft,fu,fv,fw,fx,fy,fz,fA,fB,fC,fD,fE,fF,fG,fH,fI,fJ,fK,fL,fM,fN,fO,fP,fQ,fR,fS,fT,fU,fV,fW,fX,fY,fZ,ga,gh,gj,gn,gq,gr,gu,gv,gw,gy,gz,gA,gB,gC,gD,gE,gF,gG,gH,gI,gJ,gK,gL,gM,gN,gO,gP,gQ,gR,gS,gT,gU,gV,gW,gX,gY,gZ,ia,ib,ic,ie,ig,ij,ik,il,im,iq,ir,iu,iv,iw,iy,iz],[]⟩ w:=by
 have HC:=Qh C;have D:=Qh M;have R:=Qh bL;have V:=Qh aI;clear C M bL aI;have c7:=D.out.head.cell 7;have c2:=D.out.head.cell 2;unfold aa at c7 c2;simp only[Qc,Qa,Qb]at c7 c2;have J:=Qh ha;have G:=Qh h0;have H:=Qh h2;have I:=Qh h3;have T:=Qh h5;clear ha h0 h2 h3 h5
 conv=>arg 2;whnf
 refine wp_seq_k (fun K U=>?_);have L:=Qh U;clear U
 by_cases B:h1.kind=48
 ·have X:w.cell? ⟨g,2,none⟩=some (.int .u8 48):=by rw[c2,B];rfl
  have E:Hid (¬(h1.kind≠48∧h1.size≠0)):=Qh (fun h=>h.1 B);clear c2 B;go_wp2;exact L.out _ _ (ar8 HC.out D.out J.out G.out H.out I.out E.out T.out R.out V.out)
 ·have n48:((h1.kind.toNat:Int) != 48)=true:=by
   simp only[bne,Bool.not_eq_true',beq_eq_false_iff_ne];intro h;exact B (UInt8.toNat.inj (by simpa using (by omega:h1.kind.toNat=48)))
  by_cases A:h1.size=0
  ·have z0:(h1.size != 0)=false:=by simpa using A
   have E:Hid (¬(h1.kind≠48∧h1.size≠0)):=Qh (fun h=>h.2 A);clear B A;go_wp2;exact L.out _ _ (ar8 HC.out D.out J.out G.out H.out I.out E.out T.out R.out V.out)
  ·have z0:(h1.size != 0)=true:=by simpa using A
   have O:=Qh B;have W:=Qh A;clear B A;go_wp2;exact L.out _ _ (ax7 HC.out D.out.sn (by decide) (R.out 4 (by rw[HC.out.step];exact xl HC.out.full HC.out.kind (Vn J.out G.out H.out I.out O.out W.out))))
end Mem
namespace Attr
open Go.Shelf Head
variable {j:Nat} {V:Nat→List UInt8} {h hj:af}
def Av (h:af):Nat→Int
 |0=>h.uid|1=>h.gid|2=>h.time|_=>h.size
def setAt (h:af) (v:Int):Nat→af
 |0=>{h with uid:=v}|1=>{h with gid:=v}|2=>{h with time:=v}|_=>{h with size:=v}
def pA (V:Nat→List UInt8) (h:af):Nat→Option af
 |0=>some h
 |j+1=>match pA V h j with
  |some h'=>(jf (decide (j=2)) (V j) (Av h' j)).map fun v=>setAt h' v j
  |none=>none
def ud (V:Nat→List UInt8) (h:af):af:={h with name:=aE (V 4) h.name,link:=aE (V 5) h.link}
theorem xN (V:Nat→List UInt8) (h:af):jt V h=match pA V (ud V h) 4 with
 |some h'=>(h',0)
 |none=>(bg,4):=by
 unfold jt;simp only[pA,Av,setAt,ud,show decide (0=2)=false from rfl,show decide (1=2)=false from rfl,show decide (3=2)=false from rfl]
 cases jf false (V 0) h.uid with
 |none=>rfl
 |some u=>
  cases h1:jf false (V 1) h.gid with
  |none=>simp[h1]
  |some g=>
   cases A:jf true (V 2) h.time with
   |none=>simp[h1,A]
   |some t=>
    cases B:jf false (V 3) h.size with
    |none=>simp[h1,A,B]
    |some z=>simp[h1,A,B]
theorem Nz (j:Nat) (hn:pA V h j=none):∀k,pA V h (j+k)=none:=fun k=>by
 induction k with
 |zero=>exact hn
 |succ k ih=>rw[←Nat.add_assoc,pA,ih]
theorem four (h:j<4):j=0∨j=1∨j=2∨j=3:=by omega
theorem Vx (h:af) (hj:j<4):(aa h)[4+j]? =some (.int .i64 (Av h j)):=by
 rcases four hj with rfl|rfl|rfl|rfl<;>rfl
theorem YL (h:af) (v:Int) (hj:j<4) (hi:4+j<(aa h).size):(aa h).set (4+j) (.int .i64 v) hi=aa (setAt h v j):=by
 rcases four hj with rfl|rfl|rfl|rfl<;>rfl
theorem V7 (h:af) (hj:j<4):setAt h (Av h j) j=h:=by
 rcases four hj with rfl|rfl|rfl|rfl<;>rfl
def Fb:Array Value:=#[.string (str (aJ 0)),.string (str (aJ 1)),.string (str (aJ 2)),.string (str (aJ 3))]
def vP (g:Nat):Array Value:=#[.pointer (some ⟨g,4,none⟩),.pointer (some ⟨g,5,none⟩),.pointer (some ⟨g,6,none⟩),.pointer (some ⟨g,7,none⟩)]
theorem Q7 (hj:j<4):Fb[j]? =some (.string (str (aJ j))):=by
 rcases four hj with rfl|rfl|rfl|rfl<;>rfl
theorem J2 (g:Nat) (hj:j<4):(vP g)[j]? =some (.pointer (some ⟨g,4+j,none⟩)):=by
 rcases four hj with rfl|rfl|rfl|rfl<;>rfl
def zS (w wr:World) (V:Nat→List UInt8) (h:af) (j:Nat) (hj:af):Prop:=
 xy w wr hj∧au wr (w.heap.size+2) 9 Fb∧au wr (w.heap.size+3) 123 (vP w.heap.size)∧pA V (ud V h) j=some hj
theorem BZ (hs:pA V (ud V h) j=some hj) (hj4:j<4) (hn:jf (decide (j=2)) (V j) (Av hj j)=none):jt V h=(bg,4):=by
 have h1:pA V (ud V h) (j+1)=none:=by rw[pA,hs];simp[hn]
 have A:=Nz (j+1) h1 (4 - (j+1));rw[show j+1+(4 - (j+1))=4 by omega]at A;rw[xN,A]
theorem Lp (hs:pA V (ud V h) 4=some hj):jt V h=(hj,0):=by rw[xN,hs]
theorem zS.skip (hL:zS w wr V h j hj) (hj4:j<4) (hv:V j=[]):zS w wr V h (j+1) hj:=by
 refine⟨hL.1,hL.2.1,hL.2.2.1,?_⟩;rw[pA,hL.2.2.2];simp only[show jf (decide (j=2)) (V j) (Av hj j)=some (Av hj j)from if_pos hv,Option.map_some,V7 hj hj4]
theorem zS.put (hL:zS w wr V h j hj) (hj4:j<4) (hv:V j≠[]) (hN:sM (decide (j=2)) (V j)=some N):
 zS w (wr.setCell ⟨w.heap.size,4+j,none⟩ (.int .i64 (N:Int))) V h (j+1) (setAt hj (N:Int) j):=by
 have hi:4+j<(aa hj).size:=by show 4+j<9;omega
 have hk:Kept (aA w.heap.size) wr (wr.setCell ⟨w.heap.size,4+j,none⟩ (.int .i64 (N:Int))):=(Kept.refl (aA w.heap.size) _).setCell (a:=⟨w.heap.size,4+j,none⟩) (.inr rfl) _;refine⟨hL.1.put hk ?_,hL.2.1.other (by omega) _,hL.2.2.1.other (by omega) _,?_⟩
 ·have:=hL.1.2.1.set (4+j) (.int .i64 (N:Int)) hi
  rwa [YL hj _ hj4]at this
 ·rw[pA,hL.2.2.2]
  have e:jf (decide (j=2)) (V j) (Av hj j)=some (N:Int):=by
   unfold jf;rw[if_neg hv];unfold sM at hN;rw[hN];rfl
  simp only[e,Option.map_some]
theorem ag7 (hj:j<4):((str (aJ j)).toList==[109,116,105,109,101])=decide (j=2):=by
 rcases four hj with rfl|rfl|rfl|rfl<;>rw[ak]<;>rfl
theorem FB {time:Bool} {v:List UInt8} {old:Int} (hv:v≠[]) (h:sM time v=none):jf time v old=none:=by
 unfold jf;rw[if_neg hv];unfold sM at h;rw[h];rfl
theorem M9 (q:Option Addr) (m d:Nat) (gs:bW) (p:Option Addr) (n c:Nat) (rs:bW) (h:af) (w:World) (hm:m≤4611686018427387904) (hn:n≤4611686018427387904) (h1:bG w q m gs) (h2:bG w p n rs)
 (hl:∀i,i<6→(jw (aD gs) rs (aJ i)).length≤140737488351232):
 Calls Tryz.prog 36 #[.slice q m d,.slice p n c,.agg (aa h)] w fun e w'=>e=.returned (oF (cC (aD gs) rs h))∧Below w.heap.size w w':=by
 obtain⟨V,hV⟩:∃V:Nat→List UInt8,V=fun i=>jw (aD gs) rs (aJ i):=⟨_,rfl⟩
 have CV:Hid (∀(i:Nat) (wi:World),Below w.heap.size w wi→Calls Tryz.prog 68 #[.slice q m d,.slice p n c,.string (str (aJ i))] wi fun e w'=>e=.returned (.string (str (V i)))∧wi=w'):=
  Qh (fun i wi hb=>by rw[hV];exact Np q m d gs p n c rs (aJ i) wi hm hn (h1.below hb) (h2.below hb))
 have HL:Hid (∀i,i<6→(V i).length≤140737488351232):=Qh (by rw[hV];exact hl);rw[show cC (aD gs) rs h=jt V h by rw[hV];rfl];clear hl h1 h2 hm hn hV;obtain⟨U,hU⟩:∃U:af × Int,jt V h=U:=⟨_,rfl⟩
 rw[hU];have HU:=Qh hU;clear hU;simp only[aa]
 go_enter Tryz.func36,Tryz.ntmps36
 go_wp2_with fail
 have H:Hid (xy w ((w.alloc (.cells (aa h) 66)).alloc (.cells (aa bg) 66)) h∧((w.alloc (.cells (aa h) 66)).alloc (.cells (aa bg) 66)).heap.size=w.heap.size+2):=by
  have b1:=au.new (w.alloc (.cells (aa h) 66)) 66 (aa bg);rw[World.size_alloc]at b1;exact Qh ⟨⟨((Below.refl _ w).alloc (Qk _) _).alloc (by simp) _,(au.new w 66 (aa h)).alloc _,b1⟩,by simp⟩
 simp only[aa,bg]at H;obtain⟨W1,jK⟩:∃W1,(w.alloc (.cells #[.string (str h.name),.string (str h.link),.int .u8 (h.kind.toNat:Int),.int .i64 h.mode,.int .i64 h.uid,.int .i64 h.gid,.int .i64 h.time,.int .i64 h.size,.bool h.j7] 66)).alloc (.cells #[.string (str []),.string (str []),.int .u8 ((0:UInt8).toNat:Int),.int .i64 0,.int .i64 0,.int .i64 0,.int .i64 0,.int .i64 0,.bool false] 66)=W1:=⟨_,rfl⟩
 rw[jK]at H;have f:(w.alloc (.cells #[.string (str h.name),.string (str h.link),.int .u8 (h.kind.toNat:Int),.int .i64 h.mode,.int .i64 h.uid,.int .i64 h.gid,.int .i64 h.time,.int .i64 h.size,.bool h.j7] 66)).alloc (.cells #[.string ⟨#[]⟩,.string ⟨#[]⟩,.int .u8 0,.int .i64 0,.int .i64 0,.int .i64 0,.int .i64 0,.int .i64 0,.bool false] 66)=W1:=jK;rw[f];clear jK f;refine(CV.out 4 _ H.out.1.1).mono ?_;rintro e w1 ⟨rfl,rfl⟩;obtain⟨E4,l⟩:∃E,(str (V 4)).toList.isEmpty=E:=⟨_,rfl⟩
 go_upto_if 20 with fail
 go_cut [] (fun wx=>Hid (xy w wx {h with name:=aE (V 4) h.name}∧wx.heap.size=w.heap.size+2))
 case first=>
  have c0:=H.out.1.2.1.cell 0;have f0:=H.out.1.2.1.frozen 0;simp only[aa,Qc,Qa]at c0;have Z:Hid (E4=true↔V 4=[]):=Qh (by rw[←l,bh];simp)
  cases E4 with
  |true=>
   go_wp2;go_meet
   exact Qh (by rw[show aE (V 4) h.name=h.name from if_pos (by simpa using Z.out)];exact H.out)
  |false=>
   go_wp2;go_meet
   exact Qh (by
    rw[show aE (V 4) h.name=V 4 from if_neg (by simpa using Z.out)]
    exact⟨H.out.1.put (h':={h with name:=V 4}) ((Kept.refl (aA w.heap.size) _).setCell (a:=⟨w.heap.size,0,none⟩) (.inr rfl) _) (H.out.1.2.1.set 0 _ (by show 0<9;decide)),by rw[World.size_setCell];exact H.out.2⟩)
 case rest=>
  obtain⟨W2,rfl⟩:∃x,x=wc:=⟨_,rfl⟩
  have I:Hid (xy w W2 {h with name:=aE (V 4) h.name}∧W2.heap.size=w.heap.size+2):=hcut;clear hcut H;go_wp2_with fail;refine(CV.out 5 _ I.out.1.1).mono ?_;rintro e w3 ⟨rfl,rfl⟩;obtain⟨E5,o⟩:∃E,(str (V 5)).toList.isEmpty=E:=⟨_,rfl⟩
  go_upto_if 27 with fail
  go_cut [] (fun wx=>Hid (xy w wx (ud V h)∧wx.heap.size=w.heap.size+2))
  case first=>
   have c0:=I.out.1.2.1.cell 1;have f0:=I.out.1.2.1.frozen 1;simp only[aa,Qc,Qa,Qb]at c0;have b:Hid (E5=true↔V 5=[]):=Qh (by rw[←o,bh];simp)
   cases E5 with
   |true=>
    go_wp2;go_meet
    exact Qh (by unfold ud;rw[show aE (V 5) h.link=h.link from if_pos (by simpa using b.out)];exact I.out)
   |false=>
    go_wp2;go_meet
    exact Qh (by
     unfold ud;rw[show aE (V 5) h.link=V 5 from if_neg (by simpa using b.out)]
     exact⟨I.out.1.put (h':={h with name:=aE (V 4) h.name,link:=V 5}) ((Kept.refl (aA w.heap.size) _).setCell (a:=⟨w.heap.size,1,none⟩) (.inr rfl) _) (I.out.1.2.1.set 1 _ (by show 1<9;decide)),by rw[World.size_setCell];exact I.out.2⟩)
  case rest=>
   obtain⟨M,rfl⟩:∃x,x=wc:=⟨_,rfl⟩
   have oW:Hid (xy w M (ud V h)∧M.heap.size=w.heap.size+2):=hcut;clear hcut I l o;have O:=oW.out.2;go_wp2_with fail
   have J:Hid (zS w ((M.alloc (.cells Fb 9)).alloc (.cells (vP w.heap.size) 123)) V h 0 (ud V h)):=Qh (by
    have hk:=(au.new M 9 Fb).alloc (.cells (vP w.heap.size) 123);have hp:=au.new (M.alloc (.cells Fb 9)) 123 (vP w.heap.size);rw[World.size_alloc,O]at hp;rw[O]at hk
    exact⟨oW.out.1.below (((Below.refl _ _).alloc (Qk _) _).alloc (by simp) _),hk,hp,rfl⟩)
   clear oW;simp only[Fb,vP]at J;obtain⟨W4,yc⟩:∃W4,(M.alloc (.cells #[.string (str (aJ 0)),.string (str (aJ 1)),.string (str (aJ 2)),.string (str (aJ 3))] 9)).alloc (.cells #[.pointer (some ⟨w.heap.size,4,none⟩),.pointer (some ⟨w.heap.size,5,none⟩),.pointer (some ⟨w.heap.size,6,none⟩),.pointer (some ⟨w.heap.size,7,none⟩)] 123)=W4:=⟨_,rfl⟩
   rw[yc]at J;have g:(M.alloc (.cells #[.string ⟨#[117,105,100]⟩,.string ⟨#[103,105,100]⟩,.string ⟨#[109,116,105,109,101]⟩,.string ⟨#[115,105,122,101]⟩] 9)).alloc (.cells #[.pointer (some ⟨w.heap.size,4,none⟩),.pointer (some ⟨w.heap.size,5,none⟩),.pointer (some ⟨w.heap.size,6,none⟩),.pointer (some ⟨w.heap.size,7,none⟩)] 123)=W4:=yc;rw[g];clear yc g O
   go_loopw [12] (fun i wr=>∃(j:Nat) (T:af),j≤4∧i=.int .i64 (j:Int)∧Hid (zS w wr V h j T)) (fun i _=>4 - (RowKit.intOf i).toNat)
   case atStart=>exact⟨0,ud V h,by omega,rfl,J⟩
   case round=>
    obtain⟨j,T,hj4,rfl,B⟩:=hrel
    by_cases G:j<4
    ·have qX:(j:Int)<4:=by omega
     have k0:=B.out.2.1.cell j;rw[Q7 G]at k0;have p0:=B.out.2.2.1.cell j;rw[J2 _ G]at p0;have g0:=B.out.1.2.1.cell (4+j);rw[Vx T G]at g0;have g1:=B.out.1.2.1.frozen (4+j);have Pp:=Qh G;have GH:=ag7 G;go_wp2_with fail;refine(CV.out j _ B.out.1.1).mono ?_;rintro e w5 ⟨rfl,rfl⟩;have HLV:=Qh (HL.out j (by omega))
     by_cases W:V j=[]
     ·have v1:(str (V j)).toList.isEmpty=true:=by rw[bh];simpa using W
      have X:=Qh (B.out.skip G W);clear W;go_wp2;go_roundw
      case rel=>exact⟨j+1,T,by omega,by go_num,X⟩
      case measure=>simp[RowKit.intOf];omega
     ·have v1:(str (V j)).toList.isEmpty=false:=by rw[bh];simpa using W
      have HV:=Qh W;have hw:=fun w=>sR (str (V j)) w
      have hs:=fun w=>V4 (str (V j)) w (by rw[ax];exact HLV.out)
      simp only[aS,sQ]at hw hs;clear W
      by_cases R:j=2
      ·rw[decide_eq_true R]at GH
       have Y:Hid (sM (decide (j=2)) (V j)=rH (V j)):=Qh (by rw[decide_eq_true R];rfl);clear R
       cases D:rH (V j)with
       |none=>
        have HF:Hid (jt V h=(bg,4)):=Qh (BZ B.out.2.2.2 G (FB HV.out (by rw[Y.out,D])));rw[D]at hs;clear D;have L:=Qh hw;have NY:=Qh hs;clear hw hs;go_wp2_with fail;refine(L.out _).mono ?_;rintro e w6 ⟨rfl,rfl⟩;go_wp2_with fail;refine(NY.out _).mono ?_;rintro e w7 ⟨rfl,rfl⟩;have A:=B.out.1.2.2;have r:=A.cell 0;have f0:=A.frozen 0;have t:=A.cell 1;have f1:=A.frozen 1;have u:=A.cell 2;have f2:=A.frozen 2;have y:=A.cell 3;have f3:=A.frozen 3;have z:=A.cell 4;have f4:=A.frozen 4;have r5:=A.cell 5;have f5:=A.frozen 5;have r6:=A.cell 6;have f6:=A.frozen 6;have r7:=A.cell 7;have f7:=A.frozen 7;have r8:=A.cell 8;have f8:=A.frozen 8;simp only[aa,bg,Qc,Qa,Qb]at r t u y z r5 r6 r7 r8;clear A;go_wp2;refine bodyPost_ret (og rfl _ _ (w.heap.size+1) _ rfl rfl bg (uy B.out.1.2.2 _ _ _ _ _ _ _ _ _)) rfl ?_;exact⟨by rw[←HU.out,HF.out];rfl,o5 B.out.1.1 (by omega) _ _ _ _ _ _ _ _ _⟩
       |some N=>
        have X:=Qh (B.out.put G HV.out (by rw[Y.out,D]));rw[D]at hs;clear D;have L:=Qh hw;have NY:=Qh hs;clear hw hs;go_wp2_with fail;refine(L.out _).mono ?_;rintro e w6 ⟨rfl,rfl⟩;go_wp2_with fail;refine(NY.out _).mono ?_;rintro e w7 ⟨rfl,rfl⟩;rw[show JQ (some N)=(N:Int)from rfl];go_wp2;go_roundw
        case rel=>exact⟨j+1,_,by omega,by go_num,X⟩
        case measure=>simp[RowKit.intOf];omega
      ·rw[decide_eq_false R]at GH
       have Y:Hid (sM (decide (j=2)) (V j)=bA (V j)):=Qh (by rw[decide_eq_false R];rfl);clear R hs
       cases D:bA (V j)with
       |none=>
        have HF:Hid (jt V h=(bg,4)):=Qh (BZ B.out.2.2.2 G (FB HV.out (by rw[Y.out,D])));rw[D]at hw;clear D;have L:=Qh hw;clear hw;go_wp2_with fail;refine(L.out _).mono ?_;rintro e w6 ⟨rfl,rfl⟩;have A:=B.out.1.2.2;have r:=A.cell 0;have f0:=A.frozen 0;have t:=A.cell 1;have f1:=A.frozen 1;have u:=A.cell 2;have f2:=A.frozen 2;have y:=A.cell 3;have f3:=A.frozen 3;have z:=A.cell 4;have f4:=A.frozen 4;have r5:=A.cell 5;have f5:=A.frozen 5;have r6:=A.cell 6;have f6:=A.frozen 6;have r7:=A.cell 7;have f7:=A.frozen 7;have r8:=A.cell 8;have f8:=A.frozen 8;simp only[aa,bg,Qc,Qa,Qb]at r t u y z r5 r6 r7 r8;clear A;go_wp2;refine bodyPost_ret (og rfl _ _ (w.heap.size+1) _ rfl rfl bg (uy B.out.1.2.2 _ _ _ _ _ _ _ _ _)) rfl ?_;exact⟨by rw[←HU.out,HF.out];rfl,o5 B.out.1.1 (by omega) _ _ _ _ _ _ _ _ _⟩
       |some N=>
        have X:=Qh (B.out.put G HV.out (by rw[Y.out,D]));rw[D]at hw;clear D;have L:=Qh hw;clear hw;go_wp2_with fail;refine(L.out _).mono ?_;rintro e w6 ⟨rfl,rfl⟩;rw[show JQ (some N)=(N:Int)from rfl];go_wp2;go_roundw
        case rel=>exact⟨j+1,_,by omega,by go_num,X⟩
        case measure=>simp[RowKit.intOf];omega
    ·obtain rfl:j=4:=by omega
     have E:Hid (U=(T,0)):=Qh (by rw[←HU.out];exact Lp B.out.2.2.2);have b1:=B.out.1.2.1;have A:=B.out.1.2.2;have c0:=b1.cell 0;have c1:=b1.cell 1;have c2:=b1.cell 2;have c3:=b1.cell 3;have c4:=b1.cell 4;have c5:=b1.cell 5;have c6:=b1.cell 6;have c7:=b1.cell 7;have c8:=b1.cell 8;simp only[aa,Qc,Qa,Qb]at c0 c1 c2 c3 c4 c5 c6 c7 c8;have r:=A.cell 0;have f0:=A.frozen 0;have t:=A.cell 1;have f1:=A.frozen 1;have u:=A.cell 2;have f2:=A.frozen 2;have y:=A.cell 3;have f3:=A.frozen 3;have z:=A.cell 4;have f4:=A.frozen 4;have r5:=A.cell 5;have f5:=A.frozen 5;have r6:=A.cell 6;have f6:=A.frozen 6;have r7:=A.cell 7;have f7:=A.frozen 7;have r8:=A.cell 8;have f8:=A.frozen 8;simp only[aa,bg,Qc,Qa,Qb]at r t u y z r5 r6 r7 r8;clear b1 A;go_wp2;refine bodyPost_ret (og rfl _ _ (w.heap.size+1) _ rfl rfl T (uy B.out.1.2.2 _ _ _ _ _ _ _ _ _)) rfl ?_;exact⟨by rw[E.out];rfl,o5 B.out.1.1 (by omega) _ _ _ _ _ _ _ _ _⟩
end Attr
end Go.Proofs.YtdhibldkldlfpaaGreatDoor
