/- Merged. -/
import Derived.Test.YtdhibldkldlfpaaGreatDoorEmitUnpacksX36
import Derived.Test.YtdhibldkldlfpaaGreatDoorEmitUnpacksX28
namespace Go.Proofs.YtdhibldkldlfpaaGreatDoor
set_option linter.unusedSectionVars false
set_option linter.unusedVariables false
set_option maxHeartbeats 8000000
set_option maxRecDepth 1000000
variable {a:Nat}
namespace Mem
open Go.ChangeShapes Go.WideShapes Go.ChangeAt Go.RowKit Base cb iK Bk Hp Head ur Path Block Attr Rec Go.Lib
variable {act:Act} {hk hl hx:Bool} {lk nm:ByteArray} {Q Q0:Exit→Act→World→Prop} {xs:List MP} {bs:List UInt8} {N c g b0 gm o0 qd qn:Nat} {p q:Option Addr} {s:RS} {DK Ib cD cE cF cG cH cI cJ cK cL cM cN cO cP cQ cR cT cU cV cW cX cY cZ dA dB dC dD dE dF dG dH dI dJ dK dL dM dN dO dP dQ dR dS dU dV dW dX dY dZ dc dd dh di dj dn dq dr dt du dv dw dx dy dz eA eB eC eD eE eF eG eH eI eJ eK eM eN eO eP eQ eR eS eT eU eV eW eX eY eZ ea eb ee ef eh ei ej eo et eu ew ey ez fA fB fC fD fE fF fG fH fI fJ fK fL fM fN fO fP fQ fR fS fT fU fV fW fX fY fZ fa fb fc ff fg fh fi fj fk fp fq fr ft fu fv fw fx fy fz gA gB gC gD gE gF gG gH gI gJ gK gL gM gN gO gP gQ gR gS gT gU gV gW gX gY gZ ga gh gj gn gq gr gu gv gw gy gz ia ib ic ie ig ij ik il im iq ir iu iv iw iy iz l8 l9 lA lB lC lD lE lF lG lH lI lJ lK lL lM lN lO lP lQ lR lS lT lU lV lW lX lY lZ lx ly lz mA mB mC mD mE mF mG mH mI mJ mK mL mM mN mO mP mQ mR mS mT mU mV mW mX mY mZ ma mc me mf mh mi mj ml mq mr mu my nV na nf ng nh ni nj nk np nr nt nu pW u1 u2 u6 u7 u8 u9 vg vo xt xu u16 u32 u64:Value} {w W1 wa wr:World} {h h1:af}
theorem ar6 {nm lk:List UInt8} {hl:Bool} (C:MC wa W1 wr bs a N c b0 o0 s vo xs vg q qn qd nm lk hx hl hk h) (M:MM wr w g gm h1 (aF 9 6 h1.name).1 (if h1.kind=49 then(aF 9 6 h1.link).1 else[])) (ha:bI h s h1 0) (h0:(aF 9 6 h1.name).2=0) (h2:iU h1.mode h1.uid h1.gid h1.time=true) (h5:0≤h1.size) (hl:h1.link.length≤1048576) (h3a:h1.kind=49→(aF 9 6 h1.link).2=0) (bL:iX wa a bs s Q) (aI:bt wa W1 bs a N c (some ⟨b0,o0,none⟩) Q .normal):Code.wp Tryz.prog (jc 57) Q ⟨#[.slice (some ⟨b0,o0,none⟩) N c,u1,u2,.pointer (some ⟨wa.heap.size,0,none⟩),vo,vg,u6,u7,u8,u9,xt,xu,.int .i64 (a:Int),nV,.int .i64 ((a:Int)+512),.pointer (some ⟨g,0,none⟩),.int .i64 0,lx,ly,lz,lA,lB,.pointer (some ⟨gm,0,none⟩),lC,lD,lE,lF,lG,lH,lI,lJ,lK,u32,lL,lM,lN,lO,lP,lQ,lR,lS,lT,lU,lV,lW,lX,lY,lZ,l8,l9,ma,mc,me,mf,mh,mi,mj,ml,mq,mr,mu,my,mA,mB,u64,mC,mD,mE,mF,mG,mH,mI,mJ,mK,mL,mM,mN,mO,mP,mQ,mR,mS,mT,mU,mV,mW,mX,mY,mZ,na,nf,ng,nh,ni,nj,nk,np,nr,nt,nu,cD,cE,cF,cG,cH,cI,cJ,cK,cL,cM,cN,cO,cP,cQ,cR,cT,cU,cV,cW,cX,cY,cZ,dc,dd,dh,di,dj,dn,dq,dr,dt,du,dv,dw,dx,dy,dz,dA,dB,dC,dD,dE,dF,dG,dH,dI,dJ,dK,dL,dM,dN,dO,dP,dQ,dR,dS,dU,dV,dW,dX,dY,dZ,ea,eb,ee,ef,eh,ei,ej,eo,et,eu,ew,ey,ez,eA,eB,eC,eD,eE,eF,eG,eH,eI,eJ,eK,eM,eN,eO,eP,eQ,eR,eS,eT,eU,eV,eW,eX,eY,eZ,fa,fb,fc,ff,fg,fh,fi,fj,fk,fp,fq,fr,ft,fu,fv,fw,fx,fy,fz,fA,fB,fC,fD,fE,fF,fG,fH,fI,fJ,fK,fL,fM,fN,fO,fP,fQ,fR,fS,fT,fU,fV,fW,fX,fY,fZ,ga,gh,gj,gn,gq,gr,gu,gv,gw,gy,gz,gA,gB,gC,gD,gE,gF,gG,gH,gI,gJ,gK,gL,gM,gN,gO,gP,gQ,gR,gS,gT,gU,gV,gW,gX,gY,gZ,ia,ib,ic,ie,ig,ij,ik,il,im,iq,ir,iu,iv,iw,iy,iz],[]⟩ w:=by
 have HC:=Qh C;have E:=Qh M;have T:=Qh bL;have X:=Qh aI;clear C M bL aI;have c1:=E.out.head.cell 1;have c2:=E.out.head.cell 2;have Z:=E.out.mem.cell 1;have f1:=E.out.mem.frozen 1;unfold aa at c1 c2;simp only[Qc,Qa,Qb]at c1 c2 Z;have L:=Qh ha;have H:=Qh h0;have I:=Qh h2;have U:=Qh h5;have b:=Qh hl;clear ha h0 h2 h5 hl;have J:=Qh h3a;clear h3a
 conv=>arg 2;whnf
 refine wp_seq_k (fun K W=>?_);have O:=Qh W;clear W
 by_cases A:h1.kind=50
 ·have f:w.cell? ⟨g,2,none⟩=some (.int .u8 50):=by rw[c2,A];rfl
  have V:=Qh A;have D:Hid (pU h1=h1.link):=Qh (by unfold pU;rw[if_neg (by rw[A];decide),if_pos A]);obtain⟨te,G⟩:∃te,iV 9 6 h1.link=te:=⟨_,rfl⟩
  have B:=Qh G;clear c2 A G;go_upto_region 58 with fail;refine wp_region_still_tail 6 (by kernel_rfl) (by kernel_rfl) ?_;simp only[List.take_succ_cons,List.take_zero,List.drop_succ_cons,List.drop_zero]
  repeat still_step
  still_call ((AH h1.link _ (by have:=b.out;omega)).mono fun _ _ h=>⟨h.1,h.2.symm⟩)
  repeat still_step
  refine wpStill_nil ?_;rw[B.out];have l:w.drew.cell? ⟨gm,1,none⟩=_:=Z;have g1:w.drew.frozen? ⟨gm,1,none⟩=_:=f1;go_wp2;have Y:=Qh ((E.out.below ((Below.refl _ w).drew)).ax2 h1.link)
  by_cases R:te=0
  ·subst R
   exact O.out _ _ (ar7 HC.out (by rw[D.out];exact Y.out) L.out H.out I.out (ah0 V.out B.out) U.out T.out X.out)
  ·exact O.out _ _ (ax6 HC.out Y.out.sn R (T.out te (by rw[HC.out.step,←B.out];exact xl HC.out.full HC.out.kind (Rv L.out H.out I.out V.out (by rw[B.out];exact R)))))
 ·have n50:((h1.kind.toNat:Int)==50)=false:=by
   rw[beq_eq_false_iff_ne];intro h;exact A (UInt8.toNat.inj (by simpa using (by omega:h1.kind.toNat=50)))
  have D:Hid (pU h1=(if h1.kind=49 then(aF 9 6 h1.link).1 else[])):=Qh (by unfold pU;rw[if_neg A]);have d:Hid (wM h1):=Qh ⟨J.out,fun h=>absurd h A⟩;clear A;go_wp2;exact O.out _ _ (ar7 HC.out (by rw[D.out];exact E.out) L.out H.out I.out d.out U.out T.out X.out)
theorem aD4 {nm lk:List UInt8} {hl:Bool} (C:MC wa W1 wr bs a N c b0 o0 s vo xs vg q qn qd nm lk hx hl hk h) (M:MM wr w g gm h1 (aF 9 6 h1.name).1 []) (ha:bI h s h1 0) (h0:(aF 9 6 h1.name).2=0) (h2:iU h1.mode h1.uid h1.gid h1.time=true) (h5:0≤h1.size) (hl:h1.link.length≤1048576) (bL:iX wa a bs s Q) (aI:bt wa W1 bs a N c (some ⟨b0,o0,none⟩) Q .normal):Code.wp Tryz.prog (jc 55) Q ⟨#[.slice (some ⟨b0,o0,none⟩) N c,u1,u2,.pointer (some ⟨wa.heap.size,0,none⟩),vo,vg,u6,u7,u8,u9,xt,xu,.int .i64 (a:Int),nV,.int .i64 ((a:Int)+512),.pointer (some ⟨g,0,none⟩),.int .i64 0,lx,ly,lz,lA,lB,.pointer (some ⟨gm,0,none⟩),lC,lD,lE,lF,lG,lH,lI,lJ,lK,u32,lL,lM,lN,lO,lP,lQ,lR,lS,lT,lU,lV,lW,lX,lY,lZ,l8,l9,ma,mc,me,mf,mh,mi,mj,ml,mq,mr,mu,my,mA,mB,u64,mC,mD,mE,mF,mG,mH,mI,mJ,mK,mL,mM,mN,mO,mP,mQ,mR,mS,mT,mU,mV,mW,mX,mY,mZ,na,nf,ng,nh,ni,nj,nk,np,nr,nt,nu,cD,cE,cF,cG,cH,cI,cJ,cK,cL,cM,cN,cO,cP,cQ,cR,cT,cU,cV,cW,cX,cY,cZ,dc,dd,dh,di,dj,dn,dq,dr,dt,du,dv,dw,dx,dy,dz,dA,dB,dC,dD,dE,dF,dG,dH,dI,dJ,dK,dL,dM,dN,dO,dP,dQ,dR,dS,dU,dV,dW,dX,dY,dZ,ea,eb,ee,ef,eh,ei,ej,eo,et,eu,ew,ey,ez,eA,eB,eC,eD,eE,eF,eG,eH,eI,eJ,eK,eM,eN,eO,eP,eQ,eR,eS,eT,eU,eV,eW,eX,eY,eZ,fa,fb,fc,ff,fg,fh,fi,fj,fk,fp,fq,fr,ft,fu,fv,fw,fx,fy,fz,fA,fB,fC,fD,fE,fF,fG,fH,fI,fJ,fK,fL,fM,fN,fO,fP,fQ,fR,fS,fT,fU,fV,fW,fX,fY,fZ,ga,gh,gj,gn,gq,gr,gu,gv,gw,gy,gz,gA,gB,gC,gD,gE,gF,gG,gH,gI,gJ,gK,gL,gM,gN,gO,gP,gQ,gR,gS,gT,gU,gV,gW,gX,gY,gZ,ia,ib,ic,ie,ig,ij,ik,il,im,iq,ir,iu,iv,iw,iy,iz],[]⟩ w:=by
 have HC:=Qh C;have A:=Qh M;have T:=Qh bL;have Y:=Qh aI;clear C M bL aI;have c1:=A.out.head.cell 1;have c2:=A.out.head.cell 2;have f:=A.out.mem.cell 1;have f1:=A.out.mem.frozen 1;unfold aa at c1 c2;simp only[Qc,Qa,Qb]at c1 c2 f;have I:=Qh ha;have G:=Qh h0;have H:=Qh h2;have W:=Qh h5;have L:=Qh hl;clear ha h0 h2 h5 hl
 conv=>arg 2;whnf
 refine wp_seq_k (fun K X=>?_);have J:=Qh X;clear X
 by_cases B:h1.kind=49
 ·have l:w.cell? ⟨g,2,none⟩=some (.int .u8 49):=by rw[c2,B];rfl
  have D:=Qh B;obtain⟨⟨d,ce⟩,V⟩:∃x,aF 9 6 h1.link=x:=⟨_,rfl⟩
  have R:=xn (str h1.link) w (by rw[ax];have:=L.out;omega);rw[aS,V]at R;have b:=Qh R;have U:=Qh V;clear c2 B R V;go_wp2_with fail;refine b.out.mono ?_;rintro e m ⟨rfl,rfl⟩;go_wp2;have Z:=Qh (A.out.ax2 d)
  by_cases O:ce=0
  ·subst O
   exact J.out _ _ (ar6 HC.out (by rw[if_pos D.out,U.out];exact Z.out) I.out G.out H.out W.out L.out (fun _=>by rw[U.out]) T.out Y.out)
  ·exact J.out _ _ (ax5 HC.out Z.out.sn O (T.out ce (by
    have E:(aF 9 6 h1.link).2=ce:=by rw[U.out]
    rw[HC.out.step,←E];exact xl HC.out.full HC.out.kind (YA I.out G.out H.out D.out (by rw[E];exact O)))))
 ·have n49:((h1.kind.toNat:Int)==49)=false:=by
   rw[beq_eq_false_iff_ne];intro h;exact B (UInt8.toNat.inj (by simpa using (by omega:h1.kind.toNat=49)))
  have D:=Qh B;clear B;go_wp2;exact J.out _ _ (ar6 HC.out (by rw[if_neg D.out];exact A.out) I.out G.out H.out W.out L.out (fun h=>absurd h D.out) T.out Y.out)
theorem aD3 {nm lk:List UInt8} {hl:Bool} (C:MC wa W1 wr bs a N c b0 o0 s vo xs vg q qn qd nm lk hx hl hk h) (M:MM wr w g gm h1 (aF 9 6 h1.name).1 []) (ha:bI h s h1 0) (h0:(aF 9 6 h1.name).2=0) (h5:0≤h1.size) (hl:h1.link.length≤1048576) (bL:iX wa a bs s Q) (aI:bt wa W1 bs a N c (some ⟨b0,o0,none⟩) Q .normal):Code.wp Tryz.prog (jc 53) Q ⟨#[.slice (some ⟨b0,o0,none⟩) N c,u1,u2,.pointer (some ⟨wa.heap.size,0,none⟩),vo,vg,u6,u7,u8,u9,xt,xu,.int .i64 (a:Int),nV,.int .i64 ((a:Int)+512),.pointer (some ⟨g,0,none⟩),.int .i64 0,lx,ly,lz,lA,lB,.pointer (some ⟨gm,0,none⟩),lC,lD,lE,lF,lG,lH,lI,lJ,lK,u32,lL,lM,lN,lO,lP,lQ,lR,lS,lT,lU,lV,lW,lX,lY,lZ,l8,l9,ma,mc,me,mf,mh,mi,mj,ml,mq,mr,mu,my,mA,mB,u64,mC,mD,mE,mF,mG,mH,mI,mJ,mK,mL,mM,mN,mO,mP,mQ,mR,mS,mT,mU,mV,mW,mX,mY,mZ,na,nf,ng,nh,ni,nj,nk,np,nr,nt,nu,cD,cE,cF,cG,cH,cI,cJ,cK,cL,cM,cN,cO,cP,cQ,cR,cT,cU,cV,cW,cX,cY,cZ,dc,dd,dh,di,dj,dn,dq,dr,dt,du,dv,dw,dx,dy,dz,dA,dB,dC,dD,dE,dF,dG,dH,dI,dJ,dK,dL,dM,dN,dO,dP,dQ,dR,dS,dU,dV,dW,dX,dY,dZ,ea,eb,ee,ef,eh,ei,ej,eo,et,eu,ew,ey,ez,eA,eB,eC,eD,eE,eF,eG,eH,eI,eJ,eK,eM,eN,eO,eP,eQ,eR,eS,eT,eU,eV,eW,eX,eY,eZ,fa,fb,fc,ff,fg,fh,fi,fj,fk,fp,fq,fr,ft,fu,fv,fw,fx,fy,fz,fA,fB,fC,fD,fE,fF,fG,fH,fI,fJ,fK,fL,fM,fN,fO,fP,fQ,fR,fS,fT,fU,fV,fW,fX,fY,fZ,ga,gh,gj,gn,gq,gr,gu,gv,gw,gy,gz,gA,gB,gC,gD,gE,gF,gG,gH,gI,gJ,gK,gL,gM,gN,gO,gP,gQ,gR,gS,gT,gU,gV,gW,gX,gY,gZ,ia,ib,ic,ie,ig,ij,ik,il,im,iq,ir,iu,iv,iw,iy,iz],[]⟩ w:=by
 have HC:=Qh C;have B:=Qh M;have L:=Qh bL;have X:=Qh aI;clear C M bL aI;have c3:=B.out.head.cell 3;have O:=B.out.head.cell 4;have c5:=B.out.head.cell 5;have c6:=B.out.head.cell 6;unfold aa at c3 O c5 c6;simp only[Qc,Qa,Qb]at c3 O c5 c6;have I:=Qh ha;have H:=Qh h0;have V:=Qh h5;have W:=Qh hl;clear ha h0 h5 hl;have A:=FO h1.mode h1.uid h1.gid h1.time w;obtain⟨mk,G⟩:∃mk,iU h1.mode h1.uid h1.gid h1.time=mk:=⟨_,rfl⟩
 rw[G]at A;have E:=Qh A;have D:=Qh G;clear A G
 conv=>arg 2;whnf
 refine wp_seq_k (fun K T=>?_);have J:=Qh T;clear T;go_wp2_with fail;refine E.out.mono ?_;rintro e Y ⟨rfl,R⟩;have U:=Qh (B.out.below R);clear R
 cases mk with
 |true=>
  go_wp2;exact J.out _ _ (aD4 HC.out U.out I.out H.out D.out V.out W.out L.out X.out)
 |false=>
  go_wp2;exact J.out _ _ (ax4 HC.out U.out.sn (by decide) (L.out 4 (by rw[HC.out.step];exact xl HC.out.full HC.out.kind (YB I.out H.out D.out))))
theorem aD2 {nm lk:List UInt8} {hl:Bool} (C:MC wa W1 wr bs a N c b0 o0 s vo xs vg q qn qd nm lk hx hl hk h) (M:MM wr w g gm h1 [] []) (ha:bI h s h1 0) (h5:0≤h1.size) (hn:h1.name.length≤1048576) (hl:h1.link.length≤1048576) (bL:iX wa a bs s Q) (aI:bt wa W1 bs a N c (some ⟨b0,o0,none⟩) Q .normal):Code.wp Tryz.prog (jc 51) Q ⟨#[.slice (some ⟨b0,o0,none⟩) N c,u1,u2,.pointer (some ⟨wa.heap.size,0,none⟩),vo,vg,u6,u7,u8,u9,xt,xu,.int .i64 (a:Int),nV,.int .i64 ((a:Int)+512),.pointer (some ⟨g,0,none⟩),.int .i64 0,lx,ly,lz,lA,lB,.pointer (some ⟨gm,0,none⟩),lC,lD,lE,lF,lG,lH,lI,lJ,lK,u32,lL,lM,lN,lO,lP,lQ,lR,lS,lT,lU,lV,lW,lX,lY,lZ,l8,l9,ma,mc,me,mf,mh,mi,mj,ml,mq,mr,mu,my,mA,mB,u64,mC,mD,mE,mF,mG,mH,mI,mJ,mK,mL,mM,mN,mO,mP,mQ,mR,mS,mT,mU,mV,mW,mX,mY,mZ,na,nf,ng,nh,ni,nj,nk,np,nr,nt,nu,cD,cE,cF,cG,cH,cI,cJ,cK,cL,cM,cN,cO,cP,cQ,cR,cT,cU,cV,cW,cX,cY,cZ,dc,dd,dh,di,dj,dn,dq,dr,dt,du,dv,dw,dx,dy,dz,dA,dB,dC,dD,dE,dF,dG,dH,dI,dJ,dK,dL,dM,dN,dO,dP,dQ,dR,dS,dU,dV,dW,dX,dY,dZ,ea,eb,ee,ef,eh,ei,ej,eo,et,eu,ew,ey,ez,eA,eB,eC,eD,eE,eF,eG,eH,eI,eJ,eK,eM,eN,eO,eP,eQ,eR,eS,eT,eU,eV,eW,eX,eY,eZ,fa,fb,fc,ff,fg,fh,fi,fj,fk,fp,fq,fr,ft,fu,fv,fw,fx,fy,fz,fA,fB,fC,fD,fE,fF,fG,fH,fI,fJ,fK,fL,fM,fN,fO,fP,fQ,fR,fS,fT,fU,fV,fW,fX,fY,fZ,ga,gh,gj,gn,gq,gr,gu,gv,gw,gy,gz,gA,gB,gC,gD,gE,gF,gG,gH,gI,gJ,gK,gL,gM,gN,gO,gP,gQ,gR,gS,gT,gU,gV,gW,gX,gY,gZ,ia,ib,ic,ie,ig,ij,ik,il,im,iq,ir,iu,iv,iw,iy,iz],[]⟩ w:=by
 have HC:=Qh C;have B:=Qh M;have L:=Qh bL;have X:=Qh aI;clear C M bL aI;have c0:=B.out.head.cell 0;have x0:=B.out.mem.cell 0;have f0:=B.out.mem.frozen 0;unfold aa at c0;simp only[Qc,Qa]at c0 x0;have I:=Qh ha;have T:=Qh h5;have U:=Qh hl;obtain⟨⟨W,ce⟩,H⟩:∃x,aF 9 6 h1.name=x:=⟨_,rfl⟩
 have E:=xn (str h1.name) w (by rw[ax];omega);rw[aS,H]at E;have V:=Qh E;have G:=Qh H;clear ha h5 hn hl E H
 conv=>arg 2;whnf
 refine wp_seq_k (fun K O=>?_);have J:=Qh O;clear O;go_wp2_with fail;refine V.out.mono ?_;rintro e Y ⟨rfl,rfl⟩;go_wp2;have R:=Qh (B.out.aH7 W)
 by_cases D:ce=0
 ·subst D
  exact J.out _ _ (aD3 HC.out (by rw[G.out];exact R.out) I.out (by rw[G.out]) T.out U.out L.out X.out)
 ·exact J.out _ _ (ax3 HC.out R.out.sn D (L.out ce (by
   have A:(aF 9 6 h1.name).2=ce:=by rw[G.out]
   rw[HC.out.step,←A];exact xl HC.out.full HC.out.kind (YC I.out (by rw[A];exact D)))))
def sI (h:af) (s:RS):af:={h with name:=s.name.getD h.name,link:=s.link.getD h.link}
theorem YD {nm lk:List UInt8} (C:MC wa W1 wr bs a N c b0 o0 s vo xs vg q qn qd nm lk hx hl hk h) (sn:Below wr.heap.size wr w) (hg:wr.heap.size≤g) (hH:au w g 66 (aa (sI h s))) (xB:0≤h.size∧h.name.length≤1000∧h.link.length≤1000) (bL:iX wa a bs s Q) (aI:bt wa W1 bs a N c (some ⟨b0,o0,none⟩) Q .normal):Code.wp Tryz.prog (jc 49) Q ⟨#[.slice (some ⟨b0,o0,none⟩) N c,u1,u2,.pointer (some ⟨wa.heap.size,0,none⟩),vo,vg,.slice q qn qd,u7,u8,u9,xt,xu,.int .i64 (a:Int),nV,.int .i64 ((a:Int)+512),.pointer (some ⟨g,0,none⟩),u16,lx,ly,lz,lA,lB,pW,lC,lD,lE,lF,lG,lH,lI,lJ,lK,u32,lL,lM,lN,lO,lP,lQ,lR,lS,lT,lU,lV,lW,lX,lY,lZ,l8,l9,ma,mc,me,mf,mh,mi,mj,ml,mq,mr,mu,my,mA,mB,u64,mC,mD,mE,mF,mG,mH,mI,mJ,mK,mL,mM,mN,mO,mP,mQ,mR,mS,mT,mU,mV,mW,mX,mY,mZ,na,nf,ng,nh,ni,nj,nk,np,nr,nt,nu,cD,cE,cF,cG,cH,cI,cJ,cK,cL,cM,cN,cO,cP,cQ,cR,cT,cU,cV,cW,cX,cY,cZ,dc,dd,dh,di,dj,dn,dq,dr,dt,du,dv,dw,dx,dy,dz,dA,dB,dC,dD,dE,dF,dG,dH,dI,dJ,dK,dL,dM,dN,dO,dP,dQ,dR,dS,dU,dV,dW,dX,dY,dZ,ea,eb,ee,ef,eh,ei,ej,eo,et,eu,ew,ey,ez,eA,eB,eC,eD,eE,eF,eG,eH,eI,eJ,eK,eM,eN,eO,eP,eQ,eR,eS,eT,eU,eV,eW,eX,eY,eZ,fa,fb,fc,ff,fg,fh,fi,fj,fk,fp,fq,fr,ft,fu,fv,fw,fx,fy,fz,fA,fB,fC,fD,fE,fF,fG,fH,fI,fJ,fK,fL,fM,fN,fO,fP,fQ,fR,fS,fT,fU,fV,fW,fX,fY,fZ,ga,gh,gj,gn,gq,gr,gu,gv,gw,gy,gz,gA,gB,gC,gD,gE,gF,gG,gH,gI,gJ,gK,gL,gM,gN,gO,gP,gQ,gR,gS,gT,gU,gV,gW,gX,gY,gZ,ia,ib,ic,ie,ig,ij,ik,il,im,iq,ir,iu,iv,iw,iy,iz],[]⟩ w:=by
 obtain⟨p5,c5,rfl,Z,DU,Q4⟩:=ru C.rd.bE;obtain⟨⟨h1,X⟩,D⟩:∃x,cC (aD s.bE) s.own (sI h s)=x:=⟨_,rfl⟩
 have T:=fun k=>Ch C.rd.JB C.rd.JC k
 have Md:(sI h s).name.length≤1048576:=by
  show(s.name.getD h.name).length≤_;rw[C.rd.name]
  cases hl
  ·exact Nat.le_trans xB.2.1 (by decide)
  ·exact C.rd.uK.1
 have Mc:(sI h s).link.length≤1048576:=by
  show(s.link.getD h.link).length≤_;rw[C.rd.link]
  cases hk
  ·exact Nat.le_trans xB.2.2 (by decide)
  ·exact C.rd.uK.2.1
 have M:=EB (V:=fun i=>jw (aD s.bE) s.own (aJ i)) (h:=sI h s) 1048576 (fun i _=>T _) xB.1 Md Mc;have L:=M9 p5 s.bE.length c5 s.bE q qn qd s.own (sI h s) w (by have:=C.rd.L0;have:=C.rd.le;have:=C.len;have:=C.hN;omega) (by have:=C.rd.uK.2.2;omega) (Q4.below sn) (C.rd.own.below sn) (fun i _=>Nat.le_trans (T _) (by decide));change 0≤(cC (aD s.bE) s.own (sI h s)).1.size∧(cC (aD s.bE) s.own (sI h s)).1.name.length≤_∧(cC (aD s.bE) s.own (sI h s)).1.link.length≤_ at M;rw[D]at L M;unfold oF aa at L;have Wv:=Qh L;have b:=Qh M;have H:Hid (bI h s h1 X):=Qh D;have HC:=Qh C;have HS:=Qh sn;have B:=Qh hg;have y:=Qh hH;have br:=Qh bL;have kE:=Qh aI;have c0:=hH.cell 0;have c1:=hH.cell 1;have c2:=hH.cell 2;have c3:=hH.cell 3;have U:=hH.cell 4;have E:=hH.cell 5;have c6:=hH.cell 6;have c7:=hH.cell 7;have W:=hH.cell 8;unfold aa at c0 c1 c2 c3 U E c6 c7 W;simp only[Qc,Qa,Qb]at c0 c1 c2 c3 U E c6 c7 W;clear L M D C sn hg hH bL aI T Md Mc xB Z DU Q4
 conv=>arg 2;whnf
 refine wp_seq_k (fun K1 I=>?_);have nQ:=Qh I;clear I;go_wp2_with fail;refine Wv.out.mono ?_;rintro e w1 ⟨rfl,Y⟩;have A:=y.out.below Y y.out.lt;have x0:=A.cell 0;have d:=A.cell 1;have f:=A.cell 2;have l:=A.cell 3;have m:=A.cell 4;have o:=A.cell 5;have r:=A.cell 6;have t:=A.cell 7;have u:=A.cell 8;have f0:=A.frozen 0;have f1:=A.frozen 1;have f2:=A.frozen 2;have f3:=A.frozen 3;have f4:=A.frozen 4;have f5:=A.frozen 5;have f6:=A.frozen 6;have f7:=A.frozen 7;have f8:=A.frozen 8;unfold aa at x0 d f l m o r t u;simp only[Qc,Qa,Qb]at x0 d f l m o r t u;have HX:=Qh A;have yP:=Qh (HS.out.trans (Y.mono HS.out.size));clear A Y c0 c1 c2 c3 U E c6 c7 W Wv;go_wp2;obtain⟨w2,hw⟩:∃w2,(((((((((w1.setCell ⟨g,0,none⟩ (.string (str h1.name))).setCell ⟨g,1,none⟩ (.string (str h1.link))).setCell ⟨g,2,none⟩ (.int .u8 (h1.kind.toNat:Int))).setCell ⟨g,3,none⟩ (.int .i64 h1.mode)).setCell ⟨g,4,none⟩ (.int .i64 h1.uid)).setCell ⟨g,5,none⟩ (.int .i64 h1.gid)).setCell ⟨g,6,none⟩ (.int .i64 h1.time)).setCell ⟨g,7,none⟩ (.int .i64 h1.size)).setCell ⟨g,8,none⟩ (.bool h1.j7))=w2:=⟨_,rfl⟩
 have G:au w2 g 66 (aa h1):=by rw[←hw];exact uy HX.out _ _ _ _ _ _ _ _ _
 have J:Below wr.heap.size wr w2:=by
  rw[←hw];exact(((((((((yP.out.setCell (p:=⟨g,0,none⟩) B.out _).setCell (p:=⟨g,1,none⟩) B.out _).setCell (p:=⟨g,2,none⟩) B.out _).setCell (p:=⟨g,3,none⟩) B.out _).setCell (p:=⟨g,4,none⟩) B.out _).setCell (p:=⟨g,5,none⟩) B.out _).setCell (p:=⟨g,6,none⟩) B.out _).setCell (p:=⟨g,7,none⟩) B.out _).setCell (p:=⟨g,8,none⟩) B.out _)
 rw[hw];have y2:=G.cell 2;have y3:=G.cell 3;have y4:=G.cell 4;have y5:=G.cell 5;have y6:=G.cell 6;unfold aa at y2 y3 y4 y5 y6;simp only[Qc,Qa,Qb]at y2 y3 y4 y5 y6;have HY:=Qh G;have R:=Qh J;clear hw G J x0 d f l m o r t u f0 f1 f2 f3 f4 f5 f6 f7 f8;refine nQ.out _ _ ?_;refine wp_seq_k (fun K hK=>?_);have z:=Qh hK;clear hK nQ;go_wp2;obtain⟨w3,hw⟩:∃w3,w2.alloc (.cells #[.string ⟨#[]⟩,.string ⟨#[]⟩,.int .u8 (h1.kind.toNat:Int),.int .i64 h1.mode,.int .i64 h1.uid,.int .i64 h1.gid,.int .i64 h1.time,.slice none 0 0] 48)=w3:=⟨_,rfl⟩
 have hM:MM wr w3 g w2.heap.size h1 [] []:=by
  rw[←hw];exact⟨R.out.alloc R.out.size _,HY.out.alloc _,au.new w2 _ _,R.out.size⟩
 rw[hw];clear hw
 by_cases O:X=0
 ·subst O
  exact z.out _ _ (aD2 HC.out hM H.out b.out.1 b.out.2.1 b.out.2.2 br.out kE.out)
 ·exact z.out _ _ (aI0 HC.out hM.sn O (br.out X (by rw[HC.out.step];exact xl HC.out.full HC.out.kind (Vl H.out O))))
structure M0 (wa W1 wr:World) (bs:List UInt8) (a N c:Nat) (p:Option Addr) (s:RS) (vo:Value) (xs:List MP) (vg:Value) (q:Option Addr) (qn qd:Nat) (nm lk:List UInt8) (hx hl hk:Bool):Prop where
 b1:Below wa.heap.size wa W1
 rd:wC W1 wr bs a s vo xs vg q qn qd nm lk hx hl hk
 box:au wr wa.heap.size 32 #[.int .i64 0,.int .i64 0]
 nB:iC wr p N bs
 CY:Need wr
 len:bs.length=N
 hN:N≤1000000000
 hc:N≤c
 Bu:c≤140737488351232
 ha:a≤N
structure MH (wr w:World) (a N g:Nat) (h:af):Prop where
 sn:Below wr.heap.size wr w
 head:au w g 66 (aa h)
 LV:wr.heap.size≤g
 ha:a+512≤N
 bd:0≤h.size∧h.name.length≤1000∧h.link.length≤1000
theorem MH.kind (M:MH wr w a N g h) {k:UInt8} (hk:h.kind=k):w.cell? ⟨g,2,none⟩=some (.int .u8 (k.toNat:Int)):=by
 rw[M.head.cell 2,←hk];rfl
theorem MH.size (M:MH wr w a N g h) {z:Int} (hz:h.size=z):w.cell? ⟨g,7,none⟩=some (.int .i64 z):=by
 rw[M.head.cell 7,←hz];rfl
theorem YI (C:M0 wa W1 wr bs a N c (some ⟨b0,o0,none⟩) s vo xs vg q qn qd nm.data.toList lk.data.toList hx hl hk) (M:MH wr w a N g h) (jY:aG (bs.drop a) s=ji (bs.drop a) h s) (kV:h.kind=76) (DT:¬qq h s) (Jm:¬1048576<h.size) (bL:iX wa a bs s Q) (aI:bt wa W1 bs a N c (some ⟨b0,o0,none⟩) Q (.exit 1)):Code.wp Tryz.prog (jc 26) Q ⟨#[.slice (some ⟨b0,o0,none⟩) N c,u1,u2,.pointer (some ⟨wa.heap.size,0,none⟩),vo,vg,.slice q qn qd,.string nm,.string lk,.bool hx,.bool hl,.bool hk,.int .i64 (a:Int),nV,.int .i64 ((a:Int)+512),.pointer (some ⟨g,0,none⟩),u16,lx,ly,lz,lA,lB,pW,lC,lD,lE,lF,lG,lH,lI,lJ,lK,u32,lL,lM,lN,lO,lP,lQ,lR,lS,lT,lU,lV,lW,lX,lY,lZ,l8,l9,ma,mc,me,mf,mh,mi,mj,ml,mq,mr,mu,my,mA,mB,u64,mC,mD,mE,mF,mG,mH,mI,mJ,mK,mL,mM,mN,mO,mP,mQ,mR,mS,mT,mU,mV,mW,mX,mY,mZ,na,nf,ng,nh,ni,nj,nk,np,nr,nt,nu,cD,cE,cF,cG,cH,cI,cJ,cK,cL,cM,cN,cO,cP,cQ,cR,cT,cU,cV,cW,cX,cY,cZ,dc,dd,dh,di,dj,dn,dq,dr,dt,du,dv,dw,dx,dy,dz,dA,dB,dC,dD,dE,dF,dG,dH,dI,dJ,dK,dL,dM,dN,dO,dP,dQ,dR,dS,dU,dV,dW,dX,dY,dZ,ea,eb,ee,ef,eh,ei,ej,eo,et,eu,ew,ey,ez,eA,eB,eC,eD,eE,eF,eG,eH,eI,eJ,eK,eM,eN,eO,eP,eQ,eR,eS,eT,eU,eV,eW,eX,eY,eZ,fa,fb,fc,ff,fg,fh,fi,fj,fk,fp,fq,fr,ft,fu,fv,fw,fx,fy,fz,fA,fB,fC,fD,fE,fF,fG,fH,fI,fJ,fK,fL,fM,fN,fO,fP,fQ,fR,fS,fT,fU,fV,fW,fX,fY,fZ,ga,gh,gj,gn,gq,gr,gu,gv,gw,gy,gz,gA,gB,gC,gD,gE,gF,gG,gH,gI,gJ,gK,gL,gM,gN,gO,gP,gQ,gR,gS,gT,gU,gV,gW,gX,gY,gZ,ia,ib,ic,ie,ig,ij,ik,il,im,iq,ir,iu,iv,iw,iy,iz],[]⟩ w:=by
 have HC:=Qh C;have A:=Qh M;have z:=Qh bL;have kE:=Qh aI;clear C M bL aI;have Y:=Qh jY;have pC:=Qh kV;have b:=Qh DT;have U:=Qh Jm;obtain⟨sz,B⟩:∃sz:Nat,h.size=(sz:Int):=⟨h.size.toNat,by have:=A.out.bd.1;omega⟩
 have DR:w.cell? ⟨g,2,none⟩=some (.int .u8 76):=A.out.kind kV;have c7:=A.out.size B;have G:=Qh B;have m:sz≤1048576:=by omega
 clear jY kV DT Jm B;have hN:=HC.out.hN;have l:=HC.out.hc;have Zy:=A.out.ha;have I:=sL (some ⟨b0,o0,none⟩) N c bs w (a+512) (sz:Int) HC.out.len (by omega) l (by have:=HC.out.Bu;unfold maxLen;omega) (HC.out.nB.below A.out.sn) (by omega) (by omega) (by omega);rw[show((a+512:Nat):Int)=(a:Int)+512 by omega]at I;have J:=Qh I;clear I
 conv=>arg 2;whnf
 go_wp2_with fail
 refine J.out.mono ?_;clear J;rintro e wz ⟨rfl,(⟨oH,rfl⟩|⟨hle,X,q1,d1,rfl,V,r,H⟩)⟩
 ·have E:Hid (aG (bs.drop a) s=.fault 2):=Qh (by
   rw[Y.out];refine yK b.out (by have:=U.out;omega) (sk ?_);rw[G.out,Qe,HC.out.len];rcases oH with oH|oH
   ·exact .inl oH
   ·exact .inr (by omega))
  clear oH;obtain⟨r0,r1,f0,f1⟩:=jJ HC.out.box A.out.sn;go_wp2;exact jW (z.out 2 E.out) HC.out.box HC.out.b1 HC.out.rd.bel A.out.sn _ rfl rfl
 ·simp only[Int.toNat_natCast]at X V H⊢
  obtain⟨T,D⟩:∃T,(bs.drop (a+512)).take sz=T:=⟨_,rfl⟩
  have y:=(jL sz).1
  have f:Hid (kF (bs.drop a) h.size=some (T,512+aw sz)):=Qh (by
   have:=sr (L:=bs.drop a) (n:=h.size) (by rw[G.out];exact hle) (by rw[G.out,Qe,HC.out.len,Int.toNat_natCast];omega)
   rw[this,G.out,Int.toNat_natCast,List.drop_drop,D])
  have R:T.length=sz:=by rw[←D,Qg,Qe,HC.out.len];omega
  rw[D]at H;obtain⟨tu,O⟩:∃tu,a+512+aw sz=tu:=⟨_,rfl⟩
  rw[O];have o:Hid (a<tu):=Qh (by omega);have p:Hid (tu≤N):=Qh (by omega);have u:Hid (tu=a+(512+aw sz)):=Qh (by omega);have d:=Qh H;have Z:=Qh R;clear X H D R O hle r y;go_wp2_with fail;refine(Du q1 sz d1 T w Z.out V (by omega) d.out).mono ?_;rintro e wz ⟨rfl,rfl⟩;have W:=Qh ((HC.out.rd.below A.out.sn).as2 (k:=512+aw sz) (t:=av T) (by rw[Y.out];exact Zi pC.out b.out (by have:=U.out;omega) f.out) (Nat.le_trans (rB T) (by rw[Z.out];exact m)));rw[←u.out]at W;go_wp2;exact kE.out _ _ tu _ _ _ _ _ _ _ (str (av T)) lk hx true hk (by rw[aS];exact W.out) o.out p.out rfl rfl rfl rfl rfl rfl rfl rfl rfl rfl rfl rfl
theorem YH (C:M0 wa W1 wr bs a N c (some ⟨b0,o0,none⟩) s vo xs vg q qn qd nm.data.toList lk.data.toList hx hl hk) (M:MH wr w a N g h) (jY:aG (bs.drop a) s=ji (bs.drop a) h s) (kV:h.kind=75) (DT:¬qq h s) (Jm:¬1048576<h.size) (bL:iX wa a bs s Q) (aI:bt wa W1 bs a N c (some ⟨b0,o0,none⟩) Q (.exit 1)):Code.wp Tryz.prog (jc 26) Q ⟨#[.slice (some ⟨b0,o0,none⟩) N c,u1,u2,.pointer (some ⟨wa.heap.size,0,none⟩),vo,vg,.slice q qn qd,.string nm,.string lk,.bool hx,.bool hl,.bool hk,.int .i64 (a:Int),nV,.int .i64 ((a:Int)+512),.pointer (some ⟨g,0,none⟩),u16,lx,ly,lz,lA,lB,pW,lC,lD,lE,lF,lG,lH,lI,lJ,lK,u32,lL,lM,lN,lO,lP,lQ,lR,lS,lT,lU,lV,lW,lX,lY,lZ,l8,l9,ma,mc,me,mf,mh,mi,mj,ml,mq,mr,mu,my,mA,mB,u64,mC,mD,mE,mF,mG,mH,mI,mJ,mK,mL,mM,mN,mO,mP,mQ,mR,mS,mT,mU,mV,mW,mX,mY,mZ,na,nf,ng,nh,ni,nj,nk,np,nr,nt,nu,cD,cE,cF,cG,cH,cI,cJ,cK,cL,cM,cN,cO,cP,cQ,cR,cT,cU,cV,cW,cX,cY,cZ,dc,dd,dh,di,dj,dn,dq,dr,dt,du,dv,dw,dx,dy,dz,dA,dB,dC,dD,dE,dF,dG,dH,dI,dJ,dK,dL,dM,dN,dO,dP,dQ,dR,dS,dU,dV,dW,dX,dY,dZ,ea,eb,ee,ef,eh,ei,ej,eo,et,eu,ew,ey,ez,eA,eB,eC,eD,eE,eF,eG,eH,eI,eJ,eK,eM,eN,eO,eP,eQ,eR,eS,eT,eU,eV,eW,eX,eY,eZ,fa,fb,fc,ff,fg,fh,fi,fj,fk,fp,fq,fr,ft,fu,fv,fw,fx,fy,fz,fA,fB,fC,fD,fE,fF,fG,fH,fI,fJ,fK,fL,fM,fN,fO,fP,fQ,fR,fS,fT,fU,fV,fW,fX,fY,fZ,ga,gh,gj,gn,gq,gr,gu,gv,gw,gy,gz,gA,gB,gC,gD,gE,gF,gG,gH,gI,gJ,gK,gL,gM,gN,gO,gP,gQ,gR,gS,gT,gU,gV,gW,gX,gY,gZ,ia,ib,ic,ie,ig,ij,ik,il,im,iq,ir,iu,iv,iw,iy,iz],[]⟩ w:=by
 have HC:=Qh C;have A:=Qh M;have z:=Qh bL;have kE:=Qh aI;clear C M bL aI;have Y:=Qh jY;have pC:=Qh kV;have b:=Qh DT;have U:=Qh Jm;obtain⟨sz,B⟩:∃sz:Nat,h.size=(sz:Int):=⟨h.size.toNat,by have:=A.out.bd.1;omega⟩
 have DR:w.cell? ⟨g,2,none⟩=some (.int .u8 75):=A.out.kind kV;have c7:=A.out.size B;have G:=Qh B;have m:sz≤1048576:=by omega
 clear jY kV DT Jm B;have hN:=HC.out.hN;have l:=HC.out.hc;have Zy:=A.out.ha;have I:=sL (some ⟨b0,o0,none⟩) N c bs w (a+512) (sz:Int) HC.out.len (by omega) l (by have:=HC.out.Bu;unfold maxLen;omega) (HC.out.nB.below A.out.sn) (by omega) (by omega) (by omega);rw[show((a+512:Nat):Int)=(a:Int)+512 by omega]at I;have J:=Qh I;clear I
 conv=>arg 2;whnf
 go_wp2_with fail
 refine J.out.mono ?_;clear J;rintro e wz ⟨rfl,(⟨oH,rfl⟩|⟨hle,X,q1,d1,rfl,V,r,H⟩)⟩
 ·have E:Hid (aG (bs.drop a) s=.fault 2):=Qh (by
   rw[Y.out];refine yK b.out (by have:=U.out;omega) (sk ?_);rw[G.out,Qe,HC.out.len];rcases oH with oH|oH
   ·exact .inl oH
   ·exact .inr (by omega))
  clear oH;obtain⟨r0,r1,f0,f1⟩:=jJ HC.out.box A.out.sn;go_wp2;exact jW (z.out 2 E.out) HC.out.box HC.out.b1 HC.out.rd.bel A.out.sn _ rfl rfl
 ·simp only[Int.toNat_natCast]at X V H⊢
  obtain⟨T,D⟩:∃T,(bs.drop (a+512)).take sz=T:=⟨_,rfl⟩
  have y:=(jL sz).1
  have f:Hid (kF (bs.drop a) h.size=some (T,512+aw sz)):=Qh (by
   have:=sr (L:=bs.drop a) (n:=h.size) (by rw[G.out];exact hle) (by rw[G.out,Qe,HC.out.len,Int.toNat_natCast];omega)
   rw[this,G.out,Int.toNat_natCast,List.drop_drop,D])
  have R:T.length=sz:=by rw[←D,Qg,Qe,HC.out.len];omega
  rw[D]at H;obtain⟨tu,O⟩:∃tu,a+512+aw sz=tu:=⟨_,rfl⟩
  rw[O];have o:Hid (a<tu):=Qh (by omega);have p:Hid (tu≤N):=Qh (by omega);have u:Hid (tu=a+(512+aw sz)):=Qh (by omega);have d:=Qh H;have Z:=Qh R;clear X H D R O hle r y;go_wp2_with fail;refine(Du q1 sz d1 T w Z.out V (by omega) d.out).mono ?_;rintro e wz ⟨rfl,rfl⟩;have W:=Qh ((HC.out.rd.below A.out.sn).as1 (k:=512+aw sz) (t:=av T) (by rw[Y.out];exact Zh pC.out b.out (by have:=U.out;omega) f.out) (Nat.le_trans (rB T) (by rw[Z.out];exact m)));rw[←u.out]at W;go_wp2;exact kE.out _ _ tu _ _ _ _ _ _ _ nm (str (av T)) hx hl true (by rw[aS];exact W.out) o.out p.out rfl rfl rfl rfl rfl rfl rfl rfl rfl rfl rfl rfl
theorem Vr (C:M0 wa W1 wr bs a N c (some ⟨b0,o0,none⟩) s vo xs vg q qn qd nm.data.toList lk.data.toList hx hl hk) (M:MH wr w a N g h) (jY:aG (bs.drop a) s=ji (bs.drop a) h s) (kV:h.kind=120) (DT:¬qq h s) (Jm:¬1048576<h.size) (bL:iX wa a bs s Q) (aI:bt wa W1 bs a N c (some ⟨b0,o0,none⟩) Q (.exit 1)):Code.wp Tryz.prog (jc 26) Q ⟨#[.slice (some ⟨b0,o0,none⟩) N c,u1,u2,.pointer (some ⟨wa.heap.size,0,none⟩),vo,vg,.slice q qn qd,.string nm,.string lk,.bool hx,.bool hl,.bool hk,.int .i64 (a:Int),nV,.int .i64 ((a:Int)+512),.pointer (some ⟨g,0,none⟩),u16,lx,ly,lz,lA,lB,pW,lC,lD,lE,lF,lG,lH,lI,lJ,lK,u32,lL,lM,lN,lO,lP,lQ,lR,lS,lT,lU,lV,lW,lX,lY,lZ,l8,l9,ma,mc,me,mf,mh,mi,mj,ml,mq,mr,mu,my,mA,mB,u64,mC,mD,mE,mF,mG,mH,mI,mJ,mK,mL,mM,mN,mO,mP,mQ,mR,mS,mT,mU,mV,mW,mX,mY,mZ,na,nf,ng,nh,ni,nj,nk,np,nr,nt,nu,cD,cE,cF,cG,cH,cI,cJ,cK,cL,cM,cN,cO,cP,cQ,cR,cT,cU,cV,cW,cX,cY,cZ,dc,dd,dh,di,dj,dn,dq,dr,dt,du,dv,dw,dx,dy,dz,dA,dB,dC,dD,dE,dF,dG,dH,dI,dJ,dK,dL,dM,dN,dO,dP,dQ,dR,dS,dU,dV,dW,dX,dY,dZ,ea,eb,ee,ef,eh,ei,ej,eo,et,eu,ew,ey,ez,eA,eB,eC,eD,eE,eF,eG,eH,eI,eJ,eK,eM,eN,eO,eP,eQ,eR,eS,eT,eU,eV,eW,eX,eY,eZ,fa,fb,fc,ff,fg,fh,fi,fj,fk,fp,fq,fr,ft,fu,fv,fw,fx,fy,fz,fA,fB,fC,fD,fE,fF,fG,fH,fI,fJ,fK,fL,fM,fN,fO,fP,fQ,fR,fS,fT,fU,fV,fW,fX,fY,fZ,ga,gh,gj,gn,gq,gr,gu,gv,gw,gy,gz,gA,gB,gC,gD,gE,gF,gG,gH,gI,gJ,gK,gL,gM,gN,gO,gP,gQ,gR,gS,gT,gU,gV,gW,gX,gY,gZ,ia,ib,ic,ie,ig,ij,ik,il,im,iq,ir,iu,iv,iw,iy,iz],[]⟩ w:=by
 have HC:=Qh C;have A:=Qh M;have br:=Qh bL;have kE:=Qh aI;clear C M bL aI;have V:=Qh jY;have pC:=Qh kV;have Y:=Qh DT;have R:=Qh Jm;obtain⟨sz,B⟩:∃sz:Nat,h.size=(sz:Int):=⟨h.size.toNat,by have:=A.out.bd.1;omega⟩
 have Z:w.cell? ⟨g,2,none⟩=some (.int .u8 120):=A.out.kind kV;have c7:=A.out.size B;have H:=Qh B;have KJ:sz≤1048576:=by omega
 clear jY kV DT Jm B;have hN:=HC.out.hN;have KG:=HC.out.hc;have Zy:=A.out.ha;have W:=sL (some ⟨b0,o0,none⟩) N c bs w (a+512) (sz:Int) HC.out.len (by omega) KG (by have:=HC.out.Bu;unfold maxLen;omega) (HC.out.nB.below A.out.sn) (by omega) (by omega) (by omega);rw[show((a+512:Nat):Int)=(a:Int)+512 by omega]at W;have d:=Qh W;clear W
 conv=>arg 2;whnf
 go_wp2_with fail
 refine d.out.mono ?_;clear d;rintro e wz ⟨rfl,(⟨oH,rfl⟩|⟨hle,oE,q1,d1,rfl,u,SR,J⟩)⟩
 ·have E:Hid (aG (bs.drop a) s=.fault 2):=Qh (by
   rw[V.out];refine yK Y.out (by have:=R.out;omega) (sk ?_);rw[H.out,Qe,HC.out.len];rcases oH with oH|oH
   ·exact .inl oH
   ·exact .inr (by omega))
  clear oH;obtain⟨r0,r1,f0,f1⟩:=jJ HC.out.box A.out.sn;go_wp2;exact jW (br.out 2 E.out) HC.out.box HC.out.b1 HC.out.rd.bel A.out.sn _ rfl rfl
 ·simp only[Int.toNat_natCast]at oE u J⊢
  obtain⟨T,G⟩:∃T,(bs.drop (a+512)).take sz=T:=⟨_,rfl⟩
  have Ul:=(jL sz).1
  have l:Hid (kF (bs.drop a) h.size=some (T,512+aw sz)):=Qh (by
   have:=sr (L:=bs.drop a) (n:=h.size) (by rw[H.out];exact hle) (by rw[H.out,Qe,HC.out.len,Int.toNat_natCast];omega)
   rw[this,H.out,Int.toNat_natCast,List.drop_drop,G])
  have o:T.length=sz:=by rw[←G,Qg,Qe,HC.out.len];omega
  rw[G]at J;obtain⟨tu,m⟩:∃tu,a+512+aw sz=tu:=⟨_,rfl⟩
  rw[m];have KV:Hid (a<tu):=Qh (by omega);have KW:Hid (tu≤N):=Qh (by omega);have Tn:Hid (tu=a+(512+aw sz)):=Qh (by omega);have BO:=Qh J;have vz:=Qh o;clear oE J G o m hle SR Ul;obtain⟨⟨rs,f⟩,I⟩:∃x,aO 5 9 T=x:=⟨_,rfl⟩
  have D:=AD q1 sz d1 T w vz.out u (by omega) BO.out;unfold vA at D;rw[I]at D;have O:=sN 5 9 T;rw[I,vz.out]at O;have t:Hid ((∀r∈rs,r.2.length≤1048576)∧rs.length≤sz):=Qh ⟨fun r hr=>by have:=O.1 r hr;omega,O.2⟩;have z:=Qh D;have wL:=Qh I;clear D I O;go_wp2_with fail;refine z.out.mono ?_;clear z;rintro e w4 ⟨p5,c5,rfl,hlc,aA5,y,U,vY⟩;have X:=Qh (A.out.sn.trans (U.mono A.out.sn.size));have Xx:=Qh y;have Zo:=Qh vY;have c2w:w4.cell? ⟨g,2,none⟩=some (.int .u8 120):=by rw[U.cell (p:=⟨g,2,none⟩) A.out.head.lt];exact Z
  clear y vY U Z c7
  by_cases hf:f=0
  case neg=>
   have hfz:(f != 0)=true:=by simpa using hf
   have E:Hid (aG (bs.drop a) s=.fault f):=Qh (by rw[V.out];exact Wq (.inl pC.out) Y.out (by have:=R.out;omega) l.out wL.out hf);clear hf;obtain⟨r0,r1,f0,f1⟩:=jJ HC.out.box X.out;go_wp2;exact jW (br.out f E.out) HC.out.box HC.out.b1 HC.out.rd.bel X.out _ rfl rfl
  case pos=>
   subst hf;have b:=Qh ((HC.out.rd.below X.out).as4 (k:=512+aw sz) (rs:=rs) (by rw[V.out];exact aj4 pC.out Y.out (by have:=R.out;omega) l.out wL.out) t.out.1 (Nat.le_trans t.out.2 KJ) (HC.out.rd.below A.out.sn) (c':=c5) Xx.out Zo.out);rw[←Tn.out]at b;go_wp2;exact kE.out _ _ tu _ _ _ _ p5 rs.length c5 nm lk true hl hk b.out KV.out KW.out rfl rfl rfl rfl rfl rfl rfl rfl rfl rfl rfl rfl
theorem Vq (C:M0 wa W1 wr bs a N c (some ⟨b0,o0,none⟩) s vo xs vg q qn qd nm.data.toList lk.data.toList hx hl hk) (M:MH wr w a N g h) (jY:aG (bs.drop a) s=ji (bs.drop a) h s) (kV:h.kind=103) (DT:¬qq h s) (Jm:¬1048576<h.size) (bL:iX wa a bs s Q) (aI:bt wa W1 bs a N c (some ⟨b0,o0,none⟩) Q (.exit 1)):Code.wp Tryz.prog (jc 26) Q ⟨#[.slice (some ⟨b0,o0,none⟩) N c,u1,u2,.pointer (some ⟨wa.heap.size,0,none⟩),vo,vg,.slice q qn qd,.string nm,.string lk,.bool hx,.bool hl,.bool hk,.int .i64 (a:Int),nV,.int .i64 ((a:Int)+512),.pointer (some ⟨g,0,none⟩),u16,lx,ly,lz,lA,lB,pW,lC,lD,lE,lF,lG,lH,lI,lJ,lK,u32,lL,lM,lN,lO,lP,lQ,lR,lS,lT,lU,lV,lW,lX,lY,lZ,l8,l9,ma,mc,me,mf,mh,mi,mj,ml,mq,mr,mu,my,mA,mB,u64,mC,mD,mE,mF,mG,mH,mI,mJ,mK,mL,mM,mN,mO,mP,mQ,mR,mS,mT,mU,mV,mW,mX,mY,mZ,na,nf,ng,nh,ni,nj,nk,np,nr,nt,nu,cD,cE,cF,cG,cH,cI,cJ,cK,cL,cM,cN,cO,cP,cQ,cR,cT,cU,cV,cW,cX,cY,cZ,dc,dd,dh,di,dj,dn,dq,dr,dt,du,dv,dw,dx,dy,dz,dA,dB,dC,dD,dE,dF,dG,dH,dI,dJ,dK,dL,dM,dN,dO,dP,dQ,dR,dS,dU,dV,dW,dX,dY,dZ,ea,eb,ee,ef,eh,ei,ej,eo,et,eu,ew,ey,ez,eA,eB,eC,eD,eE,eF,eG,eH,eI,eJ,eK,eM,eN,eO,eP,eQ,eR,eS,eT,eU,eV,eW,eX,eY,eZ,fa,fb,fc,ff,fg,fh,fi,fj,fk,fp,fq,fr,ft,fu,fv,fw,fx,fy,fz,fA,fB,fC,fD,fE,fF,fG,fH,fI,fJ,fK,fL,fM,fN,fO,fP,fQ,fR,fS,fT,fU,fV,fW,fX,fY,fZ,ga,gh,gj,gn,gq,gr,gu,gv,gw,gy,gz,gA,gB,gC,gD,gE,gF,gG,gH,gI,gJ,gK,gL,gM,gN,gO,gP,gQ,gR,gS,gT,gU,gV,gW,gX,gY,gZ,ia,ib,ic,ie,ig,ij,ik,il,im,iq,ir,iu,iv,iw,iy,iz],[]⟩ w:=by
 have HC:=Qh C;have A:=Qh M;have br:=Qh bL;have kE:=Qh aI;clear C M bL aI;have d:=Qh jY;have pC:=Qh kV;have m:=Qh DT;have W:=Qh Jm;obtain⟨sz,B⟩:∃sz:Nat,h.size=(sz:Int):=⟨h.size.toNat,by have:=A.out.bd.1;omega⟩
 have o:w.cell? ⟨g,2,none⟩=some (.int .u8 103):=A.out.kind kV;have c7:=A.out.size B;have I:=Qh B;have KJ:sz≤1048576:=by omega
 clear jY kV DT Jm B;have hN:=HC.out.hN;have KG:=HC.out.hc;have Zy:=A.out.ha;have l:=sL (some ⟨b0,o0,none⟩) N c bs w (a+512) (sz:Int) HC.out.len (by omega) KG (by have:=HC.out.Bu;unfold maxLen;omega) (HC.out.nB.below A.out.sn) (by omega) (by omega) (by omega);rw[show((a+512:Nat):Int)=(a:Int)+512 by omega]at l;have u:=Qh l;clear l
 conv=>arg 2;whnf
 go_wp2_with fail
 refine u.out.mono ?_;clear u;rintro e wz ⟨rfl,(⟨oH,rfl⟩|⟨hle,oE,q1,d1,rfl,Q3,SR,O⟩)⟩
 ·have E:Hid (aG (bs.drop a) s=.fault 2):=Qh (by
   rw[d.out];refine yK m.out (by have:=W.out;omega) (sk ?_);rw[I.out,Qe,HC.out.len];rcases oH with oH|oH
   ·exact .inl oH
   ·exact .inr (by omega))
  clear oH;obtain⟨r0,r1,f0,f1⟩:=jJ HC.out.box A.out.sn;go_wp2;exact jW (br.out 2 E.out) HC.out.box HC.out.b1 HC.out.rd.bel A.out.sn _ rfl rfl
 ·simp only[Int.toNat_natCast]at oE Q3 O⊢
  obtain⟨T,H⟩:∃T,(bs.drop (a+512)).take sz=T:=⟨_,rfl⟩
  have Ul:=(jL sz).1
  have z:Hid (kF (bs.drop a) h.size=some (T,512+aw sz)):=Qh (by
   have:=sr (L:=bs.drop a) (n:=h.size) (by rw[I.out];exact hle) (by rw[I.out,Qe,HC.out.len,Int.toNat_natCast];omega)
   rw[this,I.out,Int.toNat_natCast,List.drop_drop,H])
  have Oq:T.length=sz:=by rw[←H,Qg,Qe,HC.out.len];omega
  rw[H]at O;obtain⟨tu,OJ⟩:∃tu,a+512+aw sz=tu:=⟨_,rfl⟩
  rw[OJ];have KV:Hid (a<tu):=Qh (by omega);have KW:Hid (tu≤N):=Qh (by omega);have Tn:Hid (tu=a+(512+aw sz)):=Qh (by omega);have BO:=Qh O;have vz:=Qh Oq;clear oE O H Oq OJ hle SR Ul;obtain⟨⟨rs,f⟩,J⟩:∃x,aO 5 9 T=x:=⟨_,rfl⟩
  have G:=AD q1 sz d1 T w vz.out Q3 (by omega) BO.out;unfold vA at G;rw[J]at G;have R:=sN 5 9 T;rw[J,vz.out]at R;have X:Hid ((∀r∈rs,r.2.length≤1048576)∧rs.length≤sz):=Qh ⟨fun r hr=>by have:=R.1 r hr;omega,R.2⟩;have Xy:=Qh G;have wL:=Qh J;clear G J R;go_wp2_with fail;refine Xy.out.mono ?_;clear Xy;rintro e w4 ⟨p5,c5,rfl,hlc,aA5,Q4,b,vY⟩;have D:=Qh (A.out.sn.trans (b.mono A.out.sn.size));have Xx:=Qh Q4;have Zo:=Qh vY;have c2w:w4.cell? ⟨g,2,none⟩=some (.int .u8 103):=by rw[b.cell (p:=⟨g,2,none⟩) A.out.head.lt];exact o
  clear Q4 vY b o c7
  by_cases hf:f=0
  case neg=>
   have hfz:(f != 0)=true:=by simpa using hf
   have E:Hid (aG (bs.drop a) s=.fault f):=Qh (by rw[d.out];exact Wq (.inr pC.out) m.out (by have:=W.out;omega) z.out wL.out hf);clear hf;obtain⟨r0,r1,f0,f1⟩:=jJ HC.out.box D.out;go_wp2;exact jW (br.out f E.out) HC.out.box HC.out.b1 HC.out.rd.bel D.out _ rfl rfl
  case pos=>
   subst hf;have U:=Qh (HC.out.rd.below D.out).bE;have V:=Qh HC.out.rd.L0;have Y:=Qh (HC.out.rd.below D.out).bel.size
   go_wp2_with (at_builtin;refine AX rfl _ _ rfl W1.heap.size _ s.bE.length s.bE rfl rfl U.out p5 rs.length c5 rs rfl Xx.out ?e1 Y.out ?_)
   case e1=>have:=V.out;have:=X.out.2;omega
   intro v5 w5 Z X9 y;rw[show List.length s.bE+rs.length=List.length (s.bE++rs) by rw[Qf]]at Z;have t:=Qh ((HC.out.rd.below D.out).as0 (k:=512+aw sz) (rs:=rs) (by rw[d.out];exact Zg pC.out m.out (by have:=W.out;omega) z.out wL.out) X.out.1 (by have:=X.out.2;have:=(jL sz).1;omega) Z X9 y);rw[←Tn.out]at t;clear Z X9 y;go_wp2;exact kE.out _ _ tu _ _ _ _ q qn qd nm lk hx hl hk t.out KV.out KW.out rfl rfl rfl rfl rfl rfl rfl rfl rfl rfl rfl rfl
theorem YG (C:M0 wa W1 wr bs a N c (some ⟨b0,o0,none⟩) s vo xs vg q qn qd nm.data.toList lk.data.toList hx hl hk) (M:MH wr w a N g h) (jY:aG (bs.drop a) s=ji (bs.drop a) h s) (kV:h.kind=120∨h.kind=76∨h.kind=75∨h.kind=103) (DT:¬qq h s) (bL:iX wa a bs s Q) (aI:bt wa W1 bs a N c (some ⟨b0,o0,none⟩) Q (.exit 1)):Code.wp Tryz.prog (jc 24) Q ⟨#[.slice (some ⟨b0,o0,none⟩) N c,u1,u2,.pointer (some ⟨wa.heap.size,0,none⟩),vo,vg,.slice q qn qd,.string nm,.string lk,.bool hx,.bool hl,.bool hk,.int .i64 (a:Int),nV,.int .i64 ((a:Int)+512),.pointer (some ⟨g,0,none⟩),u16,lx,ly,lz,lA,lB,pW,lC,lD,lE,lF,lG,lH,lI,lJ,lK,u32,lL,lM,lN,lO,lP,lQ,lR,lS,lT,lU,lV,lW,lX,lY,lZ,l8,l9,ma,mc,me,mf,mh,mi,mj,ml,mq,mr,mu,my,mA,mB,u64,mC,mD,mE,mF,mG,mH,mI,mJ,mK,mL,mM,mN,mO,mP,mQ,mR,mS,mT,mU,mV,mW,mX,mY,mZ,na,nf,ng,nh,ni,nj,nk,np,nr,nt,nu,cD,cE,cF,cG,cH,cI,cJ,cK,cL,cM,cN,cO,cP,cQ,cR,cT,cU,cV,cW,cX,cY,cZ,dc,dd,dh,di,dj,dn,dq,dr,dt,du,dv,dw,dx,dy,dz,dA,dB,dC,dD,dE,dF,dG,dH,dI,dJ,dK,dL,dM,dN,dO,dP,dQ,dR,dS,dU,dV,dW,dX,dY,dZ,ea,eb,ee,ef,eh,ei,ej,eo,et,eu,ew,ey,ez,eA,eB,eC,eD,eE,eF,eG,eH,eI,eJ,eK,eM,eN,eO,eP,eQ,eR,eS,eT,eU,eV,eW,eX,eY,eZ,fa,fb,fc,ff,fg,fh,fi,fj,fk,fp,fq,fr,ft,fu,fv,fw,fx,fy,fz,fA,fB,fC,fD,fE,fF,fG,fH,fI,fJ,fK,fL,fM,fN,fO,fP,fQ,fR,fS,fT,fU,fV,fW,fX,fY,fZ,ga,gh,gj,gn,gq,gr,gu,gv,gw,gy,gz,gA,gB,gC,gD,gE,gF,gG,gH,gI,gJ,gK,gL,gM,gN,gO,gP,gQ,gR,gS,gT,gU,gV,gW,gX,gY,gZ,ia,ib,ic,ie,ig,ij,ik,il,im,iq,ir,iu,iv,iw,iy,iz],[]⟩ w:=by
 have HC:=Qh C;have A:=Qh M;have D:=Qh bL;have J:=Qh aI;clear C M bL aI;have G:=Qh jY;have R:=Qh kV;have H:=Qh DT;have c7:=A.out.size rfl;clear jY kV DT
 conv=>arg 2;whnf
 refine wp_seq_k (fun K O=>?_);have I:=Qh O;clear O
 by_cases L:1048576<h.size
 ·have B:=Qh L
  have E:Hid (aG (bs.drop a) s=.fault 10):=Qh (by rw[G.out];exact Ws H.out B.out);obtain⟨T,U,f0,f1⟩:=jJ HC.out.box A.out.sn;go_wp2;exact jW (D.out 10 E.out) HC.out.box HC.out.b1 HC.out.rd.bel A.out.sn _ rfl rfl
 ·have B:Hid (¬1048576<h.size):=Qh L
  go_wp2;rcases R.out with ow|ow|ow|ow
  ·exact I.out _ _ (Vr HC.out A.out G.out ow H.out (by have:=B.out;omega) D.out J.out)
  ·exact I.out _ _ (YI HC.out A.out G.out ow H.out (by have:=B.out;omega) D.out J.out)
  ·exact I.out _ _ (YH HC.out A.out G.out ow H.out (by have:=B.out;omega) D.out J.out)
  ·exact I.out _ _ (Vq HC.out A.out G.out ow H.out (by have:=B.out;omega) D.out J.out)
theorem Vp (C:M0 wa W1 wr bs a N c (some ⟨b0,o0,none⟩) s vo xs vg q qn qd nm.data.toList lk.data.toList hx hl hk) (M:MH wr w a N g h) (jY:aG (bs.drop a) s=ji (bs.drop a) h s) (kV:h.kind=120) (bL:iX wa a bs s Q) (aI:bt wa W1 bs a N c (some ⟨b0,o0,none⟩) Q (.exit 1)):Code.wp Tryz.prog (jc 22) Q ⟨#[.slice (some ⟨b0,o0,none⟩) N c,u1,u2,.pointer (some ⟨wa.heap.size,0,none⟩),vo,vg,.slice q qn qd,.string nm,.string lk,.bool hx,.bool hl,.bool hk,.int .i64 (a:Int),nV,.int .i64 ((a:Int)+512),.pointer (some ⟨g,0,none⟩),u16,lx,ly,lz,lA,lB,pW,lC,lD,lE,lF,lG,lH,lI,lJ,lK,u32,lL,lM,lN,lO,lP,lQ,lR,lS,lT,lU,lV,lW,lX,lY,lZ,l8,l9,ma,mc,me,mf,mh,mi,mj,ml,mq,mr,mu,my,mA,mB,u64,mC,mD,mE,mF,mG,mH,mI,mJ,mK,mL,mM,mN,mO,mP,mQ,mR,mS,mT,mU,mV,mW,mX,mY,mZ,na,nf,ng,nh,ni,nj,nk,np,nr,nt,nu,cD,cE,cF,cG,cH,cI,cJ,cK,cL,cM,cN,cO,cP,cQ,cR,cT,cU,cV,cW,cX,cY,cZ,dc,dd,dh,di,dj,dn,dq,dr,dt,du,dv,dw,dx,dy,dz,dA,dB,dC,dD,dE,dF,dG,dH,dI,dJ,dK,dL,dM,dN,dO,dP,dQ,dR,dS,dU,dV,dW,dX,dY,dZ,ea,eb,ee,ef,eh,ei,ej,eo,et,eu,ew,ey,ez,eA,eB,eC,eD,eE,eF,eG,eH,eI,eJ,eK,eM,eN,eO,eP,eQ,eR,eS,eT,eU,eV,eW,eX,eY,eZ,fa,fb,fc,ff,fg,fh,fi,fj,fk,fp,fq,fr,ft,fu,fv,fw,fx,fy,fz,fA,fB,fC,fD,fE,fF,fG,fH,fI,fJ,fK,fL,fM,fN,fO,fP,fQ,fR,fS,fT,fU,fV,fW,fX,fY,fZ,ga,gh,gj,gn,gq,gr,gu,gv,gw,gy,gz,gA,gB,gC,gD,gE,gF,gG,gH,gI,gJ,gK,gL,gM,gN,gO,gP,gQ,gR,gS,gT,gU,gV,gW,gX,gY,gZ,ia,ib,ic,ie,ig,ij,ik,il,im,iq,ir,iu,iv,iw,iy,iz],[]⟩ w:=by
 have HC:=Qh C;have A:=Qh M;have D:=Qh bL;have J:=Qh aI;clear C M bL aI;have H:=Qh jY;have B:=Qh kV;have O:w.cell? ⟨g,2,none⟩=some (.int .u8 120):=A.out.kind kV;clear jY kV
 conv=>arg 2;whnf
 refine wp_seq_k (fun K G=>?_);have I:=Qh G;clear G
 cases hx with
 |true=>
  have E:Hid (aG (bs.drop a) s=.fault 5):=Qh (by rw[H.out];exact NM (.inl ⟨B.out,HC.out.rd.iT⟩));obtain⟨R,T,f0,f1⟩:=jJ HC.out.box A.out.sn;go_wp2;exact jW (D.out 5 E.out) HC.out.box HC.out.b1 HC.out.rd.bel A.out.sn _ rfl rfl
 |false=>
  have L:Hid (¬qq h s):=Qh (by
   rintro(⟨h1,h2⟩|⟨h1,h2⟩|⟨h1,h2⟩)
   ·exact by rw[HC.out.rd.iT]at h2;cases h2
   ·exact by rw[B.out]at h1;exact absurd h1 (by decide)
   ·exact by rw[B.out]at h1;exact absurd h1 (by decide))
  go_wp2;exact I.out _ _ (YG HC.out A.out H.out (.inl B.out) L.out D.out J.out)
theorem YF (C:M0 wa W1 wr bs a N c (some ⟨b0,o0,none⟩) s vo xs vg q qn qd nm.data.toList lk.data.toList hx hl hk) (M:MH wr w a N g h) (jY:aG (bs.drop a) s=ji (bs.drop a) h s) (kV:h.kind=76) (bL:iX wa a bs s Q) (aI:bt wa W1 bs a N c (some ⟨b0,o0,none⟩) Q (.exit 1)):Code.wp Tryz.prog (jc 22) Q ⟨#[.slice (some ⟨b0,o0,none⟩) N c,u1,u2,.pointer (some ⟨wa.heap.size,0,none⟩),vo,vg,.slice q qn qd,.string nm,.string lk,.bool hx,.bool hl,.bool hk,.int .i64 (a:Int),nV,.int .i64 ((a:Int)+512),.pointer (some ⟨g,0,none⟩),u16,lx,ly,lz,lA,lB,pW,lC,lD,lE,lF,lG,lH,lI,lJ,lK,u32,lL,lM,lN,lO,lP,lQ,lR,lS,lT,lU,lV,lW,lX,lY,lZ,l8,l9,ma,mc,me,mf,mh,mi,mj,ml,mq,mr,mu,my,mA,mB,u64,mC,mD,mE,mF,mG,mH,mI,mJ,mK,mL,mM,mN,mO,mP,mQ,mR,mS,mT,mU,mV,mW,mX,mY,mZ,na,nf,ng,nh,ni,nj,nk,np,nr,nt,nu,cD,cE,cF,cG,cH,cI,cJ,cK,cL,cM,cN,cO,cP,cQ,cR,cT,cU,cV,cW,cX,cY,cZ,dc,dd,dh,di,dj,dn,dq,dr,dt,du,dv,dw,dx,dy,dz,dA,dB,dC,dD,dE,dF,dG,dH,dI,dJ,dK,dL,dM,dN,dO,dP,dQ,dR,dS,dU,dV,dW,dX,dY,dZ,ea,eb,ee,ef,eh,ei,ej,eo,et,eu,ew,ey,ez,eA,eB,eC,eD,eE,eF,eG,eH,eI,eJ,eK,eM,eN,eO,eP,eQ,eR,eS,eT,eU,eV,eW,eX,eY,eZ,fa,fb,fc,ff,fg,fh,fi,fj,fk,fp,fq,fr,ft,fu,fv,fw,fx,fy,fz,fA,fB,fC,fD,fE,fF,fG,fH,fI,fJ,fK,fL,fM,fN,fO,fP,fQ,fR,fS,fT,fU,fV,fW,fX,fY,fZ,ga,gh,gj,gn,gq,gr,gu,gv,gw,gy,gz,gA,gB,gC,gD,gE,gF,gG,gH,gI,gJ,gK,gL,gM,gN,gO,gP,gQ,gR,gS,gT,gU,gV,gW,gX,gY,gZ,ia,ib,ic,ie,ig,ij,ik,il,im,iq,ir,iu,iv,iw,iy,iz],[]⟩ w:=by
 have HC:=Qh C;have A:=Qh M;have D:=Qh bL;have J:=Qh aI;clear C M bL aI;have H:=Qh jY;have B:=Qh kV;have O:w.cell? ⟨g,2,none⟩=some (.int .u8 76):=A.out.kind kV;clear jY kV
 conv=>arg 2;whnf
 refine wp_seq_k (fun K G=>?_);have I:=Qh G;clear G
 cases hl with
 |true=>
  have E:Hid (aG (bs.drop a) s=.fault 5):=Qh (by rw[H.out];exact NM (.inr (.inl ⟨B.out,by rw[HC.out.rd.name];rfl⟩)));obtain⟨R,T,f0,f1⟩:=jJ HC.out.box A.out.sn;go_wp2;exact jW (D.out 5 E.out) HC.out.box HC.out.b1 HC.out.rd.bel A.out.sn _ rfl rfl
 |false=>
  have L:Hid (¬qq h s):=Qh (by
   rintro(⟨h1,h2⟩|⟨h1,h2⟩|⟨h1,h2⟩)
   ·exact by rw[B.out]at h1;exact absurd h1 (by decide)
   ·exact by rw[HC.out.rd.name]at h2;cases h2
   ·exact by rw[B.out]at h1;exact absurd h1 (by decide))
  go_wp2;exact I.out _ _ (YG HC.out A.out H.out (.inr (.inl B.out)) L.out D.out J.out)
theorem YE (C:M0 wa W1 wr bs a N c (some ⟨b0,o0,none⟩) s vo xs vg q qn qd nm.data.toList lk.data.toList hx hl hk) (M:MH wr w a N g h) (jY:aG (bs.drop a) s=ji (bs.drop a) h s) (kV:h.kind=75) (bL:iX wa a bs s Q) (aI:bt wa W1 bs a N c (some ⟨b0,o0,none⟩) Q (.exit 1)):Code.wp Tryz.prog (jc 22) Q ⟨#[.slice (some ⟨b0,o0,none⟩) N c,u1,u2,.pointer (some ⟨wa.heap.size,0,none⟩),vo,vg,.slice q qn qd,.string nm,.string lk,.bool hx,.bool hl,.bool hk,.int .i64 (a:Int),nV,.int .i64 ((a:Int)+512),.pointer (some ⟨g,0,none⟩),u16,lx,ly,lz,lA,lB,pW,lC,lD,lE,lF,lG,lH,lI,lJ,lK,u32,lL,lM,lN,lO,lP,lQ,lR,lS,lT,lU,lV,lW,lX,lY,lZ,l8,l9,ma,mc,me,mf,mh,mi,mj,ml,mq,mr,mu,my,mA,mB,u64,mC,mD,mE,mF,mG,mH,mI,mJ,mK,mL,mM,mN,mO,mP,mQ,mR,mS,mT,mU,mV,mW,mX,mY,mZ,na,nf,ng,nh,ni,nj,nk,np,nr,nt,nu,cD,cE,cF,cG,cH,cI,cJ,cK,cL,cM,cN,cO,cP,cQ,cR,cT,cU,cV,cW,cX,cY,cZ,dc,dd,dh,di,dj,dn,dq,dr,dt,du,dv,dw,dx,dy,dz,dA,dB,dC,dD,dE,dF,dG,dH,dI,dJ,dK,dL,dM,dN,dO,dP,dQ,dR,dS,dU,dV,dW,dX,dY,dZ,ea,eb,ee,ef,eh,ei,ej,eo,et,eu,ew,ey,ez,eA,eB,eC,eD,eE,eF,eG,eH,eI,eJ,eK,eM,eN,eO,eP,eQ,eR,eS,eT,eU,eV,eW,eX,eY,eZ,fa,fb,fc,ff,fg,fh,fi,fj,fk,fp,fq,fr,ft,fu,fv,fw,fx,fy,fz,fA,fB,fC,fD,fE,fF,fG,fH,fI,fJ,fK,fL,fM,fN,fO,fP,fQ,fR,fS,fT,fU,fV,fW,fX,fY,fZ,ga,gh,gj,gn,gq,gr,gu,gv,gw,gy,gz,gA,gB,gC,gD,gE,gF,gG,gH,gI,gJ,gK,gL,gM,gN,gO,gP,gQ,gR,gS,gT,gU,gV,gW,gX,gY,gZ,ia,ib,ic,ie,ig,ij,ik,il,im,iq,ir,iu,iv,iw,iy,iz],[]⟩ w:=by
 have HC:=Qh C;have A:=Qh M;have D:=Qh bL;have J:=Qh aI;clear C M bL aI;have H:=Qh jY;have B:=Qh kV;have O:w.cell? ⟨g,2,none⟩=some (.int .u8 75):=A.out.kind kV;clear jY kV
 conv=>arg 2;whnf
 refine wp_seq_k (fun K G=>?_);have I:=Qh G;clear G
 cases hk with
 |true=>
  have E:Hid (aG (bs.drop a) s=.fault 5):=Qh (by rw[H.out];exact NM (.inr (.inr ⟨B.out,by rw[HC.out.rd.link];rfl⟩)));obtain⟨R,T,f0,f1⟩:=jJ HC.out.box A.out.sn;go_wp2;exact jW (D.out 5 E.out) HC.out.box HC.out.b1 HC.out.rd.bel A.out.sn _ rfl rfl
 |false=>
  have L:Hid (¬qq h s):=Qh (by
   rintro(⟨h1,h2⟩|⟨h1,h2⟩|⟨h1,h2⟩)
   ·exact by rw[B.out]at h1;exact absurd h1 (by decide)
   ·exact by rw[B.out]at h1;exact absurd h1 (by decide)
   ·exact by rw[HC.out.rd.link]at h2;cases h2)
  go_wp2;exact I.out _ _ (YG HC.out A.out H.out (.inr (.inr (.inl B.out))) L.out D.out J.out)
theorem Vo (C:M0 wa W1 wr bs a N c (some ⟨b0,o0,none⟩) s vo xs vg q qn qd nm.data.toList lk.data.toList hx hl hk) (M:MH wr w a N g h) (jY:aG (bs.drop a) s=ji (bs.drop a) h s) (kV:h.kind=103) (bL:iX wa a bs s Q) (aI:bt wa W1 bs a N c (some ⟨b0,o0,none⟩) Q (.exit 1)):Code.wp Tryz.prog (jc 22) Q ⟨#[.slice (some ⟨b0,o0,none⟩) N c,u1,u2,.pointer (some ⟨wa.heap.size,0,none⟩),vo,vg,.slice q qn qd,.string nm,.string lk,.bool hx,.bool hl,.bool hk,.int .i64 (a:Int),nV,.int .i64 ((a:Int)+512),.pointer (some ⟨g,0,none⟩),u16,lx,ly,lz,lA,lB,pW,lC,lD,lE,lF,lG,lH,lI,lJ,lK,u32,lL,lM,lN,lO,lP,lQ,lR,lS,lT,lU,lV,lW,lX,lY,lZ,l8,l9,ma,mc,me,mf,mh,mi,mj,ml,mq,mr,mu,my,mA,mB,u64,mC,mD,mE,mF,mG,mH,mI,mJ,mK,mL,mM,mN,mO,mP,mQ,mR,mS,mT,mU,mV,mW,mX,mY,mZ,na,nf,ng,nh,ni,nj,nk,np,nr,nt,nu,cD,cE,cF,cG,cH,cI,cJ,cK,cL,cM,cN,cO,cP,cQ,cR,cT,cU,cV,cW,cX,cY,cZ,dc,dd,dh,di,dj,dn,dq,dr,dt,du,dv,dw,dx,dy,dz,dA,dB,dC,dD,dE,dF,dG,dH,dI,dJ,dK,dL,dM,dN,dO,dP,dQ,dR,dS,dU,dV,dW,dX,dY,dZ,ea,eb,ee,ef,eh,ei,ej,eo,et,eu,ew,ey,ez,eA,eB,eC,eD,eE,eF,eG,eH,eI,eJ,eK,eM,eN,eO,eP,eQ,eR,eS,eT,eU,eV,eW,eX,eY,eZ,fa,fb,fc,ff,fg,fh,fi,fj,fk,fp,fq,fr,ft,fu,fv,fw,fx,fy,fz,fA,fB,fC,fD,fE,fF,fG,fH,fI,fJ,fK,fL,fM,fN,fO,fP,fQ,fR,fS,fT,fU,fV,fW,fX,fY,fZ,ga,gh,gj,gn,gq,gr,gu,gv,gw,gy,gz,gA,gB,gC,gD,gE,gF,gG,gH,gI,gJ,gK,gL,gM,gN,gO,gP,gQ,gR,gS,gT,gU,gV,gW,gX,gY,gZ,ia,ib,ic,ie,ig,ij,ik,il,im,iq,ir,iu,iv,iw,iy,iz],[]⟩ w:=by
 have HC:=Qh C;have B:=Qh M;have G:=Qh bL;have H:=Qh aI;clear C M bL aI;have I:=Qh jY;have A:=Qh kV;have L:w.cell? ⟨g,2,none⟩=some (.int .u8 103):=B.out.kind kV;clear jY kV
 conv=>arg 2;whnf
 refine wp_seq_k (fun K D=>?_);have E:=Qh D;clear D
 have J:Hid (¬qq h s):=Qh (by
  rintro(⟨h1,h2⟩|⟨h1,h2⟩|⟨h1,h2⟩)
  ·exact by rw[A.out]at h1;exact absurd h1 (by decide)
  ·exact by rw[A.out]at h1;exact absurd h1 (by decide)
  ·exact by rw[A.out]at h1;exact absurd h1 (by decide))
 go_wp2;exact E.out _ _ (YG HC.out B.out I.out (.inr (.inr (.inr A.out))) J.out G.out H.out)
theorem YJ (C:M0 wa W1 wr bs a N c (some ⟨b0,o0,none⟩) s vo xs vg q qn qd nm.data.toList lk.data.toList hx hl hk) (M:MH wr w a N g h) (jY:aG (bs.drop a) s=oo (bs.drop a) h s) (GA:¬4096≤s.out.length) (kV:¬(h.kind≠48∧h.kind≠49∧h.kind≠50∧h.kind≠53)) (bL:iX wa a bs s Q) (aI:bt wa W1 bs a N c (some ⟨b0,o0,none⟩) Q .normal):Code.wp Tryz.prog (jc 45) Q ⟨#[.slice (some ⟨b0,o0,none⟩) N c,u1,u2,.pointer (some ⟨wa.heap.size,0,none⟩),vo,vg,.slice q qn qd,.string nm,.string lk,.bool hx,.bool hl,.bool hk,.int .i64 (a:Int),nV,.int .i64 ((a:Int)+512),.pointer (some ⟨g,0,none⟩),u16,lx,ly,lz,lA,lB,pW,lC,lD,lE,lF,lG,lH,lI,lJ,lK,u32,lL,lM,lN,lO,lP,lQ,lR,lS,lT,lU,lV,lW,lX,lY,lZ,l8,l9,ma,mc,me,mf,mh,mi,mj,ml,mq,mr,mu,my,mA,mB,u64,mC,mD,mE,mF,mG,mH,mI,mJ,mK,mL,mM,mN,mO,mP,mQ,mR,mS,mT,mU,mV,mW,mX,mY,mZ,na,nf,ng,nh,ni,nj,nk,np,nr,nt,nu,cD,cE,cF,cG,cH,cI,cJ,cK,cL,cM,cN,cO,cP,cQ,cR,cT,cU,cV,cW,cX,cY,cZ,dc,dd,dh,di,dj,dn,dq,dr,dt,du,dv,dw,dx,dy,dz,dA,dB,dC,dD,dE,dF,dG,dH,dI,dJ,dK,dL,dM,dN,dO,dP,dQ,dR,dS,dU,dV,dW,dX,dY,dZ,ea,eb,ee,ef,eh,ei,ej,eo,et,eu,ew,ey,ez,eA,eB,eC,eD,eE,eF,eG,eH,eI,eJ,eK,eM,eN,eO,eP,eQ,eR,eS,eT,eU,eV,eW,eX,eY,eZ,fa,fb,fc,ff,fg,fh,fi,fj,fk,fp,fq,fr,ft,fu,fv,fw,fx,fy,fz,fA,fB,fC,fD,fE,fF,fG,fH,fI,fJ,fK,fL,fM,fN,fO,fP,fQ,fR,fS,fT,fU,fV,fW,fX,fY,fZ,ga,gh,gj,gn,gq,gr,gu,gv,gw,gy,gz,gA,gB,gC,gD,gE,gF,gG,gH,gI,gJ,gK,gL,gM,gN,gO,gP,gQ,gR,gS,gT,gU,gV,gW,gX,gY,gZ,ia,ib,ic,ie,ig,ij,ik,il,im,iq,ir,iu,iv,iw,iy,iz],[]⟩ w:=by
 have G:Hid (MC wa W1 wr bs a N c b0 o0 s vo xs vg q qn qd nm.data.toList lk.data.toList hx hl hk h):=Qh ⟨C.b1,C.rd,C.box,C.nB,C.CY,C.len,C.hN,C.hc,C.Bu,M.ha,jY,GA,kV⟩;have I:=Qh C.rd.name;have H:=Qh C.rd.link;have A:=Qh M;have J:=Qh bL;have L:=Qh aI;have x0:=M.head.cell 0;have f0:=M.head.frozen 0;have O:=M.head.cell 1;have f1:=M.head.frozen 1;unfold aa at x0 O;simp only[Qc,Qa,Qb]at x0 O;clear C M jY GA kV bL aI
 conv=>arg 2;whnf
 refine wp_seq_k (fun K D=>?_);have B:=Qh D;clear D
 cases hl with
 |false=>
  cases hk with
  |false=>
   go_wp2;refine B.out _ _ ?_;clear B;refine wp_seq_k (fun K D=>?_);have B:=Qh D;clear D;go_wp2;refine B.out _ _ (YD G.out A.out.sn A.out.LV ?_ A.out.bd J.out L.out);unfold sI;rw[I.out,H.out];exact A.out.head
  |true=>
   go_wp2;refine B.out _ _ ?_;clear B;refine wp_seq_k (fun K D=>?_);have B:=Qh D;clear D;go_wp2;refine B.out _ _ (YD G.out (A.out.sn.setCell (p:=⟨g,1,none⟩) A.out.LV _) A.out.LV ?_ A.out.bd J.out L.out);unfold sI;rw[I.out,H.out];have:=A.out.head.set 1 (.string lk) (by decide:1<9);unfold aa at this⊢;simp only[Bool.false_eq_true,if_false,if_true,Option.getD_none,Option.getD_some,zF];exact this
 |true=>
  have E:=Qh (A.out.head.set 0 (.string nm) (by decide:0<9));have R:=E.out.cell 1;have g1:=E.out.frozen 1;unfold aa at R;simp only[List.set_toArray,List.set_cons_zero,Qc,Qa,Qb]at R
  cases hk with
  |false=>
   go_wp2;refine B.out _ _ ?_;clear B;refine wp_seq_k (fun K D=>?_);have B:=Qh D;clear D;go_wp2;refine B.out _ _ (YD G.out (A.out.sn.setCell (p:=⟨g,0,none⟩) A.out.LV _) A.out.LV ?_ A.out.bd J.out L.out);unfold sI;rw[I.out,H.out];have:=E.out;unfold aa at this⊢;simp only[Bool.false_eq_true,if_false,if_true,Option.getD_none,Option.getD_some,zF];exact this
  |true=>
   go_wp2;refine B.out _ _ ?_;clear B;refine wp_seq_k (fun K D=>?_);have B:=Qh D;clear D;go_wp2;refine B.out _ _ (YD G.out ((A.out.sn.setCell (p:=⟨g,0,none⟩) A.out.LV _).setCell (p:=⟨g,1,none⟩) A.out.LV _) A.out.LV ?_ A.out.bd J.out L.out);unfold sI;rw[I.out,H.out];have:=E.out.set 1 (.string lk) (by decide:1<9);unfold aa at this⊢;simp only[if_true,Option.getD_some,zF];exact this
theorem aE2 (C:M0 wa W1 wr bs a N c (some ⟨b0,o0,none⟩) s vo xs vg q qn qd nm.data.toList lk.data.toList hx hl hk) (M:MH wr w a N g h) (jY:aG (bs.drop a) s=oo (bs.drop a) h s) (GA:¬4096≤s.out.length) (bL:iX wa a bs s Q) (aI:bt wa W1 bs a N c (some ⟨b0,o0,none⟩) Q .normal):Code.wp Tryz.prog (jc 43) Q ⟨#[.slice (some ⟨b0,o0,none⟩) N c,u1,u2,.pointer (some ⟨wa.heap.size,0,none⟩),vo,vg,.slice q qn qd,.string nm,.string lk,.bool hx,.bool hl,.bool hk,.int .i64 (a:Int),nV,.int .i64 ((a:Int)+512),.pointer (some ⟨g,0,none⟩),u16,lx,ly,lz,lA,lB,pW,lC,lD,lE,lF,lG,lH,lI,lJ,lK,u32,lL,lM,lN,lO,lP,lQ,lR,lS,lT,lU,lV,lW,lX,lY,lZ,l8,l9,ma,mc,me,mf,mh,mi,mj,ml,mq,mr,mu,my,mA,mB,u64,mC,mD,mE,mF,mG,mH,mI,mJ,mK,mL,mM,mN,mO,mP,mQ,mR,mS,mT,mU,mV,mW,mX,mY,mZ,na,nf,ng,nh,ni,nj,nk,np,nr,nt,nu,cD,cE,cF,cG,cH,cI,cJ,cK,cL,cM,cN,cO,cP,cQ,cR,cT,cU,cV,cW,cX,cY,cZ,dc,dd,dh,di,dj,dn,dq,dr,dt,du,dv,dw,dx,dy,dz,dA,dB,dC,dD,dE,dF,dG,dH,dI,dJ,dK,dL,dM,dN,dO,dP,dQ,dR,dS,dU,dV,dW,dX,dY,dZ,ea,eb,ee,ef,eh,ei,ej,eo,et,eu,ew,ey,ez,eA,eB,eC,eD,eE,eF,eG,eH,eI,eJ,eK,eM,eN,eO,eP,eQ,eR,eS,eT,eU,eV,eW,eX,eY,eZ,fa,fb,fc,ff,fg,fh,fi,fj,fk,fp,fq,fr,ft,fu,fv,fw,fx,fy,fz,fA,fB,fC,fD,fE,fF,fG,fH,fI,fJ,fK,fL,fM,fN,fO,fP,fQ,fR,fS,fT,fU,fV,fW,fX,fY,fZ,ga,gh,gj,gn,gq,gr,gu,gv,gw,gy,gz,gA,gB,gC,gD,gE,gF,gG,gH,gI,gJ,gK,gL,gM,gN,gO,gP,gQ,gR,gS,gT,gU,gV,gW,gX,gY,gZ,ia,ib,ic,ie,ig,ij,ik,il,im,iq,ir,iu,iv,iw,iy,iz],[]⟩ w:=by
 have HC:=Qh C;have A:=Qh M;have G:=Qh bL;have L:=Qh aI;clear C M bL aI;have I:=Qh jY;have D:=Qh GA;have c2:w.cell? ⟨g,2,none⟩=some (.int .u8 (h.kind.toNat:Int)):=A.out.kind rfl;clear jY GA
 conv=>arg 2;whnf
 refine wp_seq_k (fun K T=>?_);have J:=Qh T;clear T
 by_cases B:h.kind=48∨h.kind=49∨h.kind=50∨h.kind=53
 case neg=>
  simp only[not_or]at B
  have H:∀j:UInt8,h.kind≠j→((h.kind.toNat:Int)==(j.toNat:Int))=false:=fun j U=>by
   rw[beq_eq_false_iff_ne];intro V;exact U (UInt8.toNat.inj (by omega))
  have m1:((h.kind.toNat:Int) != 48)=true:=by rw[bne,show((h.kind.toNat:Int)==48)=false from H 48 B.1];rfl
  have m2:((h.kind.toNat:Int) != 49)=true:=by rw[bne,show((h.kind.toNat:Int)==49)=false from H 49 B.2.1];rfl
  have m3:((h.kind.toNat:Int) != 50)=true:=by rw[bne,show((h.kind.toNat:Int)==50)=false from H 50 B.2.2.1];rfl
  have m4:((h.kind.toNat:Int) != 53)=true:=by rw[bne,show((h.kind.toNat:Int)==53)=false from H 53 B.2.2.2];rfl
  have E:Hid (aG (bs.drop a) s=.fault 8):=Qh (by rw[I.out];exact Yx D.out B);clear H B;obtain⟨W,X,f0,f1⟩:=jJ HC.out.box A.out.sn;go_wp2;exact jW (G.out 8 E.out) HC.out.box HC.out.b1 HC.out.rd.bel A.out.sn _ rfl rfl
 case pos=>
  have O:Hid (¬(h.kind≠48∧h.kind≠49∧h.kind≠50∧h.kind≠53)):=Qh (by rintro⟨h1,h2,h3,h4⟩;exact B.elim h1 (fun h=>h.elim h2 (fun h=>h.elim h3 h4)));rcases B with sB|sB|sB|sB
  ·have R:w.cell? ⟨g,2,none⟩=some (.int .u8 48):=A.out.kind sB
   clear c2 sB;go_wp2;exact J.out _ _ (YJ HC.out A.out I.out D.out O.out G.out L.out)
  ·have R:w.cell? ⟨g,2,none⟩=some (.int .u8 49):=A.out.kind sB
   clear c2 sB;go_wp2;exact J.out _ _ (YJ HC.out A.out I.out D.out O.out G.out L.out)
  ·have R:w.cell? ⟨g,2,none⟩=some (.int .u8 50):=A.out.kind sB
   clear c2 sB;go_wp2;exact J.out _ _ (YJ HC.out A.out I.out D.out O.out G.out L.out)
  ·have R:w.cell? ⟨g,2,none⟩=some (.int .u8 53):=A.out.kind sB
   clear c2 sB;go_wp2;exact J.out _ _ (YJ HC.out A.out I.out D.out O.out G.out L.out)
theorem aE1 (C:M0 wa W1 wr bs a N c (some ⟨b0,o0,none⟩) s vo xs vg q qn qd nm.data.toList lk.data.toList hx hl hk) (M:MH wr w a N g h) (jY:aG (bs.drop a) s=oo (bs.drop a) h s) (bL:iX wa a bs s Q) (aI:bt wa W1 bs a N c (some ⟨b0,o0,none⟩) Q .normal):Code.wp Tryz.prog (jc 41) Q ⟨#[.slice (some ⟨b0,o0,none⟩) N c,u1,u2,.pointer (some ⟨wa.heap.size,0,none⟩),vo,vg,.slice q qn qd,.string nm,.string lk,.bool hx,.bool hl,.bool hk,.int .i64 (a:Int),nV,.int .i64 ((a:Int)+512),.pointer (some ⟨g,0,none⟩),u16,lx,ly,lz,lA,lB,pW,lC,lD,lE,lF,lG,lH,lI,lJ,lK,u32,lL,lM,lN,lO,lP,lQ,lR,lS,lT,lU,lV,lW,lX,lY,lZ,l8,l9,ma,mc,me,mf,mh,mi,mj,ml,mq,mr,mu,my,mA,mB,u64,mC,mD,mE,mF,mG,mH,mI,mJ,mK,mL,mM,mN,mO,mP,mQ,mR,mS,mT,mU,mV,mW,mX,mY,mZ,na,nf,ng,nh,ni,nj,nk,np,nr,nt,nu,cD,cE,cF,cG,cH,cI,cJ,cK,cL,cM,cN,cO,cP,cQ,cR,cT,cU,cV,cW,cX,cY,cZ,dc,dd,dh,di,dj,dn,dq,dr,dt,du,dv,dw,dx,dy,dz,dA,dB,dC,dD,dE,dF,dG,dH,dI,dJ,dK,dL,dM,dN,dO,dP,dQ,dR,dS,dU,dV,dW,dX,dY,dZ,ea,eb,ee,ef,eh,ei,ej,eo,et,eu,ew,ey,ez,eA,eB,eC,eD,eE,eF,eG,eH,eI,eJ,eK,eM,eN,eO,eP,eQ,eR,eS,eT,eU,eV,eW,eX,eY,eZ,fa,fb,fc,ff,fg,fh,fi,fj,fk,fp,fq,fr,ft,fu,fv,fw,fx,fy,fz,fA,fB,fC,fD,fE,fF,fG,fH,fI,fJ,fK,fL,fM,fN,fO,fP,fQ,fR,fS,fT,fU,fV,fW,fX,fY,fZ,ga,gh,gj,gn,gq,gr,gu,gv,gw,gy,gz,gA,gB,gC,gD,gE,gF,gG,gH,gI,gJ,gK,gL,gM,gN,gO,gP,gQ,gR,gS,gT,gU,gV,gW,gX,gY,gZ,ia,ib,ic,ie,ig,ij,ik,il,im,iq,ir,iu,iv,iw,iy,iz],[]⟩ w:=by
 have HC:=Qh C;have B:=Qh M;have H:=Qh bL;have R:=Qh aI;obtain⟨vp,V,rfl,_,_,_⟩:=oN C.rd.row C.rd.bodies;have A:=Qh C.rd.len;clear C M bL aI;have J:=Qh jY;clear jY
 conv=>arg 2;whnf
 refine wp_seq_k (fun K I=>?_);have O:=Qh I;clear I
 by_cases D:4096≤xs.length
 ·have G:(4096:Int)≤(xs.length:Int):=by omega
  have E:Hid (aG (bs.drop a) s=.fault 10):=Qh (by rw[J.out];exact Yw (by rw[←A.out];exact D));obtain⟨T,U,f0,f1⟩:=jJ HC.out.box B.out.sn;go_wp2;exact jW (H.out 10 E.out) HC.out.box HC.out.b1 HC.out.rd.bel B.out.sn _ rfl rfl
 ·have G:¬(4096:Int)≤(xs.length:Int):=by omega
  have L:Hid (¬4096≤s.out.length):=Qh (by rw[←A.out];exact D);clear D;go_wp2;exact O.out _ _ (aE2 HC.out B.out J.out L.out H.out R.out)
theorem aE0 (C:M0 wa W1 wr bs a N c (some ⟨b0,o0,none⟩) s vo xs vg q qn qd nm.data.toList lk.data.toList hx hl hk) (M:MH wr w a N g h) (hlen:¬(bs.drop a).length<512) (Xb:List UInt8) (hX:(bs.drop a).take 512=Xb) (hz:bZ Xb=false) (hH:aR Xb=(h,0)) (bL:iX wa a bs s Q) (aI:bt wa W1 bs a N c (some ⟨b0,o0,none⟩) Q .normal) (nX:bt wa W1 bs a N c (some ⟨b0,o0,none⟩) Q (.exit 1)):Code.wp Tryz.prog (jc 21) Q ⟨#[.slice (some ⟨b0,o0,none⟩) N c,u1,u2,.pointer (some ⟨wa.heap.size,0,none⟩),vo,vg,.slice q qn qd,.string nm,.string lk,.bool hx,.bool hl,.bool hk,.int .i64 (a:Int),nV,.int .i64 ((a:Int)+512),.pointer (some ⟨g,0,none⟩),u16,lx,ly,lz,lA,lB,pW,lC,lD,lE,lF,lG,lH,lI,lJ,lK,u32,lL,lM,lN,lO,lP,lQ,lR,lS,lT,lU,lV,lW,lX,lY,lZ,l8,l9,ma,mc,me,mf,mh,mi,mj,ml,mq,mr,mu,my,mA,mB,u64,mC,mD,mE,mF,mG,mH,mI,mJ,mK,mL,mM,mN,mO,mP,mQ,mR,mS,mT,mU,mV,mW,mX,mY,mZ,na,nf,ng,nh,ni,nj,nk,np,nr,nt,nu,cD,cE,cF,cG,cH,cI,cJ,cK,cL,cM,cN,cO,cP,cQ,cR,cT,cU,cV,cW,cX,cY,cZ,dc,dd,dh,di,dj,dn,dq,dr,dt,du,dv,dw,dx,dy,dz,dA,dB,dC,dD,dE,dF,dG,dH,dI,dJ,dK,dL,dM,dN,dO,dP,dQ,dR,dS,dU,dV,dW,dX,dY,dZ,ea,eb,ee,ef,eh,ei,ej,eo,et,eu,ew,ey,ez,eA,eB,eC,eD,eE,eF,eG,eH,eI,eJ,eK,eM,eN,eO,eP,eQ,eR,eS,eT,eU,eV,eW,eX,eY,eZ,fa,fb,fc,ff,fg,fh,fi,fj,fk,fp,fq,fr,ft,fu,fv,fw,fx,fy,fz,fA,fB,fC,fD,fE,fF,fG,fH,fI,fJ,fK,fL,fM,fN,fO,fP,fQ,fR,fS,fT,fU,fV,fW,fX,fY,fZ,ga,gh,gj,gn,gq,gr,gu,gv,gw,gy,gz,gA,gB,gC,gD,gE,gF,gG,gH,gI,gJ,gK,gL,gM,gN,gO,gP,gQ,gR,gS,gT,gU,gV,gW,gX,gY,gZ,ia,ib,ic,ie,ig,ij,ik,il,im,iq,ir,iu,iv,iw,iy,iz],[]⟩ w:=by
 have HC:=Qh C;have G:=Qh M;have R:=Qh bL;have b:=Qh aI;have U:=Qh nX;clear C M bL aI nX;have A:=Qh (And.intro hlen (And.intro hX (And.intro hz hH)));have c2:w.cell? ⟨g,2,none⟩=some (.int .u8 (h.kind.toNat:Int)):=G.out.kind rfl;clear hlen hX hz hH
 conv=>arg 2;whnf
 refine wp_seq_k (fun K X=>?_);have Y:=Qh X;clear X
 by_cases J:h.kind=120
 ·have O:=Qh J
  have V:w.cell? ⟨g,2,none⟩=some (.int .u8 120):=G.out.kind J;have H:Hid (aG (bs.drop a) s=ji (bs.drop a) h s):=Qh (Ht A.out.1 A.out.2.1 A.out.2.2.1 A.out.2.2.2 (by rw[J];rfl));clear c2 J;refine wp_seq_k (fun W E=>?_);have L:=Qh E;clear E;go_wp2;refine L.out _ _ (wp_cond_true rfl ?_);exact Vp HC.out G.out H.out O.out R.out U.out
 by_cases I:h.kind=103
 ·have O:=Qh I
  have V:w.cell? ⟨g,2,none⟩=some (.int .u8 103):=G.out.kind I;have H:Hid (aG (bs.drop a) s=ji (bs.drop a) h s):=Qh (Ht A.out.1 A.out.2.1 A.out.2.2.1 A.out.2.2.2 (by rw[I];rfl));clear c2 I;refine wp_seq_k (fun W E=>?_);have L:=Qh E;clear E;go_wp2;refine L.out _ _ (wp_cond_true rfl ?_);exact Vo HC.out G.out H.out O.out R.out U.out
 by_cases D:h.kind=76
 ·have O:=Qh D
  have V:w.cell? ⟨g,2,none⟩=some (.int .u8 76):=G.out.kind D;have H:Hid (aG (bs.drop a) s=ji (bs.drop a) h s):=Qh (Ht A.out.1 A.out.2.1 A.out.2.2.1 A.out.2.2.2 (by rw[D];rfl));clear c2 D;refine wp_seq_k (fun W E=>?_);have L:=Qh E;clear E;go_wp2;refine L.out _ _ (wp_cond_true rfl ?_);exact YF HC.out G.out H.out O.out R.out U.out
 by_cases B:h.kind=75
 ·have O:=Qh B
  have V:w.cell? ⟨g,2,none⟩=some (.int .u8 75):=G.out.kind B;have H:Hid (aG (bs.drop a) s=ji (bs.drop a) h s):=Qh (Ht A.out.1 A.out.2.1 A.out.2.2.1 A.out.2.2.2 (by rw[B];rfl));clear c2 B;refine wp_seq_k (fun W E=>?_);have L:=Qh E;clear E;go_wp2;refine L.out _ _ (wp_cond_true rfl ?_);exact YE HC.out G.out H.out O.out R.out U.out
 have H:Hid (aG (bs.drop a) s=oo (bs.drop a) h s):=Qh (ai9 A.out.1 A.out.2.1 A.out.2.2.1 A.out.2.2.2 (by simp[tZ,J,D,B,I]))
 have T:∀j:UInt8,h.kind≠j→((h.kind.toNat:Int)==(j.toNat:Int))=false:=fun j Z=>by
  rw[beq_eq_false_iff_ne];intro d;exact Z (UInt8.toNat.inj (by omega))
 have f:((h.kind.toNat:Int)==120)=false:=T 120 J;have l:((h.kind.toNat:Int)==103)=false:=T 103 I;have n3:((h.kind.toNat:Int)==76)=false:=T 76 D;have n4:((h.kind.toNat:Int)==75)=false:=T 75 B;clear T J I D B;go_wp2;exact Y.out _ _ (aE1 HC.out G.out H.out R.out b.out)
theorem aD9 (C:M0 wa W1 wr bs a N c (some ⟨b0,o0,none⟩) s vo xs vg q qn qd nm.data.toList lk.data.toList hx hl hk) (M:MH wr w a N g h) (hlen:¬(bs.drop a).length<512) (Xb:List UInt8) (hX:(bs.drop a).take 512=Xb) (hz:bZ Xb=false) {he:Int} (hH:aR Xb=(h,he)) (bL:iX wa a bs s Q) (aI:bt wa W1 bs a N c (some ⟨b0,o0,none⟩) Q .normal) (nX:bt wa W1 bs a N c (some ⟨b0,o0,none⟩) Q (.exit 1)):Code.wp Tryz.prog (jc 19) Q ⟨#[.slice (some ⟨b0,o0,none⟩) N c,u1,u2,.pointer (some ⟨wa.heap.size,0,none⟩),vo,vg,.slice q qn qd,.string nm,.string lk,.bool hx,.bool hl,.bool hk,.int .i64 (a:Int),nV,.int .i64 ((a:Int)+512),.pointer (some ⟨g,0,none⟩),.int .i64 he,lx,ly,lz,lA,lB,pW,lC,lD,lE,lF,lG,lH,lI,lJ,lK,u32,lL,lM,lN,lO,lP,lQ,lR,lS,lT,lU,lV,lW,lX,lY,lZ,l8,l9,ma,mc,me,mf,mh,mi,mj,ml,mq,mr,mu,my,mA,mB,u64,mC,mD,mE,mF,mG,mH,mI,mJ,mK,mL,mM,mN,mO,mP,mQ,mR,mS,mT,mU,mV,mW,mX,mY,mZ,na,nf,ng,nh,ni,nj,nk,np,nr,nt,nu,cD,cE,cF,cG,cH,cI,cJ,cK,cL,cM,cN,cO,cP,cQ,cR,cT,cU,cV,cW,cX,cY,cZ,dc,dd,dh,di,dj,dn,dq,dr,dt,du,dv,dw,dx,dy,dz,dA,dB,dC,dD,dE,dF,dG,dH,dI,dJ,dK,dL,dM,dN,dO,dP,dQ,dR,dS,dU,dV,dW,dX,dY,dZ,ea,eb,ee,ef,eh,ei,ej,eo,et,eu,ew,ey,ez,eA,eB,eC,eD,eE,eF,eG,eH,eI,eJ,eK,eM,eN,eO,eP,eQ,eR,eS,eT,eU,eV,eW,eX,eY,eZ,fa,fb,fc,ff,fg,fh,fi,fj,fk,fp,fq,fr,ft,fu,fv,fw,fx,fy,fz,fA,fB,fC,fD,fE,fF,fG,fH,fI,fJ,fK,fL,fM,fN,fO,fP,fQ,fR,fS,fT,fU,fV,fW,fX,fY,fZ,ga,gh,gj,gn,gq,gr,gu,gv,gw,gy,gz,gA,gB,gC,gD,gE,gF,gG,gH,gI,gJ,gK,gL,gM,gN,gO,gP,gQ,gR,gS,gT,gU,gV,gW,gX,gY,gZ,ia,ib,ic,ie,ig,ij,ik,il,im,iq,ir,iu,iv,iw,iy,iz],[]⟩ w:=by
 have HC:=Qh C;have D:=Qh M;have G:=Qh bL;have J:=Qh aI;have L:=Qh nX;clear C M bL aI nX;have B:=Qh (And.intro hlen (And.intro hX (And.intro hz hH)));clear hlen hX hz hH
 conv=>arg 2;whnf
 refine wp_seq_k (fun K H=>?_);have I:=Qh H;clear H
 by_cases A:he=0
 ·subst A
  go_wp2;exact I.out _ _ (aE0 HC.out D.out B.out.1 Xb B.out.2.1 B.out.2.2.1 B.out.2.2.2 G.out J.out L.out)
 ·have O:(he != 0)=true:=by simpa using A
  have E:Hid (aG (bs.drop a) s=.fault he):=Qh (Sd B.out.1 B.out.2.1 B.out.2.2.1 B.out.2.2.2 A);clear A;obtain⟨R,T,f0,f1⟩:=jJ HC.out.box D.out.sn;go_wp2;exact jW (G.out he E.out) HC.out.box HC.out.b1 HC.out.rd.bel D.out.sn _ rfl rfl
theorem aD8 (C:M0 wa W1 wr bs a N c (some ⟨b0,o0,none⟩) s vo xs vg q qn qd nm.data.toList lk.data.toList hx hl hk) (ha:a+512≤N) (Xb:List UInt8) (hX:(bs.drop a).take 512=Xb) (hz:bZ Xb=false) (bL:iX wa a bs s Q) (aI:bt wa W1 bs a N c (some ⟨b0,o0,none⟩) Q .normal) (nX:bt wa W1 bs a N c (some ⟨b0,o0,none⟩) Q (.exit 1)):Code.wp Tryz.prog (jc 18) Q ⟨#[.slice (some ⟨b0,o0,none⟩) N c,u1,u2,.pointer (some ⟨wa.heap.size,0,none⟩),vo,vg,.slice q qn qd,.string nm,.string lk,.bool hx,.bool hl,.bool hk,.int .i64 (a:Int),.slice (some ⟨b0,o0+a,none⟩) 512 (c - a),.int .i64 ((a:Int)+512),DK,u16,lx,ly,lz,lA,lB,pW,lC,lD,lE,lF,lG,lH,lI,lJ,lK,u32,lL,lM,lN,lO,lP,lQ,lR,lS,lT,lU,lV,lW,lX,lY,lZ,l8,l9,ma,mc,me,mf,mh,mi,mj,ml,mq,mr,mu,my,mA,mB,u64,mC,mD,mE,mF,mG,mH,mI,mJ,mK,mL,mM,mN,mO,mP,mQ,mR,mS,mT,mU,mV,mW,mX,mY,mZ,na,nf,ng,nh,ni,nj,nk,np,nr,nt,nu,cD,cE,cF,cG,cH,cI,cJ,cK,cL,cM,cN,cO,cP,cQ,cR,cT,cU,cV,cW,cX,cY,cZ,dc,dd,dh,di,dj,dn,dq,dr,dt,du,dv,dw,dx,dy,dz,dA,dB,dC,dD,dE,dF,dG,dH,dI,dJ,dK,dL,dM,dN,dO,dP,dQ,dR,dS,dU,dV,dW,dX,dY,dZ,ea,eb,ee,ef,eh,ei,ej,eo,et,eu,ew,ey,ez,eA,eB,eC,eD,eE,eF,eG,eH,eI,eJ,eK,eM,eN,eO,eP,eQ,eR,eS,eT,eU,eV,eW,eX,eY,eZ,fa,fb,fc,ff,fg,fh,fi,fj,fk,fp,fq,fr,ft,fu,fv,fw,fx,fy,fz,fA,fB,fC,fD,fE,fF,fG,fH,fI,fJ,fK,fL,fM,fN,fO,fP,fQ,fR,fS,fT,fU,fV,fW,fX,fY,fZ,ga,gh,gj,gn,gq,gr,gu,gv,gw,gy,gz,gA,gB,gC,gD,gE,gF,gG,gH,gI,gJ,gK,gL,gM,gN,gO,gP,gQ,gR,gS,gT,gU,gV,gW,gX,gY,gZ,ia,ib,ic,ie,ig,ij,ik,il,im,iq,ir,iu,iv,iw,iy,iz],[]⟩ wr:=by
 have HC:=Qh C;have T:=Qh bL;have V:=Qh aI;have X:=Qh nX;clear C bL aI nX;have hlen:¬(bs.drop a).length<512:=by rw[Qe,HC.out.len];omega
 have M:Xb.length=512:=by rw[←hX,Qg,Qe,HC.out.len];omega
 have hN:=HC.out.hN;have R:=HC.out.hc;have E:=(HC.out.nB.drop (k:=a) (c:=c) (by omega) R HC.out.len).take (k:=512) (by omega);rw[if_neg (by omega),Option.map_some,Lib.add_plain,hX]at E;obtain⟨⟨h,he⟩,hH⟩:∃x,aR Xb=x:=⟨_,rfl⟩
 have A:=R0 (some ⟨b0,o0+a,none⟩) 512 (c - a) Xb wr M (by omega) (by have:=HC.out.Bu;omega) E;rw[hH]at A;unfold oF aa at A;have B:=Qh A;have I:=sA Xb;rw[hH]at I;have W:=Qh I;have D:=Qh (And.intro hlen (And.intro hX (And.intro hz hH)));clear A hH I hlen M E hX hz
 conv=>arg 2;whnf
 refine wp_seq_k (fun K J=>?_);have O:=Qh J;clear J;go_wp2_with fail;refine B.out.mono ?_;rintro e H ⟨rfl,L⟩;have G:=Qh (L.below (Qk _) (fun _ h=>h.elim));clear L B;go_wp2;obtain⟨w3,hw⟩:∃w3,H.alloc (.cells #[.string (str h.name),.string (str h.link),.int .u8 (h.kind.toNat:Int),.int .i64 h.mode,.int .i64 h.uid,.int .i64 h.gid,.int .i64 h.time,.int .i64 h.size,.bool h.j7] 66)=w3:=⟨_,rfl⟩
 have U:MH wr w3 a N H.heap.size h:=by
  rw[←hw];exact⟨G.out.alloc G.out.size _,au.new H _ _,G.out.size,ha,W.out⟩
 rw[hw];exact O.out _ _ (aD9 HC.out U D.out.1 Xb D.out.2.1 D.out.2.2.1 D.out.2.2.2 T.out V.out X.out)
def Be (wa W1 wr:World) (bs:List UInt8) (a:Nat) (s:RS) (vo:Value) (Q:Exit→Act→World→Prop):Prop:=
 aG (bs.drop a) s=.done→∀(T:Array Value) (w':World),T.getD 3 undef=.pointer (some ⟨wa.heap.size,0,none⟩)→T.getD 2 undef=vo→au w' wa.heap.size 32 #[.int .i64 0,.int .i64 0]→Kept (aA wa.heap.size) wr w'→Below wa.heap.size wa w'→Q .ret ⟨T,[]⟩ w'
theorem aD7 (C:M0 wa W1 wr bs a N c (some ⟨b0,o0,none⟩) s vo xs vg q qn qd nm.data.toList lk.data.toList hx hl hk) (ha:a+512≤N) (Xb:List UInt8) (hX:(bs.drop a).take 512=Xb) (bL:iX wa a bs s Q) (oZ:Be wa W1 wr bs a s vo Q) (aI:bt wa W1 bs a N c (some ⟨b0,o0,none⟩) Q .normal) (nX:bt wa W1 bs a N c (some ⟨b0,o0,none⟩) Q (.exit 1)):Code.wp Tryz.prog (jc 10) Q ⟨#[.slice (some ⟨b0,o0,none⟩) N c,u1,u2,.pointer (some ⟨wa.heap.size,0,none⟩),vo,vg,.slice q qn qd,.string nm,.string lk,.bool hx,.bool hl,.bool hk,.int .i64 (a:Int),.slice (some ⟨b0,o0+a,none⟩) 512 (c - a),.int .i64 ((a:Int)+512),DK,u16,lx,ly,lz,lA,lB,pW,lC,lD,lE,lF,lG,lH,lI,lJ,lK,u32,lL,lM,lN,lO,lP,lQ,lR,lS,lT,lU,lV,lW,lX,lY,lZ,l8,l9,ma,mc,me,mf,mh,mi,mj,ml,mq,mr,mu,my,mA,mB,u64,mC,mD,mE,mF,mG,mH,mI,mJ,mK,mL,mM,mN,mO,mP,mQ,mR,mS,mT,mU,mV,mW,mX,mY,mZ,na,nf,ng,nh,ni,nj,nk,np,nr,nt,nu,cD,cE,cF,cG,cH,cI,cJ,cK,cL,cM,cN,cO,cP,cQ,cR,cT,cU,cV,cW,cX,cY,cZ,dc,dd,dh,di,dj,dn,dq,dr,dt,du,dv,dw,dx,dy,dz,dA,dB,dC,dD,dE,dF,dG,dH,dI,dJ,dK,dL,dM,dN,dO,dP,dQ,dR,dS,dU,dV,dW,dX,dY,dZ,ea,eb,ee,ef,eh,ei,ej,eo,et,eu,ew,ey,ez,eA,eB,eC,eD,eE,eF,eG,eH,eI,eJ,eK,eM,eN,eO,eP,eQ,eR,eS,eT,eU,eV,eW,eX,eY,eZ,fa,fb,fc,ff,fg,fh,fi,fj,fk,fp,fq,fr,ft,fu,fv,fw,fx,fy,fz,fA,fB,fC,fD,fE,fF,fG,fH,fI,fJ,fK,fL,fM,fN,fO,fP,fQ,fR,fS,fT,fU,fV,fW,fX,fY,fZ,ga,gh,gj,gn,gq,gr,gu,gv,gw,gy,gz,gA,gB,gC,gD,gE,gF,gG,gH,gI,gJ,gK,gL,gM,gN,gO,gP,gQ,gR,gS,gT,gU,gV,gW,gX,gY,gZ,ia,ib,ic,ie,ig,ij,ik,il,im,iq,ir,iu,iv,iw,iy,iz],[]⟩ wr:=by
 have HC:=Qh C;have J:=Qh bL;have r:=Qh aI;have u:=Qh nX;have g:=Qh oZ;clear C bL aI nX oZ;have hlen:¬(bs.drop a).length<512:=by rw[Qe,HC.out.len];omega
 have d:Xb.length=512:=by rw[←hX,Qg,Qe,HC.out.len];omega
 have hN:=HC.out.hN;have Z:=HC.out.hc;have U:=(HC.out.nB.drop (k:=a) (c:=c) (by omega) Z HC.out.len).take (k:=512) (by omega);rw[if_neg (by omega),Option.map_some,Lib.add_plain,hX]at U;have O:=HC.out.nB.drop (k:=a+512) (c:=c) (by omega) Z HC.out.len;have M:=Qh (FP _ 512 (c - a) Xb wr d (by decide) U);have A:=Qh hX;have I:=Qh hlen;have V:=Qh O;have m:(a:Int)+512≤(c:Int):=by omega
 have y:=ha;clear U O hX d hlen
 conv=>arg 2;whnf
 refine wp_seq_k (fun K b=>?_);have f:=Qh b;clear b;go_wp2_with fail;refine M.out.mono ?_;rintro e t ⟨rfl,rfl⟩;obtain⟨zx,G⟩:∃zx,bZ Xb=zx:=⟨_,rfl⟩
 rw[G];have D:=Qh G;clear G M
 cases zx with
 |false=>
  go_wp2;exact f.out _ _ (aD8 HC.out ha Xb A.out D.out J.out r.out u.out)
 |true=>
  by_cases p:N - (a+512)<512
  ·have Y:(N:Int) - ((a:Int)+512)<512:=by omega
   have E:Hid (aG (bs.drop a) s=.fault 2):=Qh (Ek I.out A.out D.out (by rw[Qe,HC.out.len];omega));obtain⟨R,T,f0,f1⟩:=jJ HC.out.box (Below.refl wr.heap.size wr);go_wp2;exact jW (J.out 2 E.out) HC.out.box HC.out.b1 HC.out.rd.bel (Below.refl wr.heap.size wr) _ rfl rfl
  ·have Y:¬(N:Int) - ((a:Int)+512)<512:=by omega
   have L:Hid (¬(bs.drop a).length - 512<512):=Qh (by rw[Qe,HC.out.len];omega);have l:¬c=a+512:=by omega
   have X:=V.out;rw[if_neg l,Option.map_some,Lib.add_plain]at X;have W:=Qh X;have o:(a:Int)+512≤(N:Int):=by omega
   clear X;go_wp2_with fail;refine(FP _ (N - (a+512)) (c - (a+512)) (bs.drop (a+512)) wr (by rw[Qe,HC.out.len]) (by omega) W.out).mono ?_;rintro e t ⟨rfl,rfl⟩;obtain⟨zy,H⟩:∃zy,bZ (bs.drop (a+512))=zy:=⟨_,rfl⟩
   rw[H];have B:Hid (bZ ((bs.drop a).drop 512)=zy):=Qh (by rw[List.drop_drop];exact H);clear H
   cases zy with
   |false=>
    have E:Hid (aG (bs.drop a) s=.fault 9):=Qh (Kq I.out A.out D.out L.out B.out);obtain⟨R,T,f0,f1⟩:=jJ HC.out.box (Below.refl wr.heap.size wr);go_wp2;exact jW (J.out 9 E.out) HC.out.box HC.out.b1 HC.out.rd.bel (Below.refl wr.heap.size wr) _ rfl rfl
   |true=>
    cases hx with
    |true=>
     have E:Hid (aG (bs.drop a) s=.fault 5):=Qh (tQ I.out A.out D.out L.out B.out (.inl HC.out.rd.iT));obtain⟨R,T,f0,f1⟩:=jJ HC.out.box (Below.refl wr.heap.size wr);go_wp2;exact jW (J.out 5 E.out) HC.out.box HC.out.b1 HC.out.rd.bel (Below.refl wr.heap.size wr) _ rfl rfl
    |false=>
     cases hl with
     |true=>
      have E:Hid (aG (bs.drop a) s=.fault 5):=Qh (tQ I.out A.out D.out L.out B.out (.inr (.inl (by rw[HC.out.rd.name];rfl))));obtain⟨R,T,f0,f1⟩:=jJ HC.out.box (Below.refl wr.heap.size wr);go_wp2;exact jW (J.out 5 E.out) HC.out.box HC.out.b1 HC.out.rd.bel (Below.refl wr.heap.size wr) _ rfl rfl
     |false=>
      cases hk with
      |true=>
       have E:Hid (aG (bs.drop a) s=.fault 5):=Qh (tQ I.out A.out D.out L.out B.out (.inr (.inr (by rw[HC.out.rd.link];rfl))));obtain⟨R,T,f0,f1⟩:=jJ HC.out.box (Below.refl wr.heap.size wr);go_wp2;exact jW (J.out 5 E.out) HC.out.box HC.out.b1 HC.out.rd.bel (Below.refl wr.heap.size wr) _ rfl rfl
      |false=>
       have E:Hid (aG (bs.drop a) s=.done):=Qh (Hu I.out A.out D.out L.out B.out (by rw[HC.out.rd.iT,HC.out.rd.name,HC.out.rd.link];simp));obtain⟨R,T,f0,f1⟩:=jJ HC.out.box (Below.refl wr.heap.size wr);go_wp2;exact g.out E.out _ _ rfl rfl (EO HC.out.box (Below.refl wr.heap.size wr) 0 0) (((Kept.refl (aA wa.heap.size) wr).setCell (a:=⟨wa.heap.size,0,none⟩) (.inr rfl) _).setCell (a:=⟨wa.heap.size,1,none⟩) (.inr rfl) _) (Ai HC.out.b1 HC.out.rd.bel (Below.refl wr.heap.size wr) _ _)
theorem mx9 (C:M0 wa W1 wr bs a N c (some ⟨b0,o0,none⟩) s vo xs vg q qn qd nm.data.toList lk.data.toList hx hl hk) (ha:a+512≤N) (Xb:List UInt8) (hX:(bs.drop a).take 512=Xb) (bL:iX wa a bs s Q) (oZ:Be wa W1 wr bs a s vo Q) (aI:bt wa W1 bs a N c (some ⟨b0,o0,none⟩) Q .normal) (nX:bt wa W1 bs a N c (some ⟨b0,o0,none⟩) Q (.exit 1)):Code.wp Tryz.prog (jc 9) Q ⟨#[.slice (some ⟨b0,o0,none⟩) N c,u1,u2,.pointer (some ⟨wa.heap.size,0,none⟩),vo,vg,.slice q qn qd,.string nm,.string lk,.bool hx,.bool hl,.bool hk,.int .i64 (a:Int),.slice (some ⟨b0,o0+a,none⟩) 512 (c - a),Ib,DK,u16,lx,ly,lz,lA,lB,pW,lC,lD,lE,lF,lG,lH,lI,lJ,lK,u32,lL,lM,lN,lO,lP,lQ,lR,lS,lT,lU,lV,lW,lX,lY,lZ,l8,l9,ma,mc,me,mf,mh,mi,mj,ml,mq,mr,mu,my,mA,mB,u64,mC,mD,mE,mF,mG,mH,mI,mJ,mK,mL,mM,mN,mO,mP,mQ,mR,mS,mT,mU,mV,mW,mX,mY,mZ,na,nf,ng,nh,ni,nj,nk,np,nr,nt,nu,cD,cE,cF,cG,cH,cI,cJ,cK,cL,cM,cN,cO,cP,cQ,cR,cT,cU,cV,cW,cX,cY,cZ,dc,dd,dh,di,dj,dn,dq,dr,dt,du,dv,dw,dx,dy,dz,dA,dB,dC,dD,dE,dF,dG,dH,dI,dJ,dK,dL,dM,dN,dO,dP,dQ,dR,dS,dU,dV,dW,dX,dY,dZ,ea,eb,ee,ef,eh,ei,ej,eo,et,eu,ew,ey,ez,eA,eB,eC,eD,eE,eF,eG,eH,eI,eJ,eK,eM,eN,eO,eP,eQ,eR,eS,eT,eU,eV,eW,eX,eY,eZ,fa,fb,fc,ff,fg,fh,fi,fj,fk,fp,fq,fr,ft,fu,fv,fw,fx,fy,fz,fA,fB,fC,fD,fE,fF,fG,fH,fI,fJ,fK,fL,fM,fN,fO,fP,fQ,fR,fS,fT,fU,fV,fW,fX,fY,fZ,ga,gh,gj,gn,gq,gr,gu,gv,gw,gy,gz,gA,gB,gC,gD,gE,gF,gG,gH,gI,gJ,gK,gL,gM,gN,gO,gP,gQ,gR,gS,gT,gU,gV,gW,gX,gY,gZ,ia,ib,ic,ie,ig,ij,ik,il,im,iq,ir,iu,iv,iw,iy,iz],[]⟩ wr:=by
 have HC:=Qh C;have G:=Qh bL;have H:=Qh aI;have I:=Qh nX;have E:=Qh oZ;clear C bL aI nX oZ;have J:=ha;have hN:=HC.out.hN;have D:=Qh hX;clear hX
 conv=>arg 2;whnf
 refine wp_seq_k (fun K A=>?_);have B:=Qh A;clear A;go_wp2;exact B.out _ _ (aD7 HC.out ha Xb D.out G.out E.out H.out I.out)
theorem mx8 (C:M0 wa W1 wr bs a N c (some ⟨b0,o0,none⟩) s vo xs vg q qn qd nm.data.toList lk.data.toList hx hl hk) (ha:a+512≤N) (Xb:List UInt8) (hX:(bs.drop a).take 512=Xb) (bL:iX wa a bs s Q) (oZ:Be wa W1 wr bs a s vo Q) (aI:bt wa W1 bs a N c (some ⟨b0,o0,none⟩) Q .normal) (nX:bt wa W1 bs a N c (some ⟨b0,o0,none⟩) Q (.exit 1)):Code.wp Tryz.prog (jc 8) Q ⟨#[.slice (some ⟨b0,o0,none⟩) N c,u1,u2,.pointer (some ⟨wa.heap.size,0,none⟩),vo,vg,.slice q qn qd,.string nm,.string lk,.bool hx,.bool hl,.bool hk,.int .i64 (a:Int),nV,Ib,DK,u16,lx,ly,lz,lA,lB,pW,lC,lD,lE,lF,lG,lH,lI,lJ,lK,u32,lL,lM,lN,lO,lP,lQ,lR,lS,lT,lU,lV,lW,lX,lY,lZ,l8,l9,ma,mc,me,mf,mh,mi,mj,ml,mq,mr,mu,my,mA,mB,u64,mC,mD,mE,mF,mG,mH,mI,mJ,mK,mL,mM,mN,mO,mP,mQ,mR,mS,mT,mU,mV,mW,mX,mY,mZ,na,nf,ng,nh,ni,nj,nk,np,nr,nt,nu,cD,cE,cF,cG,cH,cI,cJ,cK,cL,cM,cN,cO,cP,cQ,cR,cT,cU,cV,cW,cX,cY,cZ,dc,dd,dh,di,dj,dn,dq,dr,dt,du,dv,dw,dx,dy,dz,dA,dB,dC,dD,dE,dF,dG,dH,dI,dJ,dK,dL,dM,dN,dO,dP,dQ,dR,dS,dU,dV,dW,dX,dY,dZ,ea,eb,ee,ef,eh,ei,ej,eo,et,eu,ew,ey,ez,eA,eB,eC,eD,eE,eF,eG,eH,eI,eJ,eK,eM,eN,eO,eP,eQ,eR,eS,eT,eU,eV,eW,eX,eY,eZ,fa,fb,fc,ff,fg,fh,fi,fj,fk,fp,fq,fr,ft,fu,fv,fw,fx,fy,fz,fA,fB,fC,fD,fE,fF,fG,fH,fI,fJ,fK,fL,fM,fN,fO,fP,fQ,fR,fS,fT,fU,fV,fW,fX,fY,fZ,ga,gh,gj,gn,gq,gr,gu,gv,gw,gy,gz,gA,gB,gC,gD,gE,gF,gG,gH,gI,gJ,gK,gL,gM,gN,gO,gP,gQ,gR,gS,gT,gU,gV,gW,gX,gY,gZ,ia,ib,ic,ie,ig,ij,ik,il,im,iq,ir,iu,iv,iw,iy,iz],[]⟩ wr:=by
 have HC:=Qh C;have H:=Qh bL;have J:=Qh aI;have L:=Qh nX;have E:=Qh oZ;clear C bL aI nX oZ;have hN:=HC.out.hN;have M:=HC.out.hc;have I:¬c=a:=by omega
 have G:(a:Int)+512≤(c:Int):=by omega
 have O:=ha;have D:=Qh hX;clear hX
 conv=>arg 2;whnf
 refine wp_seq_k (fun K A=>?_);have B:=Qh A;clear A;go_wp2;rw[show a+512 - a=512 by omega];exact B.out _ _ (mx9 HC.out ha Xb D.out H.out E.out J.out L.out)
theorem mx6 (C:M0 wa W1 wr bs a N c p s vo xs vg q qn qd nm.data.toList lk.data.toList hx hl hk)  (bL:iX wa a bs s Q) (oZ:Be wa W1 wr bs a s vo Q) (aI:bt wa W1 bs a N c p Q .normal) (nX:bt wa W1 bs a N c p Q (.exit 1)):Code.wp Tryz.prog (jc 6) Q ⟨#[.slice p N c,u1,u2,.pointer (some ⟨wa.heap.size,0,none⟩),vo,vg,.slice q qn qd,.string nm,.string lk,.bool hx,.bool hl,.bool hk,.int .i64 (a:Int),nV,Ib,DK,u16,lx,ly,lz,lA,lB,pW,lC,lD,lE,lF,lG,lH,lI,lJ,lK,u32,lL,lM,lN,lO,lP,lQ,lR,lS,lT,lU,lV,lW,lX,lY,lZ,l8,l9,ma,mc,me,mf,mh,mi,mj,ml,mq,mr,mu,my,mA,mB,u64,mC,mD,mE,mF,mG,mH,mI,mJ,mK,mL,mM,mN,mO,mP,mQ,mR,mS,mT,mU,mV,mW,mX,mY,mZ,na,nf,ng,nh,ni,nj,nk,np,nr,nt,nu,cD,cE,cF,cG,cH,cI,cJ,cK,cL,cM,cN,cO,cP,cQ,cR,cT,cU,cV,cW,cX,cY,cZ,dc,dd,dh,di,dj,dn,dq,dr,dt,du,dv,dw,dx,dy,dz,dA,dB,dC,dD,dE,dF,dG,dH,dI,dJ,dK,dL,dM,dN,dO,dP,dQ,dR,dS,dU,dV,dW,dX,dY,dZ,ea,eb,ee,ef,eh,ei,ej,eo,et,eu,ew,ey,ez,eA,eB,eC,eD,eE,eF,eG,eH,eI,eJ,eK,eM,eN,eO,eP,eQ,eR,eS,eT,eU,eV,eW,eX,eY,eZ,fa,fb,fc,ff,fg,fh,fi,fj,fk,fp,fq,fr,ft,fu,fv,fw,fx,fy,fz,fA,fB,fC,fD,fE,fF,fG,fH,fI,fJ,fK,fL,fM,fN,fO,fP,fQ,fR,fS,fT,fU,fV,fW,fX,fY,fZ,ga,gh,gj,gn,gq,gr,gu,gv,gw,gy,gz,gA,gB,gC,gD,gE,gF,gG,gH,gI,gJ,gK,gL,gM,gN,gO,gP,gQ,gR,gS,gT,gU,gV,gW,gX,gY,gZ,ia,ib,ic,ie,ig,ij,ik,il,im,iq,ir,iu,iv,iw,iy,iz],[]⟩ wr:=by
 have HC:=Qh C;have B:=Qh bL;have J:=Qh aI;have L:=Qh nX;have I:=Qh oZ;clear C bL aI nX oZ;have hN:=HC.out.hN;have M:=HC.out.hc;have O:=HC.out.ha
 conv=>arg 2;whnf
 refine wp_seq_k (fun K D=>?_);have G:=Qh D;clear D
 by_cases H:N - a<512
 ·have A:(N:Int) - (a:Int)<512:=by omega
  have E:Hid (aG (bs.drop a) s=.fault 2):=Qh (zE (by rw[Qe,HC.out.len];exact H) s);obtain⟨T,U,f0,f1⟩:=jJ HC.out.box (Below.refl wr.heap.size wr);go_wp2;exact jW (B.out 2 E.out) HC.out.box HC.out.b1 HC.out.rd.bel (Below.refl wr.heap.size wr) _ rfl rfl
 ·have A:¬(N:Int) - (a:Int)<512:=by omega
  obtain⟨R,o0,rfl,_⟩:=HC.out.nB.cell (k:=0) (by omega);go_wp2;exact G.out _ _ (mx8 HC.out (by omega) _ rfl B.out I.out J.out L.out)
def WI (wa W1:World) (bs:List UInt8) (N c:Nat) (p:Option Addr) (act:Act) (w:World):Prop:=
 ∃(a:Nat) (s:RS) (vo:Value) (xs:List MP) (vg:Value) (q:Option Addr) (qn qd:Nat) (nm lk:ByteArray) (hx hl hk:Bool),wC W1 w bs a s vo xs vg q qn qd nm.data.toList lk.data.toList hx hl hk∧a≤N∧act.defers=[]∧act.tmps.size=298∧
  act.tmps.getD 0 undef=.slice p N c∧act.tmps.getD 3 undef=.pointer (some ⟨wa.heap.size,0,none⟩)∧act.tmps.getD 4 undef=vo∧act.tmps.getD 5 undef=vg∧act.tmps.getD 6 undef=.slice q qn qd∧
  act.tmps.getD 7 undef=.string nm∧act.tmps.getD 8 undef=.string lk∧act.tmps.getD 9 undef=.bool hx∧act.tmps.getD 10 undef=.bool hl∧act.tmps.getD 11 undef=.bool hk∧act.tmps.getD 12 undef=.int .i64 (a:Int)
def XG (N:Nat) (act:Act) (_:World):Nat:=N - (RowKit.intOf (act.tmps.getD 12 undef)).toNat
theorem ah1 (T:Array Value) (h:T.size=298):T=#[T.getD 0 undef,T.getD 1 undef,T.getD 2 undef,T.getD 3 undef,T.getD 4 undef,T.getD 5 undef,T.getD 6 undef,T.getD 7 undef,T.getD 8 undef,T.getD 9 undef,T.getD 10 undef,T.getD 11 undef,T.getD 12 undef,T.getD 13 undef,T.getD 14 undef,T.getD 15 undef,T.getD 16 undef,T.getD 17 undef,T.getD 18 undef,T.getD 19 undef,T.getD 20 undef,T.getD 21 undef,T.getD 22 undef,T.getD 23 undef,T.getD 24 undef,T.getD 25 undef,T.getD 26 undef,T.getD 27 undef,T.getD 28 undef,T.getD 29 undef,T.getD 30 undef,T.getD 31 undef,T.getD 32 undef,T.getD 33 undef,T.getD 34 undef,T.getD 35 undef,T.getD 36 undef,T.getD 37 undef,T.getD 38 undef,T.getD 39 undef,T.getD 40 undef,T.getD 41 undef,T.getD 42 undef,T.getD 43 undef,T.getD 44 undef,T.getD 45 undef,T.getD 46 undef,T.getD 47 undef,T.getD 48 undef,T.getD 49 undef,T.getD 50 undef,T.getD 51 undef,T.getD 52 undef,T.getD 53 undef,T.getD 54 undef,T.getD 55 undef,T.getD 56 undef,T.getD 57 undef,T.getD 58 undef,T.getD 59 undef,T.getD 60 undef,T.getD 61 undef,T.getD 62 undef,T.getD 63 undef,T.getD 64 undef,T.getD 65 undef,T.getD 66 undef,T.getD 67 undef,T.getD 68 undef,T.getD 69 undef,T.getD 70 undef,T.getD 71 undef,T.getD 72 undef,T.getD 73 undef,T.getD 74 undef,T.getD 75 undef,T.getD 76 undef,T.getD 77 undef,T.getD 78 undef,T.getD 79 undef,T.getD 80 undef,T.getD 81 undef,T.getD 82 undef,T.getD 83 undef,T.getD 84 undef,T.getD 85 undef,T.getD 86 undef,T.getD 87 undef,T.getD 88 undef,T.getD 89 undef,T.getD 90 undef,T.getD 91 undef,T.getD 92 undef,T.getD 93 undef,T.getD 94 undef,T.getD 95 undef,T.getD 96 undef,T.getD 97 undef,T.getD 98 undef,T.getD 99 undef,T.getD 100 undef,T.getD 101 undef,T.getD 102 undef,T.getD 103 undef,T.getD 104 undef,T.getD 105 undef,T.getD 106 undef,T.getD 107 undef,T.getD 108 undef,T.getD 109 undef,T.getD 110 undef,T.getD 111 undef,T.getD 112 undef,T.getD 113 undef,T.getD 114 undef,T.getD 115 undef,T.getD 116 undef,T.getD 117 undef,T.getD 118 undef,T.getD 119 undef,T.getD 120 undef,T.getD 121 undef,T.getD 122 undef,T.getD 123 undef,T.getD 124 undef,T.getD 125 undef,T.getD 126 undef,T.getD 127 undef,T.getD 128 undef,T.getD 129 undef,T.getD 130 undef,T.getD 131 undef,T.getD 132 undef,T.getD 133 undef,T.getD 134 undef,T.getD 135 undef,T.getD 136 undef,T.getD 137 undef,T.getD 138 undef,T.getD 139 undef,T.getD 140 undef,T.getD 141 undef,T.getD 142 undef,T.getD 143 undef,T.getD 144 undef,T.getD 145 undef,T.getD 146 undef,T.getD 147 undef,T.getD 148 undef,T.getD 149 undef,T.getD 150 undef,T.getD 151 undef,T.getD 152 undef,T.getD 153 undef,T.getD 154 undef,T.getD 155 undef,T.getD 156 undef,T.getD 157 undef,T.getD 158 undef,T.getD 159 undef,T.getD 160 undef,T.getD 161 undef,T.getD 162 undef,T.getD 163 undef,T.getD 164 undef,T.getD 165 undef,T.getD 166 undef,T.getD 167 undef,T.getD 168 undef,T.getD 169 undef,T.getD 170 undef,T.getD 171 undef,T.getD 172 undef,T.getD 173 undef,T.getD 174 undef,T.getD 175 undef,T.getD 176 undef,T.getD 177 undef,T.getD 178 undef,T.getD 179 undef,T.getD 180 undef,T.getD 181 undef,T.getD 182 undef,T.getD 183 undef,T.getD 184 undef,T.getD 185 undef,T.getD 186 undef,T.getD 187 undef,T.getD 188 undef,T.getD 189 undef,T.getD 190 undef,T.getD 191 undef,T.getD 192 undef,T.getD 193 undef,T.getD 194 undef,T.getD 195 undef,T.getD 196 undef,T.getD 197 undef,T.getD 198 undef,T.getD 199 undef,T.getD 200 undef,T.getD 201 undef,T.getD 202 undef,T.getD 203 undef,T.getD 204 undef,T.getD 205 undef,T.getD 206 undef,T.getD 207 undef,T.getD 208 undef,T.getD 209 undef,T.getD 210 undef,T.getD 211 undef,T.getD 212 undef,T.getD 213 undef,T.getD 214 undef,T.getD 215 undef,T.getD 216 undef,T.getD 217 undef,T.getD 218 undef,T.getD 219 undef,T.getD 220 undef,T.getD 221 undef,T.getD 222 undef,T.getD 223 undef,T.getD 224 undef,T.getD 225 undef,T.getD 226 undef,T.getD 227 undef,T.getD 228 undef,T.getD 229 undef,T.getD 230 undef,T.getD 231 undef,T.getD 232 undef,T.getD 233 undef,T.getD 234 undef,T.getD 235 undef,T.getD 236 undef,T.getD 237 undef,T.getD 238 undef,T.getD 239 undef,T.getD 240 undef,T.getD 241 undef,T.getD 242 undef,T.getD 243 undef,T.getD 244 undef,T.getD 245 undef,T.getD 246 undef,T.getD 247 undef,T.getD 248 undef,T.getD 249 undef,T.getD 250 undef,T.getD 251 undef,T.getD 252 undef,T.getD 253 undef,T.getD 254 undef,T.getD 255 undef,T.getD 256 undef,T.getD 257 undef,T.getD 258 undef,T.getD 259 undef,T.getD 260 undef,T.getD 261 undef,T.getD 262 undef,T.getD 263 undef,T.getD 264 undef,T.getD 265 undef,T.getD 266 undef,T.getD 267 undef,T.getD 268 undef,T.getD 269 undef,T.getD 270 undef,T.getD 271 undef,T.getD 272 undef,T.getD 273 undef,T.getD 274 undef,T.getD 275 undef,T.getD 276 undef,T.getD 277 undef,T.getD 278 undef,T.getD 279 undef,T.getD 280 undef,T.getD 281 undef,T.getD 282 undef,T.getD 283 undef,T.getD 284 undef,T.getD 285 undef,T.getD 286 undef,T.getD 287 undef,T.getD 288 undef,T.getD 289 undef,T.getD 290 undef,T.getD 291 undef,T.getD 292 undef,T.getD 293 undef,T.getD 294 undef,T.getD 295 undef,T.getD 296 undef,T.getD 297 undef]:=by
 have e:T=((List.range 298).map (fun i=>T.getD i undef)).toArray:=by
  refine Array.ext (by simp[h]) (fun i h1 A=>?_);simp[h1]
 exact e.trans rfl
def al2 (wa:World) (bs:List UInt8) (Q:Exit→Act→World→Prop):Prop:=
 ∀(T:Array Value) (w':World) (v:Value) (er at_:Int),T.getD 3 undef=.pointer (some ⟨wa.heap.size,0,none⟩)→T.getD 2 undef=v→au w' wa.heap.size 32 #[.int .i64 er,.int .i64 at_]→zU wa bs (.returned (.tuple #[v,.agg #[.int .i64 er,.int .i64 at_]])) w'→Q .ret ⟨T,[]⟩ w'
structure ME (wa W1:World) (bs:List UInt8) (N c:Nat) (p:Option Addr):Prop where
 b1:Below wa.heap.size wa W1
 box:au W1 wa.heap.size 32 #[.int .i64 0,.int .i64 0]
 nB:iC W1 p N bs
 CY:Need W1
 len:bs.length=N
 hN:N≤1000000000
 hc:N≤c
 Bu:c≤140737488351232
theorem ai8 (E:ME wa W1 bs N c p) (hq:al2 wa bs Q0) (hI:WI wa W1 bs N c p act w):
 Code.wp Tryz.prog (Code.block 1 (jc 6)) (Exit.then (fun a' w'=>WI wa W1 bs N c p a' w'∧XG N a' w'<XG N act w) Q0) act w:=by
 obtain⟨a,s,vo,xs,vg,q,qn,z,nm,y,u,hl,hk,A,ha,hd,hs,t0,t3,t4,t5,t6,t7,t8,t9,t10,t11,t12⟩:=hI;obtain⟨T,D⟩:=act;simp only at hd hs t0 t3 t4 t5 t6 t7 t8 t9 t10 t11 t12;subst hd
 have B:XG N ⟨T,[]⟩ w=N - a:=by
  unfold XG;simp only[t12,RowKit.intOf];omega
 rw[B];clear B;refine wp_block ?_;have G:=ah1 T hs;rw[t0,t3,t4,t5,t6,t7,t8,t9,t10,t11,t12]at G;rw[G]
 have X:∀ex:Exit,(∀(a':Act) (w':World),(WI wa W1 bs N c p a' w'∧XG N a' w'<N - a)→Exit.inBlock 1 (Exit.then (fun a' w'=>WI wa W1 bs N c p a' w'∧XG N a' w'<N - a) Q0) ex a' w')→
  bt wa W1 bs a N c p (Exit.inBlock 1 (Exit.then (fun a' w'=>WI wa W1 bs N c p a' w'∧XG N a' w'<N - a) Q0)) ex:=by
  intro ex hex H w' r m b W Z l U R O M J G g Y h1 f t g0 g3 g4 g5 g6 g7 g8 g9 g10 g11 g12;refine hex _ _ ⟨⟨r,m,b,W,Z,l,U,R,O,M,J,G,g,Y,f,rfl,t,g0,g3,g4,g5,g6,g7,g8,g9,g10,g11,g12⟩,?_⟩;unfold XG;simp only[g12,RowKit.intOf];omega
 refine mx6 (wa:=wa) (W1:=W1) (s:=s) (xs:=xs) ⟨E.b1,A,E.box.below A.bel E.box.lt,E.nB.below A.bel,E.CY.below A.bel,E.len,E.hN,E.hc,E.Bu,ha⟩ ?_ ?_ (X .normal fun a' w' h=>h) (X (.exit 1) fun a' w' h=>by
  simp only[Exit.inBlock,if_true]
  exact h)
 ·intro d L H w' g3 g2 I V
  exact hq H w' _ d a g3 g2 I (A.fault L V)
 ·intro L H w' g3 g2 I o V
  exact hq H w' _ 0 0 g3 g2 I (A.done L E.box.lt (E.box.below A.bel E.box.lt) o V)
theorem aw7 (E:ME wa W1 bs N c p) (hq:al2 wa bs Q0) (hI:WI wa W1 bs N c p act W1):
 Code.wp Tryz.prog (Code.loop (Code.block 1 (jc 6))) Q0 act W1:=
 wp_loop (WI wa W1 bs N c p) (XG N) hI (fun _ _ h=>ai8 E hq h)
theorem VW {fn:Func} (hf:fn.results=#[.tmp 2,.cell 3 32]) (tmps:Array Value) (w:World) (g:Nat) (v:Value) (ht:tmps.getD 3 undef=.pointer (some ⟨g,0,none⟩)) (hv:tmps.getD 2 undef=v)
 (a b:Int) (hb:au w g 32 #[.int .i64 a,.int .i64 b]):(results fn tmps).run Tryz.prog w=.ok (.tuple #[v,.agg #[.int .i64 a,.int .i64 b]]) w:=by
 have c0:=hb.cell 0;have c1:=hb.cell 1;simp only[Qc,Qa,Qb]at c0 c1;have hl:(loadVar 32 ⟨g,0,none⟩).run Tryz.prog w=.ok (.agg #[.int .i64 a,.int .i64 b]) w:=by go_simp
 have B:tmps[3]?.getD undef=.pointer (some ⟨g,0,none⟩):=by simpa using ht
 have A:tmps[2]?.getD undef=v:=by simpa using hv
 simp only[results,hf];simp[Result.andThen,B,A,asAddr,hl]
theorem R9 (p:Option Addr) (N c:Nat) (bs:List UInt8) (w:World) (hb:iC w p N bs) (hl:bs.length=N) (hn:N≤1000000000) (hc:N≤c) (Bu:c≤140737488351232) (hN:Need w):
 Calls Tryz.prog 16 #[.slice p N c] w (zU w bs):=by
 obtain⟨W1,D⟩:∃W1,w.alloc (.cells #[.int .i64 0,.int .i64 0] 32)=W1:=⟨_,rfl⟩
 have A:Below w.heap.size w W1:=by rw[←D];exact(Below.refl _ w).alloc (Qk _) _
 have E:au W1 w.heap.size 32 #[.int .i64 0,.int .i64 0]:=by rw[←D];exact au.new w _ _
 have G:Hid (ME w W1 bs N c p):=Qh ⟨A,E,hb.below A,hN.below A,hl,hn,hc,Bu⟩;clear hb hl hn hc Bu hN A E
 go_enter Tryz.func16,Tryz.ntmps16
 go_upto_region 1 with fail
 clear D;go_wp2_with fail;refine aw7 G.out ?_ ?_
 ·intro T w' v H at_ g3 g2 B I
  exact bodyPost_ret (VW rfl T w' w.heap.size v g3 g2 H at_ B) rfl I
 ·exact⟨0,nU,_,[],_,none,0,0,⟨#[]⟩,⟨#[]⟩,false,false,false,R8 W1 bs,Nat.zero_le _,rfl,rfl,rfl,rfl,rfl,rfl,rfl,rfl,rfl,rfl,rfl,rfl,rfl⟩
end Mem
namespace kY
open Mem
variable {ys:List CP} {ms:List aB} {i:Nat} {S:St}
def vC (y:CP):aC × Nat:=(y.x.m,y.k)
def Gj (ms:List aB) (e:List UInt8 × Nat):aC × Nat:=(j8 e.1 (ms.getD e.2 iJ) [],e.2)
def rF (ms:List aB) (ys:List CP) (S:St):Prop:=ys.map vC=S.map (Gj ms)
theorem rF.len (h:rF ms ys S):ys.length=S.length:=by
 have:=congrArg List.length h
 simpa using this
theorem Ol {k:Nat} (hk:k<ys.length):ys.getD k iL=ys[k]:=by rw[List.getD,Qd hk];rfl
theorem qv {k:Nat} (hk:k<S.length):S.getD k ([],0)=S[k]:=by rw[List.getD,Qd hk];rfl
theorem rF.get (h:rF ms ys S) {k:Nat} (hk:k<S.length):vC (ys.getD k iL)=Gj ms (S.getD k ([],0)):=by
 have hl:=h.len;have:=congrArg (fun l=>l[k]?) h;simp only[List.getElem?_map]at this;rw[Qd (show k<ys.length by omega),Qd hk]at this;rw[Ol (show k<ys.length by omega),qv hk];exact Option.some.inj this
theorem rF.m (h:rF ms ys S) {k:Nat} (hk:k<S.length):(ys.getD k iL).x.m=j8 (S.getD k ([],0)).1 (ms.getD (S.getD k ([],0)).2 iJ) []:=congrArg Prod.fst (h.get hk)
theorem rF.k (h:rF ms ys S) {k:Nat} (hk:k<S.length):(ys.getD k iL).k=(S.getD k ([],0)).2:=congrArg Prod.snd (h.get hk)
theorem rF.path (h:rF ms ys S) {k:Nat} (hk:k<S.length):(ys.getD k iL).x.m.path=(S.getD k ([],0)).1:=by rw[h.m hk];rfl
theorem rF.snoc (h:rF ms ys S) {y:CP} {e:List UInt8 × Nat} (hy:vC y=Gj ms e):rF ms (ys++[y]) (S++[e]):=by
 unfold rF at*;rw[List.map_append,List.map_append,h];show _++[vC y]=_++[Gj ms e];rw[hy]
def vr (S:St) (k:Nat):St:=(S.set k (S.getD (k - 1) ([],0))).set (k - 1) (S.getD k ([],0))
def AM (ys:List CP) (k:Nat):List CP:=(ys.set k (ys.getD (k - 1) iL)).set (k - 1) (ys.getD k iL)
theorem Sn (ys:List CP) (k:Nat):(AM ys k).length=ys.length:=by simp[AM]
theorem rF.swap (h:rF ms ys S) {k:Nat} (hk:k<S.length):rF ms (AM ys k) (vr S k):=by
 have h1:=h.get hk;have A:=h.get (show k - 1<S.length by omega);unfold rF AM vr at*;rw[List.map_set,List.map_set,List.map_set,List.map_set,h,h1,A]
theorem NA {k:Nat} (hk:k<S.length):(vr S k).Perm S:=by
 unfold vr;rw[qv hk,qv (show k - 1<S.length by omega)];exact List.set_set_perm hk (by omega)
theorem Ks (S:St) (k i:Nat) (e:List UInt8 × Nat) (hk:k<S.length):(S.set k e).getD i ([],0)=if i=k then e else S.getD i ([],0):=by
 rw[List.getD,List.getD,List.getElem?_set]
 by_cases h:k=i
 ·subst h
  simp[hk]
 ·rw[if_neg h,if_neg (fun e=>h e.symm)]
theorem FX {k:Nat} (hk:k<S.length) (i:Nat):(vr S k).getD i ([],0)=if i=k - 1 then S.getD k ([],0)else if i=k then S.getD (k - 1) ([],0)else S.getD i ([],0):=by
 unfold vr;rw[Ks _ _ _ _ (by rw[List.length_set];omega),Ks _ _ _ _ hk]
def KZ (S:St) (i:Nat):Prop:=∀a b,a<b→b<i→j1 (S.getD a ([],0)).1 (S.getD b ([],0)).1=true
def Ins (S:St) (i k:Nat):Prop:=k≤i∧∀a b,a<b→b≤i→b≠k→j1 (S.getD a ([],0)).1 (S.getD b ([],0)).1=true
theorem KZ.one (S:St):KZ S 1:=fun a b h1 A=>by omega
theorem KZ.zero (S:St):KZ S 0:=fun a b h1 A=>by omega
theorem Ins.start (h:KZ S i):Ins S i i:=⟨Qk _,fun a b h1 A B=>h a b h1 (by omega)⟩
theorem Ins.swap {k:Nat} (h:Ins S i k) (h0:0<k) (hi:i<S.length) (ay:j1 (S.getD k ([],0)).1 (S.getD (k - 1) ([],0)).1=true):Ins (vr S k) i (k - 1):=by
 obtain⟨hk,h⟩:=h;refine⟨by omega,fun a b h1 D E=>?_⟩;rw[FX (by omega),FX (by omega),if_neg E]
 by_cases B:b=k
 ·rw[if_pos B]
  by_cases ha:a=k - 1
  ·rw[if_pos ha];exact ay
  ·rw[if_neg ha,if_neg (by omega)]
   exact h a (k - 1) (by omega) (by omega) (by omega)
 ·rw[if_neg B]
  by_cases ha:a=k - 1
  ·rw[if_pos ha]
   exact h k b (by omega) D B
  ·rw[if_neg ha]
   by_cases A:a=k
   ·rw[if_pos A]
    exact h (k - 1) b (by omega) D B
   ·rw[if_neg A]
    exact h a b h1 D B
theorem TJ (h:nv S) {b:Nat} (WJ:a<b) (hb:b<S.length):(S.getD a ([],0)).1≠(S.getD b ([],0)).1:=by
 have:=(List.pairwise_iff_getElem.1 h) a b (by rw[Qi];omega) (by rw[Qi];omega) WJ;rw[List.getElem_map,List.getElem_map]at this;rw[qv hb,qv (show a<S.length by omega)];exact this
theorem Ins.done {k:Nat} (h:Ins S i k) (hA:nv S) (hi:i<S.length) (he:k=0∨j1 (S.getD k ([],0)).1 (S.getD (k - 1) ([],0)).1=false):KZ S (i+1):=by
 obtain⟨hk,h⟩:=h;intro a b h1 B
 by_cases A:b=k
 ·subst A
  rcases he with he|he
  ·omega
  ·have hl:j1 (S.getD (b - 1) ([],0)).1 (S.getD b ([],0)).1=true:=rf he (fun e=>TJ hA (show b - 1<b by omega) (by omega) e.symm)
   by_cases ha:a=b - 1
   ·rw[ha];exact hl
   ·exact nY _ _ _ (h a (b - 1) (by omega) (by omega) (by omega)) hl
 ·exact h a b h1 (by omega) A
theorem KZ.aG6 (h:KZ S S.length):EA S:=by
 unfold EA;rw[List.pairwise_iff_getElem];intro a b ha A B;have:=h a b B A;rw[qv ha,qv A]at this;exact this
theorem nv.perm {S':St} (h:nv S) (hp:S'.Perm S):nv S':=(hp.map _).nodup_iff.2 h
theorem KZ.sorted {T:St} (hA:nv S) (hp:T.Perm S) (h:KZ T T.length):T=jH S:=Dy hA hp h.aG6
end kY
end Go.Proofs.YtdhibldkldlfpaaGreatDoor
