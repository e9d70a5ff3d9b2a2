/- Merged. -/
import Derived.Test.YtdhibldkldlfpaaGreatDoorEmitPacksX34
namespace Go.Proofs.YtdhibldkldlfpaaGreatDoor
set_option linter.unusedVariables false
set_option maxHeartbeats 8000000
set_option maxRecDepth 100000
open Go.ChangeShapes Go.WideShapes Go.ChangeAt Go.RowKit Base cf cN Bk Mk Block Hp Head Attr Rec Go.Lib
variable {w w1:World}
namespace Mem
open Go.Shelf Go.Proofs.YtdhibldkldlfpaaGreatDoor.Mp
variable {listed:Array Bool} {xs:List MP} {y:MP} {i j r base:Nat} {v:Value} {w':World}
theorem Wh (w:World) (g:Nat) (y:MP) (hb:au w g 48 y.cs):(Instr.loadAt 48 (.pointer (some ⟨g,0,none⟩))).run Tryz.prog w=.ok (.agg y.cs) w:=by
 have c0:=hb.cell;unfold MP.cs dj at c0⊢
 go_simp
theorem U6 (w:World) (a b:ByteArray) (k m u i t:Int) (p:Option Addr) (n c:Nat):(Instr.buildSlice 38 1 #[(0,.agg #[.string a,.string b,.int .u8 k,.int .i64 m,.int .i64 u,.int .i64 i,.int .i64 t,.slice p n c])]).run Tryz.prog w=
 .ok (.slice (some ⟨w.heap.size,0,none⟩) 1 1) (w.alloc (.cells #[.string a,.string b,.int .u8 k,.int .i64 m,.int .i64 u,.int .i64 i,.int .i64 t,.slice p n c] 48)):=by kernel_rfl
theorem RF (w:World) (y:MP):(Instr.buildSlice 38 1 #[(0,.agg y.cs)]).run Tryz.prog w=.ok (.slice (some ⟨w.heap.size,0,none⟩) 1 1) (w.alloc (.cells y.cs 48)):=U6 w _ _ _ _ _ _ _ _ _ _
theorem sw {o:Oper} {b:Act} {Kk:Act→World→Prop} {Q:Exit→Act→World→Prop} (x y:Operand)
 (ho:o.op=.call {callee:=.builtin .append,args:=#[x,y],argTypes:=#[38,38]})
 (base:Nat) (v:Value) (xs:List MP) (hs:b.eval x=v) (aH:w.ownsRow base 48 8 v xs.length (fz xs))
 (g:Nat) (d:Nat) (z:MP) (hx:b.eval y=.slice (some ⟨g,0,none⟩) 1 d) (hb:au w g 48 z.cs) (gA:xs.length≤1000000) (dh:base≤w.heap.size)
 (h:∀v' w',w'.ownsRow base 48 8 v' (xs++[z]).length (fz (xs++[z]))→w.grownBy w' v.ownBlock→dN w v v'→Kk (b.put o.dst v') w'):Oper.wp Tryz.prog o b w Kk Q:=by
 obtain⟨i0,hi,E,B,D⟩:=info_parts An
 obtain⟨v',w',J,A,G,H⟩:=dU (P:=Tryz.prog) base 38 o.type 48 i0 _ 8 96 Tryz.underlying38 hi E B D rfl (by decide) v xs.length (fz xs) aH ⟨g,0,none⟩ 1 d z.cs.toList rfl (by
  intro j u I;rw[WideShapes.add_plain,Nat.zero_add,hb.cell,←Array.getElem?_toList]
  exact I) (fun u hu=>yv [z] u (by simpa [fz]using hu)) (by unfold maxLen;omega) (by omega) dh
 have L:(execOp b.eval o).run Tryz.prog w=.ok (.value v') w':=by simp[execOp,ho,resolve,invoke,builtin,hs,hx,J,Result.andThen]
 unfold Oper.wp;rw[L,Oper.upon_value];rw[←vk,show xs.length+1=(xs++[z]).length by simp]at A;exact h v' w' A G H
def zD (base:Nat) (v:Value) (xs:List MP) (y:MP) (w1 wB:World) (va:Value):Prop:=
 ∃wA,Below w1.heap.size w1 wA∧wB.ownsRow base 48 8 va (xs++[y]).length (fz (xs++[y]))∧wA.grownBy wB v.ownBlock∧dN wA v va
noncomputable def bB:Array Oper:=lK Tryz.f76 14
structure mY where
 gb:Nat
 va:Value
def gD (r bm:Nat) (v:Value) (y:MP) (γ:mY):Nat→Value
 |0=>.pointer (some ⟨r,0,none⟩)|1=>.pointer (some ⟨r,0,none⟩)|2=>.pointer (some ⟨r,0,none⟩)|3=>.pointer (some ⟨r,3,none⟩)|4=>v|5=>.agg y.cs|6=>.slice (some ⟨γ.gb,0,none⟩) 1 1|7=>γ.va|8=>.pointer (some ⟨r,0,none⟩)|9=>.pointer (some ⟨r,3,none⟩)|_=>undef
theorem pr:bB.size=11:=rfl
theorem sA:kS bB 73=true:=by kernel_rfl
theorem Ek:aR bB 0=some 59:=rfl
theorem JA:∃o,bB[0]? =some o∧o.op=.move (.tmp 0)∧o.dst=some 59:=⟨_,rfl,rfl,rfl⟩
theorem Em:aR bB 1=some 60:=rfl
theorem JB:∃o,bB[1]? =some o∧o.op=.move (.tmp 0)∧o.dst=some 60:=⟨_,rfl,rfl,rfl⟩
theorem En:aR bB 2=some 61:=rfl
theorem JC:∃o,bB[2]? =some o∧o.op=.nilCheck (.tmp 60)∧o.dst=some 61:=⟨_,rfl,rfl,rfl⟩
theorem Eo:aR bB 3=some 62:=rfl
theorem JD:∃o,bB[3]? =some o∧o.op=.fieldAddr 91 (.tmp 61) 3∧o.dst=some 62:=⟨_,rfl,rfl,rfl⟩
theorem Ep:aR bB 4=some 63:=rfl
theorem JE:∃o,bB[4]? =some o∧o.op=.load 38 (.tmp 62)∧o.dst=some 63:=⟨_,rfl,rfl,rfl⟩
theorem Er:aR bB 5=some 64:=rfl
theorem JF:∃o,bB[5]? =some o∧o.op=.load 48 (.tmp 6)∧o.dst=some 64:=⟨_,rfl,rfl,rfl⟩
theorem Es:aR bB 6=some 65:=rfl
theorem JG:∃o,bB[6]? =some o∧o.op=.buildSlice 38 1 #[(0,.tmp 64)]∧o.dst=some 65:=⟨_,rfl,rfl,rfl⟩
theorem Et:aR bB 7=some 66:=rfl
theorem JH:∃o,bB[7]? =some o∧o.op=.call {callee:=.builtin .append,args:=#[.tmp 63,.tmp 65],argTypes:=#[38,38]}∧o.dst=some 66:=⟨_,rfl,rfl,rfl⟩
theorem Eu:aR bB 8=some 67:=rfl
theorem JI:∃o,bB[8]? =some o∧o.op=.nilCheck (.tmp 59)∧o.dst=some 67:=⟨_,rfl,rfl,rfl⟩
theorem Ev:aR bB 9=some 68:=rfl
theorem JJ:∃o,bB[9]? =some o∧o.op=.fieldAddr 91 (.tmp 67) 3∧o.dst=some 68:=⟨_,rfl,rfl,rfl⟩
theorem BN:aR bB 10=none:=rfl
theorem Ew:∃o,bB[10]? =some o∧o.op=.store 38 (.tmp 68) (.tmp 66)∧o.dst=none:=⟨_,rfl,rfl,rfl⟩
theorem Jy (r bm:Nat) (v:Value) (y:MP) (γ:mY) (x:Nat) (h:i≠6):gD r bm v y {γ with gb:=x} i=gD r bm v y γ i:=by
 unfold gD;split<;>first|rfl|(exfalso;omega)
theorem Jz (r bm:Nat) (v:Value) (y:MP) (γ:mY) (x:Value) (h:i≠7):gD r bm v y {γ with va:=x} i=gD r bm v y γ i:=by
 unfold gD;split<;>first|rfl|(exfalso;omega)
structure zH (base r:Nat) (v:Value) (xs:List MP) (y:MP) (w1:World) (γ:mY) (listed:Array Bool) (w':World):Prop where
 pre:listed.getD 7 false=false→Below w1.heap.size w1 w'
 bs:listed.getD 6 false=true→listed.getD 7 false=false→au w' γ.gb 48 y.cs
 ap:listed.getD 7 false=true→listed.getD 10 false=false→zD base v xs y w1 w' γ.va
 st:listed.getD 10 false=true→∃wB,zD base v xs y w1 wB γ.va∧w'=wB.setCell ⟨r,3,none⟩ γ.va
 c7:listed.getD 7 false=true→listed.getD 4 false=true∧listed.getD 6 false=true
 c6:listed.getD 6 false=true→listed.getD 5 false=true
 RG:listed.getD 10 false=true→listed.getD 7 false=true
theorem zH.bH {γ:mY} (hW:zH base r v xs y w1 γ listed w') (ao:j<listed.size) (hj:j≠6∧j≠7∧j≠10):zH base r v xs y w1 γ (listed.setIfInBounds j true) w':=by
 have D:(listed.setIfInBounds j true).getD 6 false=listed.getD 6 false:=by rw[aa ao,if_neg (by omega)]
 have A:(listed.setIfInBounds j true).getD 7 false=listed.getD 7 false:=by rw[aa ao,if_neg (by omega)]
 have B:(listed.setIfInBounds j true).getD 10 false=listed.getD 10 false:=by rw[aa ao,if_neg (by omega)]
 have up:∀i,listed.getD i false=true→(listed.setIfInBounds j true).getD i false=true:=fun i hi=>by
  rw[aa ao];split
  ·rfl
  ·exact hi
 exact⟨by rw[A];exact hW.pre,by rw[D,A];exact hW.bs,by rw[A,B];exact hW.ap,by rw[B];exact hW.st,fun h=>⟨up _ (hW.c7 (by rw[←A];exact h)).1,up _ (hW.c7 (by rw[←A];exact h)).2⟩,fun h=>up _ (hW.c6 (by rw[←D];exact h)),by rw[A,B];exact hW.RG⟩
theorem zH.Wn {γ:mY} (hW:zH base r v xs y w1 γ listed w') (hj:j=4∨j=5∨j=6) (jQ:listed.getD j false=false):listed.getD 7 false=false:=by
 cases D:listed.getD 7 false with
 |false=>rfl
 |true=>
  obtain⟨B,A⟩:=hW.c7 D;rcases hj with rfl|rfl|rfl
  ·rw[B]at jQ;cases jQ
  ·rw[hW.c6 A]at jQ;cases jQ
  ·rw[A]at jQ;cases jQ
theorem zI {Q':Exit→Act→World→Prop} {a0:Act} (base r bm:Nat) (v:Value) (xs:List MP) (y:MP) (cs:Array Value)
 (hsz:73≤a0.tmps.size) (h0:a0.eval (.tmp 0)=.pointer (some ⟨r,0,none⟩)) (h6:a0.eval (.tmp 6)=.pointer (some ⟨bm,0,none⟩)) (Xs:au w1 bm 48 y.cs) (Xt:au w1 r 91 cs) (Ci:cs[3]? =some v) (Ak:v.ownBlock≠some r)
 (bC:w1.ownsRow base 48 8 v xs.length (fz xs)) (dh:base≤w1.heap.size) (OI:xs.length≤1000000)
 (hQ:∀(γ:mY) wB,zD base v xs y w1 wB γ.va→Q' .normal ((((((((((a0.put (some 59) (.pointer (some ⟨r,0,none⟩))).put (some 60) (.pointer (some ⟨r,0,none⟩))).put (some 61) (.pointer (some ⟨r,0,none⟩))).put (some 62) (.pointer (some ⟨r,3,none⟩))).put (some 63) (v)).put (some 64) (.agg y.cs)).put (some 65) (.slice (some ⟨γ.gb,0,none⟩) 1 1)).put (some 66) (γ.va)).put (some 67) (.pointer (some ⟨r,0,none⟩))).put (some 68) (.pointer (some ⟨r,3,none⟩))) (wB.setCell ⟨r,3,none⟩ γ.va)):
 wpAny Tryz.prog .any bB Q' bB.size (Array.replicate bB.size false) a0 w1.drew:=by
 have no:∀j,(Array.replicate bB.size false).getD j false=false:=fun j=>by
  rw[Array.getD_eq_getD_getElem?,Array.getElem?_replicate];split<;>rfl
 refine jg (Γ:=mY) (gD r bm v y) {gb:=0,va:=undef} a0 (fun γ listed w'=>zH base r v xs y w1 γ listed w') 73 sA hsz ?_ ?_ ?_
 ·intro γ listed a w' j o I J z M
  have G:=bp z;have D:=I.wd
  have u:j<11:=by
   have:=(Array.getElem?_eq_some_iff.1 J).1
   rwa [pr]at this
  have same:∀{j':Nat} {L:Oper},bB[j']? =some L→j=j'→L=o:=fun {j' L} h' e=>by subst e;exact Option.some.inj (h'.symm.trans J)
  have U:=dS z;have m:∀i,listed.getD i false=true→i≠j:=fun i hi e=>by rw[e,U]at hi;cases hi
  rcases(show j=0∨j=1∨j=2∨j=3∨j=4∨j=5∨j=6∨j=7∨j=8∨j=9∨j=10 by omega)with rfl|rfl|rfl|rfl|rfl|rfl|rfl|rfl|rfl|rfl|rfl
  ·obtain⟨L,H,E,N⟩:=JA
   obtain rfl:=same H rfl;have B:a.eval (.tmp 0)=.pointer (some ⟨r,0,none⟩):=(I.old (t:=0) (by kernel_rfl)).trans h0;exact wp_move _ _ (Or.inl E) B ⟨γ,fun _ _=>rfl,rfl,D.bH G (by decide)⟩
  ·obtain⟨L,H,E,N⟩:=JB
   obtain rfl:=same H rfl;have B:a.eval (.tmp 0)=.pointer (some ⟨r,0,none⟩):=(I.old (t:=0) (by kernel_rfl)).trans h0;exact wp_move _ _ (Or.inl E) B ⟨γ,fun _ _=>rfl,rfl,D.bH G (by decide)⟩
  ·obtain⟨L,H,E,N⟩:=JC
   obtain rfl:=same H rfl;have B:a.eval (.tmp 60)=.pointer (some ⟨r,0,none⟩):=(I.get J M (i:=1) (d:=60) (by kernel_rfl) rfl)
   refine cE _ ?_ ⟨γ,fun _ _=>rfl,rfl,D.bH G (by decide)⟩;generalize a.eval=ev at B⊢;simp[go_sem,execOp,E,B,gD]
  ·obtain⟨L,H,E,N⟩:=JD
   obtain rfl:=same H rfl;have B:a.eval (.tmp 61)=.pointer (some ⟨r,0,none⟩):=(I.get J M (i:=2) (d:=61) (by kernel_rfl) rfl)
   refine cE _ ?_ ⟨γ,fun _ _=>rfl,rfl,D.bH G (by decide)⟩;generalize a.eval=ev at B⊢;simp[go_sem,execOp,E,B,gD]
  ·obtain⟨L,H,E,N⟩:=JE
   obtain rfl:=same H rfl;have B:a.eval (.tmp 62)=.pointer (some ⟨r,3,none⟩):=(I.get J M (i:=3) (d:=62) (by kernel_rfl) rfl)
   have O:=D.Wn (.inl rfl) U;have q:=(Xt.below (D.pre O) Xt.lt).cell 3;rw[Ci]at q;refine cE _ ?_ ⟨γ,fun _ _=>rfl,rfl,D.bH G (by decide)⟩;generalize a.eval=ev at B⊢;simp[go_sem,execOp,E,B,q,gD]
  ·obtain⟨L,H,E,N⟩:=JF
   obtain rfl:=same H rfl;have B:a.eval (.tmp 6)=.pointer (some ⟨bm,0,none⟩):=(I.old (t:=6) (by kernel_rfl)).trans h6;have O:=D.Wn (.inr (.inl rfl)) U;refine cE _ ?_ ⟨γ,fun _ _=>rfl,rfl,D.bH G (by decide)⟩;have q:=Wh w' bm y (Xs.below (D.pre O) Xs.lt);simp[execOp,E,B,q,Result.andThen,gD]
  ·obtain⟨L,H,E,N⟩:=JG
   obtain rfl:=same H rfl;have B:a.eval (.tmp 64)=.agg y.cs:=(I.get J M (i:=5) (d:=64) (by kernel_rfl) rfl)
   have O:=D.Wn (.inr (.inr rfl)) U;have q:=RF w' y;have Y:(execOp a.eval L).run Tryz.prog w'=.ok (.value (.slice (some ⟨w'.heap.size,0,none⟩) 1 1)) (w'.alloc (.cells y.cs 48)):=by simp[execOp,E,B,q,Result.andThen]
   unfold Oper.wp;rw[Y,Oper.upon_value];have R:(listed.setIfInBounds 6 true).getD 7 false=listed.getD 7 false:=by rw[aa G,if_neg (by decide)]
   have V:(listed.setIfInBounds 6 true).getD 10 false=listed.getD 10 false:=by rw[aa G,if_neg (by decide)]
   refine⟨{γ with gb:=w'.heap.size},fun i hi=>Jy _ _ _ _ _ _ (m i hi),rfl,⟨fun _=>(D.pre O).alloc (D.pre O).size _,fun _ _=>au.new w' _ _,fun A=>?_,fun A=>?_,fun A=>?_,fun _=>(by rw[aa G,if_neg (by decide)];exact bW J M (by kernel_rfl)),fun A=>?_⟩⟩
   ·rw[R,O]at A;cases A
   ·rw[V]at A;have:=D.RG A;rw[O]at this;cases this
   ·rw[R,O]at A;cases A
   ·rw[V]at A;have:=D.RG A;rw[O]at this;cases this
  ·obtain⟨L,H,E,N⟩:=JH
   obtain rfl:=same H rfl;have B:a.eval (.tmp 63)=v:=(I.get J M (i:=4) (d:=63) (by kernel_rfl) rfl)
   have W:a.eval (.tmp 65)=.slice (some ⟨γ.gb,0,none⟩) 1 1:=(I.get J M (i:=6) (d:=65) (by kernel_rfl) rfl)
   have b:listed.getD 6 false=true:=bW J M (by kernel_rfl);have X:=D.pre U;have Is:=D.bs b U;have l4:listed.getD 4 false=true:=bW J M (by kernel_rfl)
   have n10:listed.getD 10 false=false:=by
    cases A:listed.getD 10 false with
    |false=>rfl
    |true=>have:=D.RG A;rw[U]at this;cases this
   have V:(listed.setIfInBounds 7 true).getD 10 false=false:=by rw[aa G,if_neg (by decide)];exact n10
   have R:(listed.setIfInBounds 7 true).getD 7 false=true:=by rw[aa G,if_pos rfl]
   refine sw _ _ E base v xs B (cA bC X) γ.gb 1 y W Is OI (Nat.le_trans dh X.size) (fun v' w2 h1 h2 h3=>⟨{γ with va:=v'},fun i hi=>Jz _ _ _ _ _ _ (m i hi),rfl,⟨fun A=>?_,fun _ A=>?_,fun _ _=>⟨w',X,h1,h2,h3⟩,fun A=>?_,fun _=>⟨?_,?_⟩,fun _=>?_,fun A=>?_⟩⟩)
   ·rw[R]at A;cases A
   ·rw[R]at A;cases A
   ·rw[V]at A;cases A
   ·rw[aa G,if_neg (by decide)];exact l4
   ·rw[aa G,if_neg (by decide)];exact b
   ·rw[aa G,if_neg (by decide)];exact D.c6 b
   ·rw[V]at A;cases A
  ·obtain⟨L,H,E,N⟩:=JI
   obtain rfl:=same H rfl;have B:a.eval (.tmp 59)=.pointer (some ⟨r,0,none⟩):=(I.get J M (i:=0) (d:=59) (by kernel_rfl) rfl)
   refine cE _ ?_ ⟨γ,fun _ _=>rfl,rfl,D.bH G (by decide)⟩;generalize a.eval=ev at B⊢;simp[go_sem,execOp,E,B,gD]
  ·obtain⟨L,H,E,N⟩:=JJ
   obtain rfl:=same H rfl;have B:a.eval (.tmp 67)=.pointer (some ⟨r,0,none⟩):=(I.get J M (i:=8) (d:=67) (by kernel_rfl) rfl)
   refine cE _ ?_ ⟨γ,fun _ _=>rfl,rfl,D.bH G (by decide)⟩;generalize a.eval=ev at B⊢;simp[go_sem,execOp,E,B,gD]
  ·obtain⟨L,H,E,N⟩:=Ew
   obtain rfl:=same H rfl;have B:a.eval (.tmp 68)=.pointer (some ⟨r,3,none⟩):=(I.get J M (i:=9) (d:=68) (by kernel_rfl) rfl)
   have W:a.eval (.tmp 66)=γ.va:=(I.get J M (i:=7) (d:=66) (by kernel_rfl) rfl)
   have f:listed.getD 7 false=true:=bW J M (by kernel_rfl);have hA:=D.ap f U;obtain⟨wA,g1,g2,g3,g4⟩:=hA;have g:au w' r 91 cs:=(g3.block r (Xt.below g1 Xt.lt).lt (fun e=>Ak e.symm)).trans (Xt.below g1 Xt.lt);have c0:=g.cell 3;rw[Ci]at c0;have f0:=g.frozen 3
   obtain⟨pv,lv,cv,Z⟩:∃p l c,γ.va=.slice p l c:=by
    rcases g2.2 with⟨h,_⟩|⟨_,_,_,h,_⟩
    ·exact⟨_,_,_,h⟩
    ·exact⟨_,_,_,h⟩
   have Y:(execOp a.eval L).run Tryz.prog w'=.ok .skip (w'.setCell ⟨r,3,none⟩ γ.va):=by
    rw[Z]at W⊢;generalize a.eval=ev at B W⊢;simp[go_sem,execOp,E,B,W,c0,f0,Result.andThen]
   unfold Oper.wp;rw[Y,Oper.upon_skip];have R:(listed.setIfInBounds 10 true).getD 7 false=true:=by rw[aa G,if_neg (by decide)];exact f
   have V:(listed.setIfInBounds 10 true).getD 10 false=true:=by rw[aa G,if_pos rfl]
   refine⟨γ,fun _ _=>rfl,rfl,⟨fun A=>?_,fun _ A=>?_,fun _ A=>?_,fun _=>⟨w',⟨wA,g1,g2,g3,g4⟩,rfl⟩,fun _=>?_,fun A=>?_,fun _=>R⟩⟩
   ·rw[R]at A;cases A
   ·rw[R]at A;cases A
   ·rw[V]at A;cases A
   ·obtain⟨k4,k6⟩:=D.c7 f
    exact⟨by rw[aa G,if_neg (by decide)];exact k4,by rw[aa G,if_neg (by decide)];exact k6⟩
   ·rw[aa G,if_neg (by decide)]at A⊢;exact D.c6 A
 ·intro γ listed a w' I T
  have all:∀j,j<11→listed.getD j false=true:=fun j u=>T j (by rw[pr];exact u)
  obtain⟨wB,hA,rfl⟩:=I.wd.st (all 10 (by omega));rw[gI 73 sA hsz I T,pr];simp only[gh,Ek,Em,En,Eo,Ep,Er,Es,Et,Eu,Ev,BN,Dn,gD];exact hQ γ wB hA
 ·exact⟨fun _=>(Below.refl _ _).drew,fun A=>(by rw[no]at A;cases A),fun A=>(by rw[no]at A;cases A),fun A=>(by rw[no]at A;cases A),fun A=>(by rw[no]at A;cases A),fun A=>(by rw[no]at A;cases A),fun A=>(by rw[no]at A;cases A)⟩
end Mem
namespace Mem
open Path Go.Shelf
section
variable {w0 w w':World} {K:RK} {a:Nat} {s:RS} {mb:Option Nat} {v:Value} {xs:List MP} {q:Option Addr} {n c:Nat}
theorem Nr (hr:Rd w0 w K a s mb v xs q n c) (h:aq) (hf:s.out.length=4096):
 Calls Tryz.prog 76 #[.pointer (some ⟨K.r,0,none⟩),.agg (af h)] w fun e w'=>e=.returned (.int .i64 10)∧Below w0.heap.size w0 w':=by
 obtain⟨vp,R,I,_,_,_⟩:=ja hr.row hr.bodies;subst I;have A:xs.length=s.out.length:=by have:=congrArg List.length hr.out;simpa using this
 obtain⟨W1,D⟩:∃W1,w.alloc (.cells (af h) 66)=W1:=⟨_,rfl⟩
 have B:Below w.heap.size w W1:=by rw[←D];exact(Below.refl _ w).alloc (Qk _) _
 have G:au W1 w.heap.size 66 (af h):=by rw[←D];exact au.new w _ _
 have E:=hr.below B;have J:=E.c3;have L:=Qh hr;have N:=Qh B;have O:=Qh G;have H:=Qh E;have M:=Qh A;clear hr B G E;rw[hf]at A;rw[A]at J;clear A
 go_enter Tryz.func76,Tryz.ntmps76
 go_upto_region 1 with fail
 clear D;go_wp2;go_ret;exact⟨rfl,H.out.bel⟩
theorem RA (hr:Rd w0 w K a s mb v xs q n c) (h:aq) (hf:s.out.length<4096) (hk:gO h.kind=false):
 Calls Tryz.prog 76 #[.pointer (some ⟨K.r,0,none⟩),.agg (af h)] w fun e w'=>e=.returned (.int .i64 8)∧Below w0.heap.size w0 w':=by
 obtain⟨vp,U,J,_,_,_⟩:=ja hr.row hr.bodies;subst J;have D:xs.length=s.out.length:=by have:=congrArg List.length hr.out;simpa using this
 obtain⟨W1,B⟩:∃W1,w.alloc (.cells (af h) 66)=W1:=⟨_,rfl⟩
 have A:Below w.heap.size w W1:=by rw[←B];exact(Below.refl _ w).alloc (Qk _) _
 have H:au W1 w.heap.size 66 (af h):=by rw[←B];exact au.new w _ _
 have E:=hr.below A;have W:=E.c3;have O:=Qh hr;have T:=Qh A;have M:=Qh H;have I:=Qh E;have R:=Qh D;clear hr A H E;have N:((xs.length:Int)==4096)=false:=by rw[D];simpa using (by omega:¬(s.out.length:Int)=4096)
 clear D;have L:=M.out.cell 2;simp only[af,Qc,Qa,Qb]at L;have G:=jS h.kind W1;rw[hk]at G
 go_enter Tryz.func76,Tryz.ntmps76
 go_upto_region 1 with fail
 clear B;go_wp2_with fail;refine G.mono ?_;rintro e V ⟨rfl,rfl⟩;go_wp2;go_ret;exact⟨rfl,I.out.bel⟩
theorem BO (hr:Rd w0 w K a s mb v xs q n c) (h:aq) (hf:s.out.length<4096) (hk:gO h.kind=true) (Ch:(cU (aL s.dG) s.own (fv h s)).2≠0):
 Calls Tryz.prog 76 #[.pointer (some ⟨K.r,0,none⟩),.agg (af h)] w fun e w'=>e=.returned (.int .i64 (cU (aL s.dG) s.own (fv h s)).2)∧Below w0.heap.size w0 w':=by
 obtain⟨vp,Y,g,_,_,_⟩:=ja hr.row hr.bodies;subst g;have M:xs.length=s.out.length:=by have:=congrArg List.length hr.out;simpa using this
 obtain⟨W1,H⟩:∃W1,w.alloc (.cells (af h) 66)=W1:=⟨_,rfl⟩
 have G:Below w.heap.size w W1:=by rw[←H];exact(Below.refl _ w).alloc (Qk _) _
 have X:au W1 w.heap.size 66 (af h):=by rw[←H];exact au.new w _ _
 have N:=hr.below G;have l:=N.c3;have B:=Qh hr;have f:=Qh G;have W:=Qh X;have t:=Qh N;have u:=Qh M;clear hr G X N;have o:((xs.length:Int)==4096)=false:=by rw[M];simpa using (by omega:¬(s.out.length:Int)=4096)
 clear M;have V:=W.out.cell 2;simp only[af,Qc,Qa,Qb]at V;have U:=jS h.kind W1;rw[hk]at U;obtain⟨⟨L,on,J⟩,O⟩:∃x,AJ s q n c=x:=⟨_,rfl⟩
 obtain⟨⟨T,E⟩,D⟩:∃x,cU (aL s.dG) s.own (fv h s)=x:=⟨_,rfl⟩
 have b:Hid (∀wi,Rd w0 wi K a s mb (.slice vp xs.length Y) xs q n c→((wi.cell? ⟨K.r,1,none⟩=some (.pointer (some ⟨K.gs,0,none⟩))∧wi.cell? ⟨K.r,2,none⟩=some (.map (some K.mw)))∧(Instr.lookup 89 (.map (some K.mw)) (.int .u8 120) false).run Tryz.prog wi=.ok (.agg #[.string ⟨#[]⟩,.slice L on J]) wi)):=
  Qh (fun wi hi=>⟨⟨hi.c1,hi.c2⟩,um hi.map O⟩)
 have d:Hid (∀wi,Rd w0 wi K a s mb (.slice vp xs.length Y) xs q n c→Calls Tryz.prog 112 #[.pointer (some ⟨K.gs,0,none⟩),.agg (af (fv h s)),.slice L on J] wi fun e w'=>e=.returned (.tuple #[.agg (af T),.int .i64 E])∧Below wi.heap.size wi w'):=
  Qh (fun wi hi=>by have:=qd h hi O (fv h s);rw[D]at this;exact this)
 have Z:=Qh D;clear O D;rw[Z.out]at Ch⊢;simp only at Ch⊢;have y:(E != 0)=true:=by simpa using Ch
 clear Ch
 go_enter Tryz.func76,Tryz.ntmps76
 go_upto_region 1 with fail
 clear H;go_wp2_with fail;refine U.mono ?_;rintro e w1 ⟨rfl,rfl⟩;go_upto_region 5 with fail;refine wp_region_any (by kernel_rfl) (kx (w:=w) (w1:=W1) K.r K.gs K.mw w.heap.size h (fv h s) L on J T E (show 73≤73 from Qk 73) rfl rfl (Qk _) f.out W.out (fun wi A=>b.out wi (B.out.below A)) (fun wi A=>kL h (B.out.below A)) (fun wi A=>d.out wi (B.out.below A)) ?_);intro W5 I R;have z:=Qh I;have p:=Qh R;have m:=Qh (B.out.below I);clear I R V l;simp only[Exit.then]
 apply_assumption
 go_wp2;go_ret;exact⟨rfl,m.out.bel⟩
theorem EI (hr:Rd w0 w K a s mb v xs q n c) (h:aq) (hf:s.out.length<4096) (hk:gO h.kind=true) (hN:Need w0) (h0:0≤h.size) (h1:h.name.length≤1048576) (h2:h.link.length≤1048576) (ah:aq) (Ch:cU (aL s.dG) s.own (fv h s)=(ah,0)) (tL:(eF ah).2≠0):
 Calls Tryz.prog 76 #[.pointer (some ⟨K.r,0,none⟩),.agg (af h)] w fun e w'=>e=.returned (.int .i64 (eF ah).2)∧Below w0.heap.size w0 w':=by
 obtain⟨vp,o,hv,_,_,_⟩:=ja hr.row hr.bodies;subst hv;have U:xs.length=s.out.length:=by have:=congrArg List.length hr.out;simpa using this
 obtain⟨W1,N⟩:∃W1,w.alloc (.cells (af h) 66)=W1:=⟨_,rfl⟩
 have M:Below w.heap.size w W1:=by rw[←N];exact(Below.refl _ w).alloc (Qk _) _
 have l:au W1 w.heap.size 66 (af h):=by rw[←N];exact au.new w _ _
 have V:=hr.below M;have x3:=V.c3;have D:=Qh hr;have cr:=Qh M;have g:=Qh l;have MG:=Qh V;have MI:=Qh U;clear hr M l V;have Bj:((xs.length:Int)==4096)=false:=by rw[U];simpa using (by omega:¬(s.out.length:Int)=4096)
 clear U;have f:=g.out.cell 2;simp only[af,Qc,Qa,Qb]at f;have b:=jS h.kind W1;rw[hk]at b;obtain⟨⟨T,on,R⟩,W⟩:∃x,AJ s q n c=x:=⟨_,rfl⟩
 have MH:Hid (∀wi,Rd w0 wi K a s mb (.slice vp xs.length o) xs q n c→((wi.cell? ⟨K.r,1,none⟩=some (.pointer (some ⟨K.gs,0,none⟩))∧wi.cell? ⟨K.r,2,none⟩=some (.map (some K.mw)))∧(Instr.lookup 89 (.map (some K.mw)) (.int .u8 120) false).run Tryz.prog wi=.ok (.agg #[.string ⟨#[]⟩,.slice T on R]) wi)):=
  Qh (fun wi hi=>⟨⟨hi.c1,hi.c2⟩,um hi.map W⟩)
 have Us:Hid (∀wi,Rd w0 wi K a s mb (.slice vp xs.length o) xs q n c→Calls Tryz.prog 112 #[.pointer (some ⟨K.gs,0,none⟩),.agg (af (fv h s)),.slice T on R] wi fun e w'=>e=.returned (.tuple #[.agg (af ah),.int .i64 0])∧Below wi.heap.size wi w'):=
  Qh (fun wi hi=>by have:=qd h hi W (fv h s);rw[Ch]at this;exact this)
 have z:=Qh Ch;clear W Ch
 have o5:Hid (0≤ah.size∧ah.name.length≤1048576∧ah.link.length≤1048576):=Qh (by
  have:=qc h D.out h0 h1 h2;rw[z.out]at this
  exact this)
 have mP:=Qh hN;clear hN h0 h1 h2;obtain⟨⟨A,d⟩,I⟩:∃x,eF ah=x:=⟨_,rfl⟩
 have L:A.body=[]:=by have:=l9 ah;rw[I]at this;exact this
 have XS:Hid (∀wi,Tabs wi→Calls Tryz.prog 80 #[.agg (af ah)] wi fun e w'=>e=.returned (.tuple #[.agg #[.string (str A.path),.string (str A.target),.int .u8 (A.kind.toNat:Int),.int .i64 A.mode,.int .i64 A.uid,.int .i64 A.gid,.int .i64 A.time,.slice none 0 0],.int .i64 d])∧Below wi.heap.size wi w'):=
  Qh (fun wi hT=>by
   obtain⟨_,b1,b2⟩:=o5.out;have:=jD ah wi (by omega) (by omega) hT;rw[I]at this;unfold dj at this;simp only[L,List.length_nil]at this
   exact this)
 have y:=Qh I;have WO:=Qh L;clear I L;rw[y.out]at tL⊢;simp only at tL⊢;have Zw:(d != 0)=true:=by simpa using tL
 clear tL
 go_enter Tryz.func76,Tryz.ntmps76
 go_upto_region 1 with fail
 clear N;go_wp2_with fail;refine b.mono ?_;rintro e w1 ⟨rfl,rfl⟩;go_upto_region 5 with fail;refine wp_region_any (by kernel_rfl) (kx (w:=w) (w1:=W1) K.r K.gs K.mw w.heap.size h (fv h s) T on R ah 0 (show 73≤73 from Qk 73) rfl rfl (Qk _) cr.out g.out (fun wi E=>MH.out wi (D.out.below E)) (fun wi E=>kL h (D.out.below E)) (fun wi E=>Us.out wi (D.out.below E)) ?_);intro W5 O X;have o4:=Qh O;have G:=Qh X;have t:=Qh (D.out.below O);clear O X f x3;simp only[Exit.then]
 apply_assumption
 have B:=G.out;have c0:=B.cell 0;have c1:=B.cell 1;have c2:=B.cell 2;have c3:=B.cell 3;have c4:=B.cell 4;have c5:=B.cell 5;have c6:=B.cell 6;have c7:=B.cell 7;have Z:=B.cell 8;simp only[af,Qc,Qa,Qb]at c0 c1 c2 c3 c4 c5 c6 c7 Z;clear B;go_wp2_with fail;refine(XS.out _ (t.out.Ll mP.out).A2).mono ?_;rintro e p ⟨rfl,H⟩;have J:=H.alloc H.size (.cells #[.string (str A.path),.string (str A.target),.int .u8 (A.kind.toNat:Int),.int .i64 A.mode,.int .i64 A.uid,.int .i64 A.gid,.int .i64 A.time,.slice none 0 0] 48);have m:=au.new p 48 #[.string (str A.path),.string (str A.target),.int .u8 (A.kind.toNat:Int),.int .i64 A.mode,.int .i64 A.uid,.int .i64 A.gid,.int .i64 A.time,.slice none 0 0];have Y:w.heap.size<p.heap.size:=Nat.lt_of_lt_of_le G.out.lt H.size;have M7:=Qh (G.out.below J G.out.lt);have u:=Qh (t.out.below J);have uF:=Qh m;have QD:=Qh Y;clear H J m Y c0 c1 c2 c3 c4 c5 c6 c7 Z;go_wp2;go_ret;exact⟨rfl,u.out.bel⟩
end
section
variable {w0 w w':World} {K:RK} {a:Nat} {s:RS} {mb:Option Nat} {v:Value} {xs:List MP} {q:Option Addr} {n c:Nat}
theorem Rd.fresh (h:Rd w0 w K a s mb v xs q n c) {b:Nat} (hb:w.heap.size≤b):¬Ot K mb v b∧b≠K.g:=by
 obtain⟨t,hs⟩:=h.src;have h1:=h.fi.lt;have A:=hs.lt;have B:=h.st.lt;have D:=h.map.lt;refine⟨fun e=>?_,by omega⟩;rcases e with e|e|e|e|e
 ·omega
 ·omega
 ·omega
 ·have:=h.st.eH e;omega
 ·have:=(h.row.lt b e).2;omega
theorem Rd.RP {wo:World} {a0:Nat} (ho:Rd w0 wo K a0 s mb v xs q n c) (h:Rd w0 w K a s mb v xs q n c) (hk:Kept (fun k=>wo.heap.size≤k) w w'):Rd w0 w' K a s mb v xs q n c:=by
 obtain⟨t0,B⟩:=ho.src;obtain⟨t,hs⟩:=h.src;have I:=ho.fi.lt;have J:=B.lt;have L:=ho.st.lt;have M:=ho.map.lt;have G:=ho.bel.size
 exact {
  bel:=h.bel.trans (hk.below h.bel.size (fun k hk=>Nat.le_trans G hk))
  fi:=h.fi.bV hk (by omega)
  src:=⟨t,hs.kept hk (by omega) (fun A y hy e=>by have:=lS B.gC A hy;omega) (fun A y hy e=>by have:=Al B.Si A hy;omega)⟩
  off:=h.off
  st:=h.st.kept hk (fun k jE e=>by
   rcases jE with rfl|jE
   ·omega
   ·have:=ho.st.eH jE;omega)
  map:=h.map.kept hk (by omega)
  own:=dZ h.own hk (fun A y hy e=>by
   obtain⟨b',o,D,H,_⟩:=ho.own.2 A;rw[hy]at D
   cases D
   have e:wo.heap.size≤b':=e
   omega)
  qN:=h.qN
  row:=bh h.row hk (fun k jE e=>by have:=(ho.row.lt k jE).2;omega)
  out:=h.out
  bodies:=fun x E=>(h.bodies x E).kept hk (fun A y hy e=>by have:=lS (ho.bodies x E).gC A hy;omega)
  apart:=h.apart
  sp:=h.sp
  sq:=h.sq
  ne:=h.ne
  xR:=h.xR
  uo:=h.uo
  base:=h.base
  many:=h.many
  gl:=h.gl
  ol:=h.ol
  nl:=h.nl
  ll:=h.ll}
theorem J3 (hr:Rd w0 w K (a+512) s mb v xs q n c) (h:aq) (hf:s.out.length<4096) (hk:gO h.kind=true) (hN:Need w0) (h0:0≤h.size) (h1:h.name.length≤1048576) (h2:h.link.length≤1048576) (ah:aq) (Ch:cU (aL s.dG) s.own (fv h s)=(ah,0)) (tL:(eF ah).2=0) (k:Nat) (hsz:ah.size=(k:Int)) (eV:k≤1048576) (hl:K.S.n<a+512+fJ k):
 Calls Tryz.prog 76 #[.pointer (some ⟨K.r,0,none⟩),.agg (af h)] w fun e w'=>e=.returned (.int .i64 2)∧Below w0.heap.size w0 w':=by
 obtain⟨vp,vc,hv,_,_,_⟩:=ja hr.row hr.bodies;subst hv;have o:xs.length=s.out.length:=by have:=congrArg List.length hr.out;simpa using this
 obtain⟨W1,Z⟩:∃W1,w.alloc (.cells (af h) 66)=W1:=⟨_,rfl⟩
 have Y:Below w.heap.size w W1:=by rw[←Z];exact(Below.refl _ w).alloc (Qk _) _
 have rJ:au W1 w.heap.size 66 (af h):=by rw[←Z];exact au.new w _ _
 have u:=hr.below Y;have x3:=u.c3;have E:=Qh hr;have cr:=Qh Y;have oU:=Qh rJ;have MG:=Qh u;have MI:=Qh o;clear hr Y rJ u;have Bj:((xs.length:Int)==4096)=false:=by rw[o];simpa using (by omega:¬(s.out.length:Int)=4096)
 clear o;have k2:=oU.out.cell 2;simp only[af,Qc,Qa,Qb]at k2;have cu:=jS h.kind W1;rw[hk]at cu;obtain⟨⟨m,on,l⟩,y⟩:∃x,AJ s q n c=x:=⟨_,rfl⟩
 have MH:Hid (∀wi,Rd w0 wi K (a+512) s mb (.slice vp xs.length vc) xs q n c→((wi.cell? ⟨K.r,1,none⟩=some (.pointer (some ⟨K.gs,0,none⟩))∧wi.cell? ⟨K.r,2,none⟩=some (.map (some K.mw)))∧(Instr.lookup 89 (.map (some K.mw)) (.int .u8 120) false).run Tryz.prog wi=.ok (.agg #[.string ⟨#[]⟩,.slice m on l]) wi)):=
  Qh (fun wi hi=>⟨⟨hi.c1,hi.c2⟩,um hi.map y⟩)
 have Us:Hid (∀wi,Rd w0 wi K (a+512) s mb (.slice vp xs.length vc) xs q n c→Calls Tryz.prog 112 #[.pointer (some ⟨K.gs,0,none⟩),.agg (af (fv h s)),.slice m on l] wi fun e w'=>e=.returned (.tuple #[.agg (af ah),.int .i64 0])∧Below wi.heap.size wi w'):=
  Qh (fun wi hi=>by have:=qd h hi y (fv h s);rw[Ch]at this;exact this)
 have Ju:=Qh Ch;clear y Ch
 have o5:Hid (0≤ah.size∧ah.name.length≤1048576∧ah.link.length≤1048576):=Qh (by
  have:=qc h E.out h0 h1 h2;rw[Ju.out]at this
  exact this)
 have mP:=Qh hN;clear hN h0 h1 h2;obtain⟨⟨A,fe⟩,O⟩:∃x,eF ah=x:=⟨_,rfl⟩
 have V:A.body=[]:=by have:=l9 ah;rw[O]at this;exact this
 have XS:Hid (∀wi,Tabs wi→Calls Tryz.prog 80 #[.agg (af ah)] wi fun e w'=>e=.returned (.tuple #[.agg #[.string (str A.path),.string (str A.target),.int .u8 (A.kind.toNat:Int),.int .i64 A.mode,.int .i64 A.uid,.int .i64 A.gid,.int .i64 A.time,.slice none 0 0],.int .i64 fe])∧Below wi.heap.size wi w'):=
  Qh (fun wi hT=>by
   obtain⟨_,b1,b2⟩:=o5.out;have:=jD ah wi (by omega) (by omega) hT;rw[O]at this;unfold dj at this;simp only[V,List.length_nil]at this
   exact this)
 have Hh:=Qh O;have WO:=Qh V;clear O V;rw[Hh.out]at tL;simp only at tL;subst tL;have tU:=Qh hl;have od:=Qh eV;have d:=Qh hsz;clear hl eV hsz
 go_enter Tryz.func76,Tryz.ntmps76
 go_upto_region 1 with fail
 clear Z;go_wp2_with fail;refine cu.mono ?_;rintro e w1 ⟨rfl,rfl⟩;go_upto_region 5 with fail;refine wp_region_any (by kernel_rfl) (kx (w:=w) (w1:=W1) K.r K.gs K.mw w.heap.size h (fv h s) m on l ah 0 (show 73≤73 from Qk 73) rfl rfl (Qk _) cr.out oU.out (fun wi I=>MH.out wi (E.out.below I)) (fun wi I=>kL h (E.out.below I)) (fun wi I=>Us.out wi (E.out.below I)) ?_);intro W5 f D7;have o4:=Qh f;have J:=Qh D7;have yh:=Qh (E.out.below f);clear f D7 k2 x3;simp only[Exit.then]
 apply_assumption
 have B:=J.out;have c0:=B.cell 0;have c1:=B.cell 1;have c2:=B.cell 2;have c3:=B.cell 3;have c4:=B.cell 4;have c5:=B.cell 5;have c6:=B.cell 6;have c7:=B.cell 7;have c8:=B.cell 8;simp only[af,Qc,Qa,Qb]at c0 c1 c2 c3 c4 c5 c6 c7 c8;clear B;go_wp2_with fail;refine(XS.out _ (yh.out.Ll mP.out).A2).mono ?_;rintro e D ⟨rfl,N⟩;have R:=N.alloc N.size (.cells #[.string (str A.path),.string (str A.target),.int .u8 (A.kind.toNat:Int),.int .i64 A.mode,.int .i64 A.uid,.int .i64 A.gid,.int .i64 A.time,.slice none 0 0] 48);have uh:=au.new D 48 #[.string (str A.path),.string (str A.target),.int .u8 (A.kind.toNat:Int),.int .i64 A.mode,.int .i64 A.uid,.int .i64 A.gid,.int .i64 A.time,.slice none 0 0];have Uc:w.heap.size<D.heap.size:=Nat.lt_of_lt_of_le J.out.lt N.size;have W:=Qh (J.out.below R J.out.lt);have T:=Qh (yh.out.below R);have uF:=Qh uh;have L:=Qh Uc;clear N R uh Uc c0 c1 c2 c3 c4 c5 c6 c7 c8;obtain⟨W7,X⟩:∃W7,D.alloc (.cells #[.string (str A.path),.string (str A.target),.int .u8 (A.kind.toNat:Int),.int .i64 A.mode,.int .i64 A.uid,.int .i64 A.gid,.int .i64 A.time,.slice none 0 0] 48)=W7:=⟨_,rfl⟩
 rw[X]at W T uF;have Yn:=Qh X;clear X;have x0:=T.out.c0;have z:=W.out.cell 7;simp only[af,Qc,Qa,Qb,d.out]at z;have M:=T.out.idle ((Kept.refl ai W7).drew);obtain⟨t,hs⟩:=M.src
 have cX:w.heap.size≠K.g∧D.heap.size≠K.g:=by
  obtain⟨t',pE⟩:=E.out.src;have:=pE.lt;have:=L.out;exact⟨by omega,by omega⟩
 have Bz:=Qh M;have p6:=Qh cX;have hB:=Hy W7.drew K.g (a+512) t K.S hs M.off k od.out tU.out;clear hs M cX;go_upto_region 11 with fail;rw[Yn.out]
 go_region_held_law (fun w'=>w'.cell? ⟨K.r,0,none⟩=some (.pointer (some ⟨K.g,0,none⟩))∧w'.cell? ⟨w.heap.size,7,none⟩=some (.int .i64 (k:Int))) (first|exact⟨x0,z⟩|exact YI|exact b)
  (first
   |(go_at_call 108
     refine hB.mono ?_;rintro e G ⟨t',rfl,h4,H⟩;have U:=Qh (Bz.out.gn H ⟨t',h4⟩);have Yo:Hid (au G w.heap.size 66 (af ah)):=Qh ((W.out.drew).bV H p6.out.1);have xp:Hid (au G D.heap.size 48 #[.string (str A.path),.string (str A.target),.int .u8 (A.kind.toNat:Int),.int .i64 A.mode,.int .i64 A.uid,.int .i64 A.gid,.int .i64 A.time,.slice none 0 0]):=Qh ((uF.out.drew).bV H p6.out.2);have WK:=Qh H;have YI:G.cell? ⟨K.r,0,none⟩=some (.pointer (some ⟨K.g,0,none⟩))∧G.cell? ⟨w.heap.size,7,none⟩=some (.int .i64 (k:Int)):=⟨U.out.c0,by have:=Yo.out.cell 7;simp only[af,Qc,Qa,Qb,d.out]at this;exact this⟩
     have b:(G.setCell ⟨D.heap.size,7,none⟩ (.slice none 0 0)).cell? ⟨K.r,0,none⟩=some (.pointer (some ⟨K.g,0,none⟩))∧(G.setCell ⟨D.heap.size,7,none⟩ (.slice none 0 0)).cell? ⟨w.heap.size,7,none⟩=some (.int .i64 (k:Int)):=
      ⟨(U.out.fi.other (b':=D.heap.size) (i:=7) (by have:=E.out.fi.lt;have:=L.out;omega) _).cell 0,by have:=(Yo.out.other (b':=D.heap.size) (i:=7) (by have:=L.out;omega) (.slice none 0 0)).cell 7;simp only[af,Qc,Qa,Qb,d.out]at this;exact this⟩
     have m7:=xp.out.cell 7;have fm7:=xp.out.frozen 7;simp only[Qc,Qa,Qb]at m7
     clear h4 H))
 clear hB YI x0 z;go_wp2;go_ret;exact⟨rfl,U.out.bel.setCell (p:=⟨D.heap.size,7,none⟩) (Nat.le_trans E.out.bel.size (Nat.le_of_lt L.out)) _⟩
theorem U4 (hr:Rd w0 w K (a+512) s mb v xs q n c) (h:aq) (hf:s.out.length<4096) (hk:gO h.kind=true) (hN:Need w0) (h0:0≤h.size) (h1:h.name.length≤1048576) (h2:h.link.length≤1048576) (ah:aq) (Ch:cU (aL s.dG) s.own (fv h s)=(ah,0)) (tL:(eF ah).2=0) (k:Nat) (hsz:ah.size=(k:Int)) (eV:k≤1048576) (X:List UInt8) (hX:(K.S.bs.drop (a+512)).take k=X) (hl:a+512+fJ k≤K.S.n):
 Calls Tryz.prog 76 #[.pointer (some ⟨K.r,0,none⟩),.agg (af h)] w fun e w'=>e=.returned (.int .i64 0)∧Left w0 K (a+512+fJ k) {s with out:=s.out++[{(eF ah).1 with body:=X}],own:=[],name:=none,link:=none,fx:=false} w':=by
 have kQ:Hid (X.length=k):=Qh (by
  obtain⟨t,hs⟩:=hr.src;have:=kJ k;have:=hs.len
  rw[←hX,Qg,Qe];omega)
 obtain⟨vp,R,hv,_,_,_⟩:=ja hr.row hr.bodies;subst hv;have pW:xs.length=s.out.length:=by have:=congrArg List.length hr.out;simpa using this
 obtain⟨W1,ef⟩:∃W1,w.alloc (.cells (af h) 66)=W1:=⟨_,rfl⟩
 have cF:Below w.heap.size w W1:=by rw[←ef];exact(Below.refl _ w).alloc (Qk _) _
 have rJ:au W1 w.heap.size 66 (af h):=by rw[←ef];exact au.new w _ _
 have vu:=hr.below cF;have x3:=vu.c3;have G:=Qh hr;have cr:=Qh cF;have oU:=Qh rJ;have MG:=Qh vu;have MI:=Qh pW;clear hr cF rJ vu;have Bj:((xs.length:Int)==4096)=false:=by rw[pW];simpa using (by omega:¬(s.out.length:Int)=4096)
 clear pW;have k2:=oU.out.cell 2;simp only[af,Qc,Qa,Qb]at k2;have cu:=jS h.kind W1;rw[hk]at cu;obtain⟨⟨oq,on,oc⟩,xH⟩:∃x,AJ s q n c=x:=⟨_,rfl⟩
 have MH:Hid (∀wi,Rd w0 wi K (a+512) s mb (.slice vp xs.length R) xs q n c→((wi.cell? ⟨K.r,1,none⟩=some (.pointer (some ⟨K.gs,0,none⟩))∧wi.cell? ⟨K.r,2,none⟩=some (.map (some K.mw)))∧(Instr.lookup 89 (.map (some K.mw)) (.int .u8 120) false).run Tryz.prog wi=.ok (.agg #[.string ⟨#[]⟩,.slice oq on oc]) wi)):=
  Qh (fun wi hi=>⟨⟨hi.c1,hi.c2⟩,um hi.map xH⟩)
 have Us:Hid (∀wi,Rd w0 wi K (a+512) s mb (.slice vp xs.length R) xs q n c→Calls Tryz.prog 112 #[.pointer (some ⟨K.gs,0,none⟩),.agg (af (fv h s)),.slice oq on oc] wi fun e w'=>e=.returned (.tuple #[.agg (af ah),.int .i64 0])∧Below wi.heap.size wi w'):=
  Qh (fun wi hi=>by have:=qd h hi xH (fv h s);rw[Ch]at this;exact this)
 have Ju:=Qh Ch;clear xH Ch
 have o5:Hid (0≤ah.size∧ah.name.length≤1048576∧ah.link.length≤1048576):=Qh (by
  have:=qc h G.out h0 h1 h2;rw[Ju.out]at this
  exact this)
 have mP:=Qh hN;clear hN h0 h1 h2;obtain⟨⟨A,fe⟩,b⟩:∃x,eF ah=x:=⟨_,rfl⟩
 have o:A.body=[]:=by have:=l9 ah;rw[b]at this;exact this
 have XS:Hid (∀wi,Tabs wi→Calls Tryz.prog 80 #[.agg (af ah)] wi fun e w'=>e=.returned (.tuple #[.agg #[.string (str A.path),.string (str A.target),.int .u8 (A.kind.toNat:Int),.int .i64 A.mode,.int .i64 A.uid,.int .i64 A.gid,.int .i64 A.time,.slice none 0 0],.int .i64 fe])∧Below wi.heap.size wi w'):=
  Qh (fun wi hT=>by
   obtain⟨_,b1,b2⟩:=o5.out;have:=jD ah wi (by omega) (by omega) hT;rw[b]at this;unfold dj at this;simp only[o,List.length_nil]at this
   exact this)
 have Hh:=Qh b;have WO:=Qh o;clear b o;rw[Hh.out]at tL;simp only at tL;subst tL;rw[Hh.out];have HF:=Qh hf;have tU:=Qh (And.intro hX hl);have od:=Qh eV;have im:=Qh hsz;clear hl eV hsz hX hf
 go_enter Tryz.func76,Tryz.ntmps76
 go_upto_region 1 with fail
 clear ef;go_wp2_with fail;refine cu.mono ?_;rintro e w1 ⟨rfl,rfl⟩;go_upto_region 5 with fail;refine wp_region_any (by kernel_rfl) (kx (w:=w) (w1:=W1) K.r K.gs K.mw w.heap.size h (fv h s) oq on oc ah 0 (show 73≤73 from Qk 73) rfl rfl (Qk _) cr.out oU.out (fun wi M=>MH.out wi (G.out.below M)) (fun wi M=>kL h (G.out.below M)) (fun wi M=>Us.out wi (G.out.below M)) ?_);intro W5 nk D7;have o4:=Qh nk;have T:=Qh D7;have yh:=Qh (G.out.below nk);clear nk D7 k2 x3;simp only[Exit.then]
 apply_assumption
 have E:=T.out;have c0:=E.cell 0;have c1:=E.cell 1;have c2:=E.cell 2;have c3:=E.cell 3;have c4:=E.cell 4;have c5:=E.cell 5;have c6:=E.cell 6;have c7:=E.cell 7;have c8:=E.cell 8;simp only[af,Qc,Qa,Qb]at c0 c1 c2 c3 c4 c5 c6 c7 c8;clear E;go_wp2_with fail;refine(XS.out _ (yh.out.Ll mP.out).A2).mono ?_;rintro e B ⟨rfl,Y⟩;have d:=Y.alloc Y.size (.cells #[.string (str A.path),.string (str A.target),.int .u8 (A.kind.toNat:Int),.int .i64 A.mode,.int .i64 A.uid,.int .i64 A.gid,.int .i64 A.time,.slice none 0 0] 48);have uh:=au.new B 48 #[.string (str A.path),.string (str A.target),.int .u8 (A.kind.toNat:Int),.int .i64 A.mode,.int .i64 A.uid,.int .i64 A.gid,.int .i64 A.time,.slice none 0 0];have Uc:w.heap.size<B.heap.size:=Nat.lt_of_lt_of_le T.out.lt Y.size;have u:=Qh (T.out.below d T.out.lt);have f:=Qh (yh.out.below d);have uF:=Qh uh;have U:=Qh Uc;clear Y d uh Uc c0 c1 c2 c3 c4 c5 c6 c7 c8;obtain⟨W7,y⟩:∃W7,B.alloc (.cells #[.string (str A.path),.string (str A.target),.int .u8 (A.kind.toNat:Int),.int .i64 A.mode,.int .i64 A.uid,.int .i64 A.gid,.int .i64 A.time,.slice none 0 0] 48)=W7:=⟨_,rfl⟩
 rw[y]at u f uF;have Yn:=Qh y;clear y;have x0:=f.out.c0;have z7:=u.out.cell 7;simp only[af,Qc,Qa,Qb,im.out]at z7;have W:=f.out.idle ((Kept.refl ai W7).drew);obtain⟨t,hs⟩:=W.src
 have cX:w.heap.size≠K.g∧B.heap.size≠K.g:=by
  obtain⟨t',pE⟩:=G.out.src;have:=pE.lt;have:=U.out;exact⟨by omega,by omega⟩
 have Bz:=Qh W;have p6:=Qh cX;have hB:=og W7.drew K.g (a+512) t K.S hs W.off k od.out X tU.out.1 tU.out.2;clear hs W cX;go_upto_region 11 with fail;rw[Yn.out]
 go_region_held_law (fun w'=>w'.cell? ⟨K.r,0,none⟩=some (.pointer (some ⟨K.g,0,none⟩))∧w'.cell? ⟨w.heap.size,7,none⟩=some (.int .i64 (k:Int))) (first|exact⟨x0,z7⟩|exact YI|exact L)
  (first
   |(go_at_call 108
     refine hB.mono ?_;rintro e D ⟨p,t',rfl,h2,h3,h4,V⟩;have l:=Qh (Bz.out.gn V ⟨t',h4⟩);have Yo:Hid (au D w.heap.size 66 (af ah)):=Qh ((u.out.drew).bV V p6.out.1);have xp:Hid (au D B.heap.size 48 #[.string (str A.path),.string (str A.target),.int .u8 (A.kind.toNat:Int),.int .i64 A.mode,.int .i64 A.uid,.int .i64 A.gid,.int .i64 A.time,.slice none 0 0]):=Qh ((uF.out.drew).bV V p6.out.2);have WK:=Qh (And.intro h2 h3);have YI:D.cell? ⟨K.r,0,none⟩=some (.pointer (some ⟨K.g,0,none⟩))∧D.cell? ⟨w.heap.size,7,none⟩=some (.int .i64 (k:Int)):=⟨l.out.c0,by have:=Yo.out.cell 7;simp only[af,Qc,Qa,Qb,im.out]at this;exact this⟩
     have L:(D.setCell ⟨B.heap.size,7,none⟩ (.slice p k k)).cell? ⟨K.r,0,none⟩=some (.pointer (some ⟨K.g,0,none⟩))∧(D.setCell ⟨B.heap.size,7,none⟩ (.slice p k k)).cell? ⟨w.heap.size,7,none⟩=some (.int .i64 (k:Int)):=
      ⟨(l.out.fi.other (b':=B.heap.size) (i:=7) (by have:=G.out.fi.lt;have:=U.out;omega) _).cell 0,by have:=(Yo.out.other (b':=B.heap.size) (i:=7) (by have:=U.out;omega) (.slice p k k)).cell 7;simp only[af,Qc,Qa,Qb,im.out]at this;exact this⟩
     have m7:=xp.out.cell 7;have fm7:=xp.out.frozen 7;simp only[Qc,Qa,Qb]at m7
     clear h2 h3 h4 V))
 clear hB YI x0 z7
 have VV:au (D.setCell ⟨B.heap.size,7,none⟩ (.slice p k k)) B.heap.size 48 (MP.mk {A with body:=X} p k).cs:=by
  have h9:=xp.out.set 7 (.slice p k k) (by decide:7<8);have e:(MP.mk {A with body:=X} p k).cs=#[.string (str A.path),.string (str A.target),.int .u8 (A.kind.toNat:Int),.int .i64 A.mode,.int .i64 A.uid,.int .i64 A.gid,.int .i64 A.time,.slice p X.length k]:=rfl;rw[e,kQ.out];exact h9
 have QN:Kept (fun k=>w.heap.size≤k) D (D.setCell ⟨B.heap.size,7,none⟩ (.slice p k k)):=(Kept.refl _ D).setCell (a:=⟨B.heap.size,7,none⟩) (.inr (Nat.le_of_lt U.out)) _;have Xp:=Rd.RP G.out l.out QN
 have QJ:cK (D.setCell ⟨B.heap.size,7,none⟩ (.slice p k k)) p k X:=WK.out.1.kept ((Kept.refl (ay B.heap.size) D).setCell (a:=⟨B.heap.size,7,none⟩) (.inr rfl) _) (fun _ x hx e=>by
  have h1:=WK.out.2 x hx;have h2:=uF.out.lt;have h3:x.block=B.heap.size:=e;have h4:W7.drew.heap.size=W7.heap.size:=rfl
  omega)
 obtain⟨W9,H⟩:∃W9,D.setCell ⟨B.heap.size,7,none⟩ (.slice p k k)=W9:=⟨_,rfl⟩
 rw[H]at VV Xp QJ;have m:=Qh H;have zG:=Qh VV;have I:=Qh Xp;have WL:=Qh QJ;clear VV Xp QJ QN L m7 fm7 H;go_upto_region 14 with fail;rw[m.out];refine wp_region_any (by kernel_rfl) (zI (w1:=W9) w0.heap.size K.r B.heap.size (.slice vp xs.length R) xs (MP.mk {A with body:=X} p k) (I8 K (.slice vp xs.length R)) (show 73≤73 from Qk 73) rfl rfl zG.out I.out.fi rfl (fun e=>(I.out.uo _ e).1 rfl) I.out.row I.out.bel.size (by have:=MI.out;have:=HF.out;omega) ?_);intro γ wB hA;obtain⟨Z,g1,g2,g3,g4⟩:=hA;have J:=I.out.below g1;have xG:=J.Lg (v':=γ.va) g3;have O:Kept (fun k=>(Value.slice vp xs.length R).ownBlock=some k) Z wB:=(Kept.refl _ Z).grown g3 (fun k hk=>.inr hk);have N:=((J.fi.bV O (fun e=>(J.uo _ e).1 rfl)).set 3 γ.va (by decide:3<4)).cell 2;have c2:(wB.setCell ⟨K.r,3,none⟩ γ.va).cell? ⟨K.r,2,none⟩=some (.map (some K.mw)):=N;obtain⟨w2,dX,Ct,dr,yJ⟩:=xG.RH Tryz.underlying89 0;have hy:dP Z (MP.mk {A with body:=X} p k):=⟨by show cK Z p X.length X;rw[kQ.out];exact WL.out.below g1,by show X.length≤k;rw[kQ.out];exact Qk _,by show k≤maxLen;have:=od.out;unfold maxLen;omega⟩
 have F:=Qh (J.added g2 g3 g4 hy (fun _ z hz=>Bz.out.fresh (WK.out.2 z hz)) HF.out Ct dr);clear g1 g2 g3 g4 J xG O N Ct dr yJ hy;simp only[Exit.then]
 apply_assumption
 go_wp2;go_ret;exact⟨rfl,mb,γ.va,_,none,0,0,F.out⟩
end
section
variable {w0 w w':World} {K:RK} {a:Nat} {s:RS} {mb:Option Nat} {v:Value} {xs:List MP} {q:Option Addr} {n c:Nat}
theorem CB (k:UInt8):gO k=true↔¬(k≠48∧k≠49∧k≠50∧k≠53):=by
 unfold gO;simp only[Bool.or_eq_true,beq_iff_eq];constructor
 ·rintro(((h|h)|h)|h) ⟨h1,A,B,D⟩
  ·exact h1 h
  ·exact A h
  ·exact B h
  ·exact D h
 ·intro h
  by_cases h1:k=48
  ·exact .inl (.inl (.inl h1))
  ·by_cases A:k=49
   ·exact .inl (.inl (.inr A))
   ·by_cases B:k=50
    ·exact .inl (.inr B)
    ·by_cases D:k=53
     ·exact .inr D
     ·exact absurd ⟨h1,A,B,D⟩ h
theorem tZ (hr:Rd w0 w K (a+512) s mb v xs q n c) (h:aq) (hN:Need w0) (h0:0≤h.size) (h1:h.name.length≤1048576) (h2:h.link.length≤1048576):
 Calls Tryz.prog 76 #[.pointer (some ⟨K.r,0,none⟩),.agg (af h)] w (eB w0 K a (qG (K.S.bs.drop a) h s)):=by
 obtain⟨t,hs⟩:=hr.src;have hlen:=hs.len;have hle:=hs.le;have T:(K.S.bs.drop a).length=K.S.n - a:=by rw[Qe,hlen]
 unfold qG
 by_cases hf:4096≤s.out.length
 ·rw[if_pos hf]
  exact(Nr hr h (Nat.le_antisymm hr.many hf)).mono fun e w' h=>h
 ·rw[if_neg hf]
  have E:s.out.length<4096:=by omega
  by_cases hk:h.kind≠48∧h.kind≠49∧h.kind≠50∧h.kind≠53
  ·rw[if_pos hk]
   exact(RA hr h E (by
    cases W:gO h.kind with
    |false=>rfl
    |true=>exact absurd hk ((CB _).1 W))).mono fun e w' h=>h
  ·rw[if_neg hk,Ph]
   have I:=(CB _).2 hk
   by_cases G:(cU (aL s.dG) s.own (fv h s)).2≠0
   ·rw[if_pos G]
    exact(BO hr h E I G).mono fun e w' h=>h
   ·rw[if_neg G]
    have A:cU (aL s.dG) s.own (fv h s)=((cU (aL s.dG) s.own (fv h s)).1,0):=Prod.ext rfl (Classical.byContradiction G);have H:=qc h hr h0 h1 h2;obtain⟨D,N⟩:∃x,(cU (aL s.dG) s.own (fv h s)).1=x:=⟨_,rfl⟩
    rw[N]at A H⊢
    by_cases B:(eF D).2≠0
    ·rw[if_pos B]
     exact(EI hr h E I hN h0 h1 h2 D A B).mono fun e w' h=>h
    ·rw[if_neg B]
     have L:(eF D).2=0:=Classical.byContradiction B;have V:=Fk L;obtain⟨k,M⟩:∃k:Nat,D.size=(k:Int):=⟨D.size.toNat,by omega⟩
     have O:k≤1048576:=by omega
     have J:bg k=fJ k:=rfl;simp only;unfold sG;rw[M,Int.toNat_natCast,T]
     by_cases U:K.S.n<a+512+fJ k
     ·rw[if_pos (by rw[J];omega)]
      exact(J3 hr h E I hN h0 h1 h2 D A L k M O U).mono fun e w' h=>h
     ·rw[if_neg (by rw[J];omega)]
      simp only;obtain⟨X,R⟩:∃X,(K.S.bs.drop (a+512)).take k=X:=⟨_,rfl⟩
      rw[List.drop_drop,R,J];refine(U4 hr h E I hN h0 h1 h2 D A L k M O X R (by omega)).mono ?_;rintro e w' ⟨rfl,H⟩;rw[Nat.add_assoc]at H;exact⟨rfl,H⟩
theorem py (w:World) (g a t:Nat) (S:Sv) (h:Block.Src w g S a t) (ho:S.off g) (X:List UInt8) (hX:(S.bs.drop a).take 512=X) (hl:a+512≤S.n):
 Calls Tryz.prog 71 #[.pointer (some ⟨g,0,none⟩)] w fun e w'=>∃p c t',e=.returned (.tuple #[.slice p 512 c,.int .i64 0])∧512≤c∧c≤maxLen∧cK w' p 512 X∧Block.Src w' g S (a+512) t'∧Kept (ay g) w w':=by
 refine(mH w g a t S h ho).mono ?_;rintro e w' (⟨h1,_⟩|⟨_,B⟩)
 ·omega
 ·rcases B with⟨_,v,rfl,h3,⟨t',h4⟩,h5⟩|⟨h1,_⟩
  ·obtain⟨p,c,rfl,D,E,A,_,_⟩:=h3.slice
   rw[hX]at A;exact⟨p,c,t',rfl,D,E,A,h4,h5⟩
  ·omega
theorem U5 (w:World) (g a t:Nat) (S:Sv) (h:Block.Src w g S a t) (ho:S.off g) (hl:S.n<a+512):
 Calls Tryz.prog 71 #[.pointer (some ⟨g,0,none⟩)] w fun e w'=>∃E a' t',(E=14∨E=2)∧e=.returned (.tuple #[.slice none 0 0,.int .i64 E])∧Block.Src w' g S a' t'∧Kept (ay g) w w':=by
 refine(mH w g a t S h ho).mono ?_;rintro e w' (⟨_,rfl,⟨t',h1⟩,A⟩|⟨_,A⟩)
 ·exact⟨14,_,t',.inl rfl,rfl,h1,A⟩
 ·rcases A with⟨h3,_⟩|⟨_,rfl,⟨t',h4⟩,h5⟩
  ·omega
  ·exact⟨2,_,t',.inr rfl,rfl,h4,h5⟩
def BF (w0:World) (K:RK) (a:Nat) (s:RS) (mb:Option Nat) (v:Value) (xs:List MP) (q:Option Addr) (n c:Nat) (st:Step) (e:Ending) (w':World):Prop:=
 match st with
 |.fault er=>(∃b,e=.returned (.tuple #[.bool b,.int .i64 er]))∧Below w0.heap.size w0 w'
 |.done=>e=.returned (.tuple #[.bool false,.int .i64 0])∧∃a',Rd w0 w' K a' s mb v xs q n c
 |.next k s'=>e=.returned (.tuple #[.bool true,.int .i64 0])∧Left w0 K (a+k) s' w'
theorem Ga (hr:Rd w0 w K a s mb v xs q n c) (hl:K.S.n<a+512):
 Calls Tryz.prog 44 #[.pointer (some ⟨K.r,0,none⟩)] w fun e w'=>e=.returned (.tuple #[.bool false,.int .i64 2])∧Below w0.heap.size w0 w':=by
 obtain⟨t,hs⟩:=hr.src;have H:=Qh hr;have x0:=hr.c0;have D:=U5 w K.g a t K.S hs hr.off hl;clear hr hs hl
 go_enter Tryz.func44,Tryz.ntmps44
 go_wp2_with fail
 refine D.mono ?_;rintro e L ⟨E,a',I,G,rfl,A,B⟩;have F:=Qh (H.out.gn B ⟨I,A⟩);have J:(E != 0)=true:=by rcases G with rfl|rfl<;>rfl
 clear A B D x0 G;go_wp2;go_ret2;exact⟨rfl,F.out.bel⟩
theorem Pp (hr:Rd w0 w K a s mb v xs q n c) (X:List UInt8) (hX:(K.S.bs.drop a).take 512=X) (hl:a+512≤K.S.n) (hz:eu X=true):
 Calls Tryz.prog 44 #[.pointer (some ⟨K.r,0,none⟩)] w fun e w'=>e=.returned (.tuple #[.bool false,.int .i64 (Fa (K.S.bs.drop (a+512)) s)])∧∃a',Rd w0 w' K a' s mb v xs q n c:=by
 obtain⟨t,hs⟩:=hr.src;have J:X.length=512:=by rw[←hX,Qg,Qe,hs.len];omega
 have L:=Qh hr;have x0:=hr.c0;have H:=py w K.g a t K.S hs hr.off X hX hl;have T:=Qh J;have M:=Qh hz;obtain⟨EE,A⟩:∃EE,Fa (K.S.bs.drop (a+512)) s=EE:=⟨_,rfl⟩
 rw[A];have N:=Qh A;clear hr hs hl hX J hz A
 go_enter Tryz.func44,Tryz.ntmps44
 go_wp2_with fail
 refine H.mono ?_;rintro e V ⟨p,O,U,rfl,_,_,B,D,E⟩;have F:=Qh (L.out.gn E ⟨U,D⟩);have R:=Qh B;clear B D E H x0;go_wp2_with fail;refine(eR p O X V T.out R.out).mono ?_;rw[M.out];rintro e W ⟨rfl,rfl⟩;go_wp2_with fail;refine(show Calls _ _ _ _ (Hf w0 K (a+512) s mb v xs q n c (Fa (K.S.bs.drop (a+512)) s))from zR F.out).mono ?_;rw[N.out];rintro e w3 ⟨rfl,a',I⟩;have G:=Qh I;clear I;go_wp2;go_ret2;exact⟨rfl,a',G.out⟩
theorem C7 (hr:Rd w0 w K a s mb v xs q n c) (X:List UInt8) (hX:(K.S.bs.drop a).take 512=X) (hl:a+512≤K.S.n) (hz:eu X=false) (he:(bG X).2≠0):
 Calls Tryz.prog 44 #[.pointer (some ⟨K.r,0,none⟩)] w fun e w'=>e=.returned (.tuple #[.bool false,.int .i64 (bG X).2])∧Below w0.heap.size w0 w':=by
 obtain⟨t,hs⟩:=hr.src;have T:X.length=512:=by rw[←hX,Qg,Qe,hs.len];omega
 have W:=Qh hr;have x0:=hr.c0;have N:=py w K.g a t K.S hs hr.off X hX hl;have R:=Qh T;have Y:=Qh hz;obtain⟨⟨h,Z⟩,B⟩:∃x,bG X=x:=⟨_,rfl⟩
 rw[B]at he⊢;simp only at he⊢;have d:(Z != 0)=true:=by simpa using he
 have V:=Qh B;clear hr hs hl hX T hz he B
 go_enter Tryz.func44,Tryz.ntmps44
 go_wp2_with fail
 refine N.mono ?_;rintro e U ⟨p,E,b,rfl,I,O,J,L,M⟩;have F:=Qh (W.out.gn M ⟨b,L⟩);have H:=Qh J;have D:=Qh (And.intro I O);clear J L M N x0 I O;go_wp2_with fail;refine(eR p E X U R.out H.out).mono ?_;rw[Y.out];rintro e f ⟨rfl,rfl⟩;go_wp2_with fail;refine(iD p 512 E X U R.out D.out.1 D.out.2 H.out).mono ?_;rw[V.out];unfold lB af;simp only;rintro e w3 ⟨rfl,A⟩;have G:=Qh ((F.out.idle A).bel.alloc (F.out.idle A).bel.size (.cells #[.string (str h.name),.string (str h.link),.int .u8 (h.kind.toNat:Int),.int .i64 h.mode,.int .i64 h.uid,.int .i64 h.gid,.int .i64 h.time,.int .i64 h.size,.bool h.fL] 66));clear A;go_wp2;go_ret2;exact⟨rfl,G.out⟩
end
section
variable {w0 w w':World} {K:RK} {a:Nat} {s:RS} {mb:Option Nat} {v:Value} {xs:List MP} {q:Option Addr} {n c:Nat}
theorem C6 (hr:Rd w0 w K a s mb v xs q n c) (X:List UInt8) (hX:(K.S.bs.drop a).take 512=X) (hl:a+512≤K.S.n) (hz:eu X=false) (h:aq) (hh:bG X=(h,0)) (mf:h.kind=120) (hN:Need w0):
 Calls Tryz.prog 44 #[.pointer (some ⟨K.r,0,none⟩)] w fun e w'=>∃E,e=.returned (.tuple #[.bool true,.int .i64 E])∧eB w0 K a (j1 (K.S.bs.drop a) h s) (.returned (.int .i64 E)) w':=by
 obtain⟨t,hs⟩:=hr.src;have f:X.length=512:=by rw[←hX,Qg,Qe,hs.len];omega
 have y:=Qh hr;have x0:=hr.c0;have W:=py w K.g a t K.S hs hr.off X hX hl;have b:=Qh f;have z:=Qh hz;have m:=Qh hh;have d:=np X;rw[hh]at d;obtain⟨I,A,J⟩:=d;have o5:=Qh (And.intro I (And.intro A J));have mP:=Qh hN;obtain⟨kn,D⟩:∃kn:Int,(h.kind.toNat:Int)=kn:=⟨_,rfl⟩
 obtain rfl:kn=120:=by rw[←D,mf];rfl
 have o:=Qh mf;clear mf;clear hr hs hl hX f hz hh I A J hN;have O:=Qh D;clear D
 go_enter Tryz.func44,Tryz.ntmps44
 go_wp2_with fail
 refine W.mono ?_;rintro e l ⟨p,L,t',rfl,R,Z,T,U,V⟩;have F:=Qh (y.out.gn V ⟨t',U⟩);have M:=Qh T;have H:=Qh (And.intro R Z);clear T U V W x0 R Z;go_wp2_with fail;refine(eR p L X l b.out M.out).mono ?_;rw[z.out];rintro e w2 ⟨rfl,rfl⟩;go_wp2_with fail;refine(iD p 512 L X l b.out H.out.1 H.out.2 M.out).mono ?_;rw[m.out];unfold lB af;simp only[O.out];rintro e w3 ⟨rfl,N⟩;have Y:=(F.out.idle N).below ((Below.refl _ w3).alloc (Qk _) (.cells #[.string (str h.name),.string (str h.link),.int .u8 120,.int .i64 h.mode,.int .i64 h.uid,.int .i64 h.gid,.int .i64 h.time,.int .i64 h.size,.bool h.fL] 66));have A:=au.new w3 66 #[.string (str h.name),.string (str h.link),.int .u8 120,.int .i64 h.mode,.int .i64 h.uid,.int .i64 h.gid,.int .i64 h.time,.int .i64 h.size,.bool h.fL];have d0:=A.cell 0;have d1:=A.cell 1;have d2:=A.cell 2;have d3:=A.cell 3;have d4:=A.cell 4;have d5:=A.cell 5;have d6:=A.cell 6;have d7:=A.cell 7;have d8:=A.cell 8;simp only[Qc,Qa,Qb]at d0 d1 d2 d3 d4 d5 d6 d7 d8;have G:=Qh Y;clear N A Y;go_wp2_with fail
 refine(show Calls _ _ #[.pointer (some ⟨K.r,0,none⟩),.agg #[.string (str h.name),.string (str h.link),.int .u8 120,.int .i64 h.mode,.int .i64 h.uid,.int .i64 h.gid,.int .i64 h.time,.int .i64 h.size,.bool h.fL]] _ (eB w0 K a (j1 (K.S.bs.drop a) h s))from by
  have:=ub G.out h o5.out.1 (by rw[o.out];rfl) mP.out;unfold af at this;rw[O.out]at this
  exact this).mono ?_
 intro e w4 B
 obtain⟨E,rfl⟩:∃E,e=.returned (.int .i64 E):=by
  revert B
  cases j1 (K.S.bs.drop a) h s with
  |fault er=>exact fun B=>⟨er,B.1⟩
  |done=>exact fun B=>B.elim
  |next k s'=>exact fun B=>⟨0,B.1⟩
 have u:=Qh B;clear B;go_wp2;go_ret2;exact⟨E,rfl,u.out⟩
theorem C0 (hr:Rd w0 w K a s mb v xs q n c) (X:List UInt8) (hX:(K.S.bs.drop a).take 512=X) (hl:a+512≤K.S.n) (hz:eu X=false) (h:aq) (hh:bG X=(h,0)) (mf:h.kind=103) (hN:Need w0):
 Calls Tryz.prog 44 #[.pointer (some ⟨K.r,0,none⟩)] w fun e w'=>∃E,e=.returned (.tuple #[.bool true,.int .i64 E])∧eB w0 K a (j1 (K.S.bs.drop a) h s) (.returned (.int .i64 E)) w':=by
 obtain⟨t,hs⟩:=hr.src;have f:X.length=512:=by rw[←hX,Qg,Qe,hs.len];omega
 have y:=Qh hr;have x0:=hr.c0;have W:=py w K.g a t K.S hs hr.off X hX hl;have b:=Qh f;have z:=Qh hz;have m:=Qh hh;have d:=np X;rw[hh]at d;obtain⟨I,A,J⟩:=d;have o5:=Qh (And.intro I (And.intro A J));have mP:=Qh hN;obtain⟨kn,D⟩:∃kn:Int,(h.kind.toNat:Int)=kn:=⟨_,rfl⟩
 obtain rfl:kn=103:=by rw[←D,mf];rfl
 have o:=Qh mf;clear mf;clear hr hs hl hX f hz hh I A J hN;have O:=Qh D;clear D
 go_enter Tryz.func44,Tryz.ntmps44
 go_wp2_with fail
 refine W.mono ?_;rintro e l ⟨p,L,t',rfl,R,Z,T,U,V⟩;have F:=Qh (y.out.gn V ⟨t',U⟩);have M:=Qh T;have H:=Qh (And.intro R Z);clear T U V W x0 R Z;go_wp2_with fail;refine(eR p L X l b.out M.out).mono ?_;rw[z.out];rintro e w2 ⟨rfl,rfl⟩;go_wp2_with fail;refine(iD p 512 L X l b.out H.out.1 H.out.2 M.out).mono ?_;rw[m.out];unfold lB af;simp only[O.out];rintro e w3 ⟨rfl,N⟩;have Y:=(F.out.idle N).below ((Below.refl _ w3).alloc (Qk _) (.cells #[.string (str h.name),.string (str h.link),.int .u8 103,.int .i64 h.mode,.int .i64 h.uid,.int .i64 h.gid,.int .i64 h.time,.int .i64 h.size,.bool h.fL] 66));have A:=au.new w3 66 #[.string (str h.name),.string (str h.link),.int .u8 103,.int .i64 h.mode,.int .i64 h.uid,.int .i64 h.gid,.int .i64 h.time,.int .i64 h.size,.bool h.fL];have d0:=A.cell 0;have d1:=A.cell 1;have d2:=A.cell 2;have d3:=A.cell 3;have d4:=A.cell 4;have d5:=A.cell 5;have d6:=A.cell 6;have d7:=A.cell 7;have d8:=A.cell 8;simp only[Qc,Qa,Qb]at d0 d1 d2 d3 d4 d5 d6 d7 d8;have G:=Qh Y;clear N A Y;go_wp2_with fail
 refine(show Calls _ _ #[.pointer (some ⟨K.r,0,none⟩),.agg #[.string (str h.name),.string (str h.link),.int .u8 103,.int .i64 h.mode,.int .i64 h.uid,.int .i64 h.gid,.int .i64 h.time,.int .i64 h.size,.bool h.fL]] _ (eB w0 K a (j1 (K.S.bs.drop a) h s))from by
  have:=ub G.out h o5.out.1 (by rw[o.out];rfl) mP.out;unfold af at this;rw[O.out]at this
  exact this).mono ?_
 intro e w4 B
 obtain⟨E,rfl⟩:∃E,e=.returned (.int .i64 E):=by
  revert B
  cases j1 (K.S.bs.drop a) h s with
  |fault er=>exact fun B=>⟨er,B.1⟩
  |done=>exact fun B=>B.elim
  |next k s'=>exact fun B=>⟨0,B.1⟩
 have u:=Qh B;clear B;go_wp2;go_ret2;exact⟨E,rfl,u.out⟩
theorem F9 (hr:Rd w0 w K a s mb v xs q n c) (X:List UInt8) (hX:(K.S.bs.drop a).take 512=X) (hl:a+512≤K.S.n) (hz:eu X=false) (h:aq) (hh:bG X=(h,0)) (mf:h.kind=76) (hN:Need w0):
 Calls Tryz.prog 44 #[.pointer (some ⟨K.r,0,none⟩)] w fun e w'=>∃E,e=.returned (.tuple #[.bool true,.int .i64 E])∧eB w0 K a (j1 (K.S.bs.drop a) h s) (.returned (.int .i64 E)) w':=by
 obtain⟨t,hs⟩:=hr.src;have f:X.length=512:=by rw[←hX,Qg,Qe,hs.len];omega
 have y:=Qh hr;have x0:=hr.c0;have W:=py w K.g a t K.S hs hr.off X hX hl;have b:=Qh f;have z:=Qh hz;have m:=Qh hh;have d:=np X;rw[hh]at d;obtain⟨I,A,J⟩:=d;have o5:=Qh (And.intro I (And.intro A J));have mP:=Qh hN;obtain⟨kn,D⟩:∃kn:Int,(h.kind.toNat:Int)=kn:=⟨_,rfl⟩
 obtain rfl:kn=76:=by rw[←D,mf];rfl
 have o:=Qh mf;clear mf;clear hr hs hl hX f hz hh I A J hN;have O:=Qh D;clear D
 go_enter Tryz.func44,Tryz.ntmps44
 go_wp2_with fail
 refine W.mono ?_;rintro e l ⟨p,L,t',rfl,R,Z,T,U,V⟩;have F:=Qh (y.out.gn V ⟨t',U⟩);have M:=Qh T;have H:=Qh (And.intro R Z);clear T U V W x0 R Z;go_wp2_with fail;refine(eR p L X l b.out M.out).mono ?_;rw[z.out];rintro e w2 ⟨rfl,rfl⟩;go_wp2_with fail;refine(iD p 512 L X l b.out H.out.1 H.out.2 M.out).mono ?_;rw[m.out];unfold lB af;simp only[O.out];rintro e w3 ⟨rfl,N⟩;have Y:=(F.out.idle N).below ((Below.refl _ w3).alloc (Qk _) (.cells #[.string (str h.name),.string (str h.link),.int .u8 76,.int .i64 h.mode,.int .i64 h.uid,.int .i64 h.gid,.int .i64 h.time,.int .i64 h.size,.bool h.fL] 66));have A:=au.new w3 66 #[.string (str h.name),.string (str h.link),.int .u8 76,.int .i64 h.mode,.int .i64 h.uid,.int .i64 h.gid,.int .i64 h.time,.int .i64 h.size,.bool h.fL];have d0:=A.cell 0;have d1:=A.cell 1;have d2:=A.cell 2;have d3:=A.cell 3;have d4:=A.cell 4;have d5:=A.cell 5;have d6:=A.cell 6;have d7:=A.cell 7;have d8:=A.cell 8;simp only[Qc,Qa,Qb]at d0 d1 d2 d3 d4 d5 d6 d7 d8;have G:=Qh Y;clear N A Y;go_wp2_with fail
 refine(show Calls _ _ #[.pointer (some ⟨K.r,0,none⟩),.agg #[.string (str h.name),.string (str h.link),.int .u8 76,.int .i64 h.mode,.int .i64 h.uid,.int .i64 h.gid,.int .i64 h.time,.int .i64 h.size,.bool h.fL]] _ (eB w0 K a (j1 (K.S.bs.drop a) h s))from by
  have:=ub G.out h o5.out.1 (by rw[o.out];rfl) mP.out;unfold af at this;rw[O.out]at this
  exact this).mono ?_
 intro e w4 B
 obtain⟨E,rfl⟩:∃E,e=.returned (.int .i64 E):=by
  revert B
  cases j1 (K.S.bs.drop a) h s with
  |fault er=>exact fun B=>⟨er,B.1⟩
  |done=>exact fun B=>B.elim
  |next k s'=>exact fun B=>⟨0,B.1⟩
 have u:=Qh B;clear B;go_wp2;go_ret2;exact⟨E,rfl,u.out⟩
theorem F8 (hr:Rd w0 w K a s mb v xs q n c) (X:List UInt8) (hX:(K.S.bs.drop a).take 512=X) (hl:a+512≤K.S.n) (hz:eu X=false) (h:aq) (hh:bG X=(h,0)) (mf:h.kind=75) (hN:Need w0):
 Calls Tryz.prog 44 #[.pointer (some ⟨K.r,0,none⟩)] w fun e w'=>∃E,e=.returned (.tuple #[.bool true,.int .i64 E])∧eB w0 K a (j1 (K.S.bs.drop a) h s) (.returned (.int .i64 E)) w':=by
 obtain⟨t,hs⟩:=hr.src;have f:X.length=512:=by rw[←hX,Qg,Qe,hs.len];omega
 have y:=Qh hr;have x0:=hr.c0;have W:=py w K.g a t K.S hs hr.off X hX hl;have b:=Qh f;have z:=Qh hz;have m:=Qh hh;have d:=np X;rw[hh]at d;obtain⟨I,A,J⟩:=d;have o5:=Qh (And.intro I (And.intro A J));have mP:=Qh hN;obtain⟨kn,D⟩:∃kn:Int,(h.kind.toNat:Int)=kn:=⟨_,rfl⟩
 obtain rfl:kn=75:=by rw[←D,mf];rfl
 have o:=Qh mf;clear mf;clear hr hs hl hX f hz hh I A J hN;have O:=Qh D;clear D
 go_enter Tryz.func44,Tryz.ntmps44
 go_wp2_with fail
 refine W.mono ?_;rintro e l ⟨p,L,t',rfl,R,Z,T,U,V⟩;have F:=Qh (y.out.gn V ⟨t',U⟩);have M:=Qh T;have H:=Qh (And.intro R Z);clear T U V W x0 R Z;go_wp2_with fail;refine(eR p L X l b.out M.out).mono ?_;rw[z.out];rintro e w2 ⟨rfl,rfl⟩;go_wp2_with fail;refine(iD p 512 L X l b.out H.out.1 H.out.2 M.out).mono ?_;rw[m.out];unfold lB af;simp only[O.out];rintro e w3 ⟨rfl,N⟩;have Y:=(F.out.idle N).below ((Below.refl _ w3).alloc (Qk _) (.cells #[.string (str h.name),.string (str h.link),.int .u8 75,.int .i64 h.mode,.int .i64 h.uid,.int .i64 h.gid,.int .i64 h.time,.int .i64 h.size,.bool h.fL] 66));have A:=au.new w3 66 #[.string (str h.name),.string (str h.link),.int .u8 75,.int .i64 h.mode,.int .i64 h.uid,.int .i64 h.gid,.int .i64 h.time,.int .i64 h.size,.bool h.fL];have d0:=A.cell 0;have d1:=A.cell 1;have d2:=A.cell 2;have d3:=A.cell 3;have d4:=A.cell 4;have d5:=A.cell 5;have d6:=A.cell 6;have d7:=A.cell 7;have d8:=A.cell 8;simp only[Qc,Qa,Qb]at d0 d1 d2 d3 d4 d5 d6 d7 d8;have G:=Qh Y;clear N A Y;go_wp2_with fail
 refine(show Calls _ _ #[.pointer (some ⟨K.r,0,none⟩),.agg #[.string (str h.name),.string (str h.link),.int .u8 75,.int .i64 h.mode,.int .i64 h.uid,.int .i64 h.gid,.int .i64 h.time,.int .i64 h.size,.bool h.fL]] _ (eB w0 K a (j1 (K.S.bs.drop a) h s))from by
  have:=ub G.out h o5.out.1 (by rw[o.out];rfl) mP.out;unfold af at this;rw[O.out]at this
  exact this).mono ?_
 intro e w4 B
 obtain⟨E,rfl⟩:∃E,e=.returned (.int .i64 E):=by
  revert B
  cases j1 (K.S.bs.drop a) h s with
  |fault er=>exact fun B=>⟨er,B.1⟩
  |done=>exact fun B=>B.elim
  |next k s'=>exact fun B=>⟨0,B.1⟩
 have u:=Qh B;clear B;go_wp2;go_ret2;exact⟨E,rfl,u.out⟩
theorem Pn (hr:Rd w0 w K a s mb v xs q n c) (X:List UInt8) (hX:(K.S.bs.drop a).take 512=X) (hl:a+512≤K.S.n) (hz:eu X=false) (h:aq) (hh:bG X=(h,0)) (mf:qx h.kind=false) (hN:Need w0):
 Calls Tryz.prog 44 #[.pointer (some ⟨K.r,0,none⟩)] w fun e w'=>∃E,e=.returned (.tuple #[.bool true,.int .i64 E])∧eB w0 K a (qG (K.S.bs.drop a) h s) (.returned (.int .i64 E)) w':=by
 obtain⟨t,hs⟩:=hr.src;have o:X.length=512:=by rw[←hX,Qg,Qe,hs.len];omega
 have HR:=Qh hr;have x0:=hr.c0;have Z:=py w K.g a t K.S hs hr.off X hX hl;have f:=Qh o;have HZ:=Qh hz;have y:=Qh hh;have l:=np X;rw[hh]at l;obtain⟨J,A,L⟩:=l;have H:=Qh (And.intro J (And.intro A L));have mP:=Qh hN;obtain⟨kn,D⟩:∃kn:Int,(h.kind.toNat:Int)=kn:=⟨_,rfl⟩
 have R:(kn==120)=false∧(kn==103)=false∧(kn==76)=false∧(kn==75)=false:=by
  have hu:=fun m hm=>km h.kind m hm
  unfold qx at mf;simp only[Bool.or_eq_false_iff,beq_eq_false_iff_ne]at mf;obtain⟨⟨⟨k1,k2⟩,k3⟩,k4⟩:=mf;simp only[beq_eq_false_iff_ne];exact⟨fun e=>k1 ((hu 120 (by decide)).1 (D.trans e)),fun e=>k2 ((hu 103 (by decide)).1 (D.trans e)),fun e=>k3 ((hu 76 (by decide)).1 (D.trans e)),fun e=>k4 ((hu 75 (by decide)).1 (D.trans e))⟩
 obtain⟨e1,e2,e3,R⟩:=R;clear mf;clear hr hs hl hX o hz hh J A L hN;have T:=Qh D;clear D
 go_enter Tryz.func44,Tryz.ntmps44
 go_wp2_with fail
 refine Z.mono ?_;rintro e u ⟨p,M,t',rfl,U,d,V,W,Y⟩;have F:=Qh (HR.out.gn Y ⟨t',W⟩);have N:=Qh V;have I:=Qh (And.intro U d);clear V W Y Z x0 U d;go_wp2_with fail;refine(eR p M X u f.out N.out).mono ?_;rw[HZ.out];rintro e w2 ⟨rfl,rfl⟩;go_wp2_with fail;refine(iD p 512 M X u f.out I.out.1 I.out.2 N.out).mono ?_;rw[y.out];unfold lB af;simp only[T.out];rintro e w3 ⟨rfl,O⟩;have b:=(F.out.idle O).below ((Below.refl _ w3).alloc (Qk _) (.cells #[.string (str h.name),.string (str h.link),.int .u8 kn,.int .i64 h.mode,.int .i64 h.uid,.int .i64 h.gid,.int .i64 h.time,.int .i64 h.size,.bool h.fL] 66));have A:=au.new w3 66 #[.string (str h.name),.string (str h.link),.int .u8 kn,.int .i64 h.mode,.int .i64 h.uid,.int .i64 h.gid,.int .i64 h.time,.int .i64 h.size,.bool h.fL];have d0:=A.cell 0;have d1:=A.cell 1;have d2:=A.cell 2;have d3:=A.cell 3;have d4:=A.cell 4;have d5:=A.cell 5;have d6:=A.cell 6;have d7:=A.cell 7;have d8:=A.cell 8;simp only[Qc,Qa,Qb]at d0 d1 d2 d3 d4 d5 d6 d7 d8;have G:=Qh b;clear O A b;go_wp2_with fail
 refine(show Calls _ _ #[.pointer (some ⟨K.r,0,none⟩),.agg #[.string (str h.name),.string (str h.link),.int .u8 kn,.int .i64 h.mode,.int .i64 h.uid,.int .i64 h.gid,.int .i64 h.time,.int .i64 h.size,.bool h.fL]] _ (eB w0 K a (qG (K.S.bs.drop a) h s))from by
  have:=tZ G.out h mP.out H.out.1 (by have:=H.out.2.1;omega) (by have:=H.out.2.2;omega);unfold af at this;rw[T.out]at this
  exact this).mono ?_
 intro e w4 B
 obtain⟨E,rfl⟩:∃E,e=.returned (.int .i64 E):=by
  revert B
  cases qG (K.S.bs.drop a) h s with
  |fault er=>exact fun B=>⟨er,B.1⟩
  |done=>exact fun B=>B.elim
  |next k s'=>exact fun B=>⟨0,B.1⟩
 have z:=Qh B;clear B;go_wp2;go_ret2;exact⟨E,rfl,z.out⟩
theorem IU {st:Step} (hd:st≠.done) (h:Calls Tryz.prog 44 #[.pointer (some ⟨K.r,0,none⟩)] w fun e w'=>∃E,e=.returned (.tuple #[.bool true,.int .i64 E])∧eB w0 K a st (.returned (.int .i64 E)) w'):
 Calls Tryz.prog 44 #[.pointer (some ⟨K.r,0,none⟩)] w (BF w0 K a s mb v xs q n c st):=by
 refine h.mono ?_;rintro e w' ⟨E,rfl,B⟩
 cases st with
 |fault er=>
  obtain⟨h1,A⟩:=B;simp only[Ending.returned.injEq,Value.int.injEq,true_and]at h1;subst h1;exact⟨⟨true,rfl⟩,A⟩
 |done=>exact absurd rfl hd
 |next k D=>
  obtain⟨h1,A⟩:=B;simp only[Ending.returned.injEq,Value.int.injEq,true_and]at h1;subst h1;exact⟨rfl,A⟩
theorem Kn (l:List UInt8) (h:aq) (s:RS):j1 l h s≠.done:=by
 unfold j1;split
 ·exact fun h=>by cases h
 ·split
  ·exact fun h=>by cases h
  ·split
   ·exact fun h=>by cases h
   ·split
    ·exact fun h=>by cases h
    ·split
     ·exact fun h=>by cases h
     ·split
      ·exact fun h=>by cases h
      ·split<;>exact fun h=>by cases h
theorem Li (l:List UInt8) (h:aq) (s:RS):qG l h s≠.done:=by
 unfold qG;split
 ·exact fun h=>by cases h
 ·split
  ·exact fun h=>by cases h
  ·split
   ·exact fun h=>by cases h
   ·split<;>exact fun h=>by cases h
theorem Po (hr:Rd w0 w K a s mb v xs q n c) (hN:Need w0):
 Calls Tryz.prog 44 #[.pointer (some ⟨K.r,0,none⟩)] w (BF w0 K a s mb v xs q n c (eK (K.S.bs.drop a) s)):=by
 obtain⟨t,hs⟩:=hr.src;have hlen:=hs.len;have hle:=hs.le;have J:(K.S.bs.drop a).length=K.S.n - a:=by rw[Qe,hlen]
 unfold eK
 by_cases h1:(K.S.bs.drop a).length<512
 ·rw[if_pos h1]
  exact(Ga hr (by omega)).mono fun e w' h=>⟨⟨false,h.1⟩,h.2⟩
 ·rw[if_neg h1]
  have hl:a+512≤K.S.n:=by omega
  obtain⟨X,E⟩:∃X,(K.S.bs.drop a).take 512=X:=⟨_,rfl⟩
  rw[E]
  by_cases H:eu X=true
  ·rw[if_pos H]
   refine(Pp hr X E hl H).mono ?_;rintro e w' ⟨rfl,a',I⟩;unfold Fa;rw[List.drop_drop,J,Nat.sub_sub,show(K.S.bs.drop (a+512)).length=K.S.n - (a+512) by rw[Qe,hlen]]
   by_cases B:K.S.n - (a+512)<512
   ·rw[if_pos B,if_pos B]
    exact⟨⟨false,rfl⟩,I.bel⟩
   ·rw[if_neg B,if_neg B]
    by_cases A:eu (K.S.bs.drop (a+512))=false
    ·rw[if_pos A,if_pos A]
     exact⟨⟨false,rfl⟩,I.bel⟩
    ·rw[if_neg A,if_neg A]
     by_cases D:s.fx=true∨s.name.isSome=true∨s.link.isSome=true
     ·rw[if_pos D,if_pos D]
      exact⟨⟨false,rfl⟩,I.bel⟩
     ·rw[if_neg D,if_neg D]
      exact⟨rfl,a',I⟩
  ·rw[if_neg H]
   have G:eu X=false:=by simpa using H
   by_cases B:(bG X).2≠0
   ·rw[if_pos B]
    exact(C7 hr X E hl G B).mono fun e w' h=>⟨⟨false,h.1⟩,h.2⟩
   ·rw[if_neg B]
    have A:bG X=((bG X).1,0):=Prod.ext rfl (Classical.byContradiction B)
    by_cases D:qx (bG X).1.kind=true
    ·rw[if_pos D]
     refine IU (Kn _ _ _) ?_;have h6:=D;unfold qx at h6;simp only[Bool.or_eq_true,beq_iff_eq]at h6;rcases h6 with((h6|h6)|h6)|h6
     ·exact C6 hr X E hl G _ A h6 hN
     ·exact C0 hr X E hl G _ A h6 hN
     ·exact F9 hr X E hl G _ A h6 hN
     ·exact F8 hr X E hl G _ A h6 hN
    ·rw[if_neg D]
     exact IU (Li _ _ _) (Pn hr X E hl G _ A (by simpa using D) hN)
end
end Mem
namespace Mem
theorem G9 (q:Option Addr) (n c:Nat):cD iK q n c=fun _=>none:=by
 funext k
 unfold cD iK;simp
def Yp (w:World) (bs:List UInt8) (e:Ending) (w':World):Prop:=
 ∃K:RK,e=.returned (.pointer (some ⟨K.r,0,none⟩))∧K.S.bs=bs∧Rd w w' K 0 iK none (.slice none 0 0) [] none 0 0
theorem Lm {g:Nat} {S:Sv} (hg:w.heap.size≤g) (ho:S.off g) (hs:Block.Src w1 g S 0 0) (hk:Kept ai w w1):
 Rd w (((w1.alloc (.cells #[.map none] 128)).alloc (.map #[] 0)).alloc (.cells #[.pointer (some ⟨g,0,none⟩),.pointer (some ⟨w1.heap.size,0,none⟩),.map (some (w1.heap.size+1)),.slice none 0 0] 91))
  ⟨w1.heap.size+1+1,g,w1.heap.size,w1.heap.size+1,S⟩ 0 iK none (.slice none 0 0) [] none 0 0:=by
 have O:=hs.lt
 have I:Kept ai w1 (((w1.alloc (.cells #[.map none] 128)).alloc (.map #[] 0)).alloc (.cells #[.pointer (some ⟨g,0,none⟩),.pointer (some ⟨w1.heap.size,0,none⟩),.map (some (w1.heap.size+1)),.slice none 0 0] 91)):=
  (((Kept.refl ai w1).alloc _).alloc _).alloc _
 have E:=hk.size
 have M:∀y,y<w1.heap.size→¬Ot ⟨w1.heap.size+1+1,g,w1.heap.size,w1.heap.size+1,S⟩ none (.slice none 0 0) y:=fun y hy e=>by
  rcases e with e|e|e|e|e
  ·have e:y=w1.heap.size+1+1:=e;omega
  ·have e:y=w1.heap.size:=e;omega
  ·have e:y=w1.heap.size+1:=e;omega
  ·cases e
  ·cases e
 have N:=(St.new w1).kept (((Kept.refl ai (w1.alloc (.cells #[.map none] 128))).alloc (.map #[] 0)).alloc (.cells #[.pointer (some ⟨g,0,none⟩),.pointer (some ⟨w1.heap.size,0,none⟩),.map (some (w1.heap.size+1)),.slice none 0 0] 91)) (fun _ _=>id);have J:=(jU QY (w1.alloc (.cells #[.map none] 128))).kept ((Kept.refl ai _).alloc (.cells #[.pointer (some ⟨g,0,none⟩),.pointer (some ⟨w1.heap.size,0,none⟩),.map (some (w1.heap.size+1)),.slice none 0 0] 91)) id;have L:=au.new ((w1.alloc (.cells #[.map none] 128)).alloc (.map #[] 0)) 91 #[.pointer (some ⟨g,0,none⟩),.pointer (some ⟨w1.heap.size,0,none⟩),.map (some (w1.heap.size+1)),.slice none 0 0];simp only[World.size_alloc]at J L
 exact {
  bel:=(hk.trans I).below (Qk _) (fun _ h=>h.elim)
  fi:=L
  src:=⟨0,hs.du I⟩
  off:=ho
  st:=N
  map:=by rw[G9];exact J
  own:=⟨rfl,fun h=>by omega⟩
  qN:=fun _=>rfl
  row:=⟨rfl,.inl ⟨rfl,rfl⟩⟩
  out:=rfl
  bodies:=fun x H=>by simp at H
  apart:=fun x H=>by simp at H
  sp:=fun A y hy=>M _ (lS hs.gC A hy)
  sq:=fun A y hy=>M _ (Al hs.Si A hy)
  ne:=⟨by show w1.heap.size+1+1≠g;omega,by show w1.heap.size+1+1≠w1.heap.size;omega,by show w1.heap.size+1+1≠w1.heap.size+1;omega,by show g≠w1.heap.size;omega,by show g≠w1.heap.size+1;omega,by show w1.heap.size≠w1.heap.size+1;omega⟩
  xR:=fun b B=>by cases B
  uo:=fun b B=>by cases B
  base:=⟨by show w.heap.size≤w1.heap.size+1+1;omega,hg,E,by show w.heap.size≤w1.heap.size+1;omega⟩
  many:=by show 0≤4096;omega
  gl:=(fun r D=>by cases D)
  ol:=⟨(fun r D=>by cases D),by show 0≤1048576;omega⟩
  nl:=fun t G=>by cases G
  ll:=fun t G=>by cases G}
theorem xS (w:World) (p:Option Addr) (n c:Nat) (bs:List UInt8) (q:Option Addr) (m d:Nat) (zs:List Int) (hb:cK w p n bs) (hl:bs.length=n) (hn:n≤140737488351232) (hq:Ho w q m zs) (hz:zs.length=m) (hm:m*8≤140737488351232):
 Calls Tryz.prog 42 #[.slice p n c,.slice q m d] w (Yp w bs):=by
 have H:=SJ w p n c bs q m d zs hb hl hn hq hz hm;have N:=@run_makeMap Tryz.prog;clear hb hl hn hq hz hm
 go_enter Tryz.func42,Tryz.ntmps42
 go_wp2_with fail
 refine H.mono ?_;rintro e A ⟨g,S,rfl,h1,B,I,J,D,L,M,E,G⟩;have F:=Qh (And.intro B (Lm h1 D E G));clear h1 B I J D L M E G H;go_wp2;go_ret;exact⟨⟨A.heap.size+1+1,g,A.heap.size,A.heap.size+1,S⟩,rfl,F.out.1,F.out.2⟩
end Mem
namespace Mem
open Path Go.Shelf
theorem zg {fn:Func} (hf:fn.results=#[.tmp 4,.cell 5 32]) (tmps:Array Value) (w:World) (g:Nat) (v:Value) (ht:tmps.getD 5 undef=.pointer (some ⟨g,0,none⟩)) (hv:tmps.getD 4 undef=v)
 (a b:Int) (hb:au w g 32 #[.int .i64 a,.int .i64 b]):(results fn tmps).run Tryz.prog w=.ok (.tuple #[v,.agg #[.int .i64 a,.int .i64 b]]) w:=by
 have c0:=hb.cell 0;have c1:=hb.cell 1;simp only[Qc,Qa,Qb]at c0 c1;have hl:(loadVar 32 ⟨g,0,none⟩).run Tryz.prog w=.ok (.agg #[.int .i64 a,.int .i64 b]) w:=by go_simp
 have B:tmps[5]?.getD undef=.pointer (some ⟨g,0,none⟩):=by simpa using ht
 have A:tmps[4]?.getD undef=v:=by simpa using hv
 simp only[results,hf];simp[Result.andThen,B,A,asAddr,hl]
theorem BW {p:Option Addr} {n:Nat} {bs:List UInt8} {b:Nat} {t:TypeId} {cs:Array Value} (h:cK w p n bs) (hb:au w b t cs) (hs:∀(i:Nat) (x:Int),cs[i]? ≠some (.int .u8 x)) (h0:0<n) {y:Addr} (hy:p=some y):y.block≠b:=by
 obtain⟨A,o,rfl,_,hc⟩:=h.cell h0
 cases hy
 rintro rfl;have c0:=hc 0 h0;rw[hb.cell]at c0;exact hs _ _ c0
def TG (w:World) (bs:List UInt8) (e:Ending) (w':World):Prop:=
 ∃(p:Option Addr) (c:Nat) (xs:List MP),e=.returned (.tuple #[.slice p xs.length c,.agg #[.int .i64 (dv bs).2.1,.int .i64 ((dv bs).2.2:Nat)]])∧xs.length≤c∧c≤maxLen∧xs.map MP.m=(dv bs).1∧dD w' p xs.length xs∧Below w.heap.size w w'
theorem CW (w:World) (p:Option Addr) (n c:Nat) (bs:List UInt8) (q:Option Addr) (m d:Nat) (zs:List Int) (hb:cK w p n bs) (hl:bs.length=n) (hn:n≤140737488351232) (hq:Ho w q m zs) (hz:zs.length=m) (hm:m*8≤140737488351232) (hN:Need w):
 Calls Tryz.prog 18 #[.slice p n c,.slice q m d] w (TG w bs):=by
 obtain⟨W1,W⟩:∃W1,w.alloc (.cells #[.int .i64 0,.int .i64 0] 32)=W1:=⟨_,rfl⟩
 have L:Below w.heap.size w W1:=by rw[←W];exact(Below.refl _ w).alloc (Qk _) _
 have rJ:au W1 w.heap.size 32 #[.int .i64 0,.int .i64 0]:=by rw[←W];exact au.new w _ _
 have M:=xS W1 p n c bs q m d zs (hb.below L) hl hn (hq.kept (Kept.aO L ai) (fun _ _ _=>id)) hz hm;have T:=Qh L;have J:=Qh rJ;have mP:=Qh (hN.below L);have pZ:=Qh hl;clear hb hl hn hq hz hm hN L rJ
 go_enter Tryz.func18,Tryz.ntmps18
 go_upto_region 1 with fail
 clear W;go_wp2_with fail;refine M.mono ?_;rintro e w2 ⟨K,rfl,Is,D⟩;have V:=Qh Is;have HR:=Qh D;clear Is D M;go_wp2_with fail
 go_loopg [7,8,9] bs.length (fun g s7 s8 s9 wr=>Hid (∃(a:Nat) (s:RS) (mb:Option Nat) (v:Value) (xs:List MP) (q:Option Addr) (n c:Nat),Rd W1 wr K a s mb v xs q n c∧cj bs 0 iK=cj (bs.drop a) a s∧g=bs.length - a))
 case atStart=>exact Qh ⟨0,iK,none,.slice none 0 0,[],none,0,0,HR.out,by rw[List.drop_zero],rfl⟩
 case round=>
  obtain⟨a,s,mb,v,xs,q,n,c,D,N,rfl⟩:=hrel.out;obtain⟨t,hs⟩:=D.src;have hP:=rV wr K.g a t K.S hs;have B:=Po D mP.out;rw[V.out]at B;have x0:=D.c0;have Bz:=Qh D;have H:=Qh N;obtain⟨st,r⟩:∃st,eK (bs.drop a) s=st:=⟨_,rfl⟩
  rw[r]at B;have O:=Qh r;have l:=J.out.below D.bel J.out.lt;clear D N hs r hrel;go_wp2_with fail;refine hP.mono ?_;rintro e w3 ⟨rfl,rfl⟩;go_wp2_with fail;refine B.mono ?_;clear B hP l;intro e U o
  cases st with
  |fault er=>
   obtain⟨⟨b,rfl⟩,X⟩:=o;have cX:=xd O.out;have Yy:(er != 0)=true:=by simpa using cX
   have A:=J.out.below X J.out.lt;have r0:=A.cell 0;have r1:=A.cell 1;have f0:=A.frozen 0;have f1:=A.frozen 1;simp only[Qc,Qa,Qb]at r0 r1;have R:=Qh A;have mN:=Qh X
   have E:Hid (dv bs=([],er,a)):=Qh (by
    show cj bs 0 iK=_
    rw[H.out,fC O.out])
   clear X cX A x0;go_wp2;refine bodyPost_ret (zg rfl _ _ w.heap.size _ rfl rfl er (a:Int) ((R.out.set 0 (.int .i64 er) (by decide:0<2)).set 1 (.int .i64 (a:Int)) (by decide:1<2))) rfl ?_;refine⟨none,0,[],?_,by simp,by decide,?_,wh _ _,?_⟩
   ·rw[E.out];rfl
   ·rw[E.out];rfl
   ·exact((T.out.trans (mN.out.mono T.out.size)).setCell (p:=⟨w.heap.size,0,none⟩) (Qk _) _).setCell (p:=⟨w.heap.size,1,none⟩) (Qk _) _
  |done=>
   obtain⟨rfl,a',I⟩:=o;have A:=J.out.below I.bel J.out.lt;have r0:=A.cell 0;have r1:=A.cell 1;have f0:=A.frozen 0;have f1:=A.frozen 1;simp only[Qc,Qa,Qb]at r0 r1;have R:=Qh A;have x3:=I.c3;have G:=Qh I
   have E:Hid (dv bs=(s.out,0,0)):=Qh (by
    show cj bs 0 iK=_
    rw[H.out,iQ O.out])
   clear I A x0;go_wp2
   have nk:Below w.heap.size w ((U.setCell ⟨w.heap.size,0,none⟩ (.int .i64 0)).setCell ⟨w.heap.size,1,none⟩ (.int .i64 0)):=
    ((T.out.trans (G.out.bel.mono T.out.size)).setCell (p:=⟨w.heap.size,0,none⟩) (Qk _) _).setCell (p:=⟨w.heap.size,1,none⟩) (Qk _) _
   refine bodyPost_ret (zg rfl _ _ w.heap.size _ rfl rfl 0 0 ((R.out.set 0 (.int .i64 0) (by decide:0<2)).set 1 (.int .i64 0) (by decide:1<2))) rfl ?_
   have fS:Kept (ay w.heap.size) U ((U.setCell ⟨w.heap.size,0,none⟩ (.int .i64 0)).setCell ⟨w.heap.size,1,none⟩ (.int .i64 0)):=
    ((Kept.refl (ay w.heap.size) U).setCell (a:=⟨w.heap.size,0,none⟩) (.inr rfl) _).setCell (a:=⟨w.heap.size,1,none⟩) (.inr rfl) _
   have rh:=J.out.lt
   obtain⟨p5,c5,rfl,Y,Z,f⟩:=ja (bh G.out.row fS (fun k hk e=>by
    have h1:=(G.out.row.lt k hk).1;have h2:k=w.heap.size:=e
    omega)) (fun x hx=>(G.out.bodies x hx).kept fS (fun h0 y hy e=>BW (G.out.bodies x hx).gC R.out (fun i z hz=>by rcases i with _|_|i<;>simp at hz) h0 hy e))
   refine⟨p5,c5,xs,?_,Y,Z,?_,f,nk⟩
   ·rw[E.out];rfl
   ·rw[E.out];exact G.out.out
  |next k s'=>
   obtain⟨rfl,u,v',xs',q',n',c',I⟩:=o;have G:=Qh I;have sR:=lN O.out
   have E:Hid (cj bs 0 iK=cj (bs.drop (a+k)) (a+k) s'):=Qh (by
    rw[H.out,fU O.out,List.drop_drop])
   have Yl:=Qh sR;clear I sR x0;go_wp2
   go_roundg (bs.length - (a+k))
   case measure=>have:=Yl.out;rw[Qe]at this;omega
   case rel=>exact Qh ⟨a+k,s',u,v',xs',q',n',c',G.out,E.out,rfl⟩
end Mem
end Go.Proofs.YtdhibldkldlfpaaGreatDoor
