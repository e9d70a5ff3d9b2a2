/- Merged. -/
import Derived.Test.YtdhibldkldlfpaaGreatDoorEmitUnpacksX31
import Derived.Test.YtdhibldkldlfpaaGreatDoorEmitUnpacksX17
import Derived.Test.YtdhibldkldlfpaaGreatDoorEmitUnpacksX34
import Derived.Test.YtdhibldkldlfpaaGreatDoorEmitUnpacksX18
namespace Go.Proofs.YtdhibldkldlfpaaGreatDoor
set_option linter.unusedVariables false
set_option maxHeartbeats 4000000
set_option maxRecDepth 100000
open Go.ChangeShapes Go.WideShapes Go.ChangeAt Go.RowKit Base cb iK Bk Rec Go.Lib
variable {listed:Array Bool} {j c' n':Nat} {q':Option Addr} {w w' w1:World}
namespace Mem
open Mk Block Attr
variable {y:Addr} {b m:Nat} {p:Option Addr} {v':Value} {rs:bW}
structure RK where
 r:Nat
 g:Nat
 gs:Nat
 mw:Nat
 S:Sv
def iI (s:RS) (q:Option Addr) (n c:Nat):UInt8→Option Value:=fun k=>
 if k=120 then(if s.iT=true then some (.agg #[.string ⟨#[]⟩,.slice q n c])else none)
 else if k=76 then s.name.map (fun t=>.agg #[.string (str t),.slice none 0 0])
 else if k=75 then s.link.map (fun t=>.agg #[.string (str t),.slice none 0 0])
 else none
def O9 (K:RK) (v:Value):Array Value:=#[.pointer (some ⟨K.g,0,none⟩),.pointer (some ⟨K.gs,0,none⟩),.map (some K.mw),v]
def Ot (K:RK) (mb:Option Nat) (v:Value):Nat→Prop:=fun k=>k=K.r∨k=K.gs∨k=K.mw∨mb=some k∨v.ownBlock=some k
structure Rd (w0 w:World) (K:RK) (a:Nat) (s:RS) (mb:Option Nat) (v:Value) (xs:List MP) (q:Option Addr) (n c:Nat):Prop where
 bel:Below w0.heap.size w0 w
 pE:au w K.r 91 (O9 K v)
 src:∃t,Block.Src w K.g K.S a t
 off:K.S.off K.g
 st:St w K.gs mb (aD s.bE)
 map:jj WZ w K.mw (iI s q n c)
 own:bG w q n s.own
 yw:s.iT=false→s.own=[]
 row:w.ownsRow w0.heap.size 48 8 v xs.length (k8 xs)
 out:xs.map MP.m=s.out
 bodies:∀x∈xs,js w x
 apart:∀x∈xs,0<x.m.body.length→∀y,x.p=some y→¬Ot K mb v y.block∧y.block≠K.g
 sp:0<K.S.n→∀y,K.S.p=some y→¬Ot K mb v y.block
 sq:0<K.S.m→∀y,K.S.q=some y→¬Ot K mb v y.block
 ne:K.r≠K.g∧K.r≠K.gs∧K.r≠K.mw∧K.g≠K.gs∧K.g≠K.mw∧K.gs≠K.mw
 Eh:∀b,mb=some b→b≠K.r∧b≠K.g∧b≠K.gs∧b≠K.mw∧w0.heap.size≤b
 BD:∀b,v.ownBlock=some b→b≠K.r∧b≠K.g∧b≠K.gs∧b≠K.mw∧mb≠some b
 base:w0.heap.size≤K.r∧w0.heap.size≤K.g∧w0.heap.size≤K.gs∧w0.heap.size≤K.mw
 many:s.out.length≤4096
 gl:∀r∈s.bE,r.2.length≤1048576
 ol:(∀r∈s.own,r.2.length≤1048576)∧s.own.length≤1048576
 nl:∀t,s.name=some t→t.length≤1048576
 ll:∀t,s.link=some t→t.length≤1048576
section
variable {w0 w w':World} {K:RK} {a:Nat} {s:RS} {mb:Option Nat} {v:Value} {xs:List MP} {q:Option Addr} {n c:Nat}
theorem GR {zs:List Int} (h:N4 w p m zs) (h0:0<m) (hy:p=some y):y.block<w.heap.size:=by
 obtain⟨b,o,he,A,hc⟩:=h h0;rw[hy]at he
 cases he
 exact A
theorem Hq {t:TypeId} {cs:Array Value} (hb:au w b t cs) (hs:∀(i:Nat) (x:ByteArray),cs[i]? ≠some (.string x)) (hr:bG w p m rs) (h0:0<m) (hy:p=some y):y.block≠b:=by
 obtain⟨B,o,rfl,A,hc⟩:=hr.2 h0
 cases hy
 rintro rfl;have c0:=(hc 0 h0).1;rw[hb.cell]at c0;exact hs _ _ c0
theorem Hr {α:Type} {Ky:pZ α} {f:α→Option Value} (hm:jj Ky w b f) (hr:bG w p m rs) (h0:0<m) (hy:p=some y):y.block≠b:=by
 obtain⟨B,o,rfl,A,hc⟩:=hr.2 h0
 cases hy
 rintro rfl;obtain⟨es,clock,hm,_⟩:=hm;have c0:=(hc 0 h0).1;simp[World.cell?,hm]at c0
theorem Rd.JV (h:Rd w0 w K a s mb v xs q n c):0<n→∀y,q=some y→¬aA K.g y.block:=fun A y hy e=>by
 obtain⟨t,hs⟩:=h.src;refine Hq (show au w K.g 132 _ from hs.pE) ?_ h.own A hy e;intro i x B;rcases i with _|_|_|_|i<;>simp at B
theorem Rd.MX (h:Rd w0 w K a s mb v xs q n c):0<n→∀y,q=some y→¬Em K.gs mb y.block:=fun A y hy e=>yE h.st h.own A hy e
theorem Rd.CY (h:Rd w0 w K a s mb v xs q n c) (hN:Need w0):Need w:=hN.below h.bel
theorem Rd.idle (h:Rd w0 w K a s mb v xs q n c) (hk:Kept ag w w'):Rd w0 w' K a s mb v xs q n c where
 bel:=h.bel.trans (hk.below h.bel.size (fun k hk=>hk.elim))
 pE:=h.pE.iH hk id
 src:=by obtain⟨t,hs⟩:=h.src;exact⟨t,hs.jq hk⟩
 off:=h.off
 st:=h.st.kept hk (fun _ _=>id)
 map:=h.map.kept hk id
 own:=jQ h.own hk (fun _ _ _=>id)
 yw:=h.yw
 row:=cg h.row hk (fun _ _=>id)
 out:=h.out
 bodies:=fun x A=>(h.bodies x A).kept hk (fun _ _ _=>id)
 apart:=h.apart
 sp:=h.sp
 sq:=h.sq
 ne:=h.ne
 Eh:=h.Eh
 BD:=h.BD
 base:=h.base
 many:=h.many
 gl:=h.gl
 ol:=h.ol
 nl:=h.nl
 ll:=h.ll
theorem Rd.below (h:Rd w0 w K a s mb v xs q n c) (hb:Below w.heap.size w w'):Rd w0 w' K a s mb v xs q n c:=h.idle (Kept.bj hb ag)
theorem Rd.nZ (h:Rd w0 w K a s mb v xs q n c) {a':Nat} (hk:Kept (aA K.g) w w') (hs:∃t,Block.Src w' K.g K.S a' t):Rd w0 w' K a' s mb v xs q n c where
 bel:=h.bel.trans (hk.below h.bel.size (fun k hk=>by rw[show k=K.g from hk];exact h.base.2.1))
 pE:=h.pE.iH hk h.ne.1
 src:=hs
 off:=h.off
 st:=h.st.kept hk (fun k hk e=>by
  rcases hk with rfl|hk
  ·exact h.ne.2.2.2.1 (show K.gs=K.g from e).symm
  ·exact(h.Eh k hk).2.1 e)
 map:=h.map.kept hk (fun e=>h.ne.2.2.2.2.1 (show K.mw=K.g from e).symm)
 own:=jQ h.own hk h.JV
 yw:=h.yw
 row:=cg h.row hk (fun k hk e=>(h.BD k hk).2.1 e)
 out:=h.out
 bodies:=fun x A=>(h.bodies x A).kept hk (fun B y hy e=>(h.apart x A B y hy).2 e)
 apart:=h.apart
 sp:=h.sp
 sq:=h.sq
 ne:=h.ne
 Eh:=h.Eh
 BD:=h.BD
 base:=h.base
 many:=h.many
 gl:=h.gl
 ol:=h.ol
 nl:=h.nl
 ll:=h.ll
theorem Rd.waits (h:Rd w0 w K a s mb v xs q n c) {s':RS} (hk:Kept (aA K.mw) w w') (hm:jj WZ w' K.mw (iI s' q' n' c')) (ho:bG w q' n' s'.own)
 (h1:s'.out=s.out) (h2:s'.bE=s.bE) (h3:s'.iT=false→s'.own=[]) (h4:(∀r∈s'.own,r.2.length≤1048576)∧s'.own.length≤1048576)
 (h5:∀t,s'.name=some t→t.length≤1048576) (h6:∀t,s'.link=some t→t.length≤1048576):Rd w0 w' K a s' mb v xs q' n' c' where
 bel:=h.bel.trans (hk.below h.bel.size (fun k hk=>by rw[show k=K.mw from hk];exact h.base.2.2.2))
 pE:=h.pE.iH hk h.ne.2.2.1
 src:=by
  obtain⟨t,hs⟩:=h.src;exact⟨t,hs.kept hk h.ne.2.2.2.2.1 (fun A y hy e=>h.sp A y hy (.inr (.inr (.inl e)))) (fun A y hy e=>h.sq A y hy (.inr (.inr (.inl e))))⟩
 off:=h.off
 st:=by
  rw[h2];refine h.st.kept hk (fun k hk e=>?_);rcases hk with rfl|hk
  ·exact h.ne.2.2.2.2.2 e
  ·exact(h.Eh k hk).2.2.2.1 e
 map:=hm
 own:=jQ ho hk (fun A y hy e=>Hr h.map ho A hy e)
 yw:=h3
 row:=cg h.row hk (fun k hk e=>(h.BD k hk).2.2.2.1 e)
 out:=by rw[h1];exact h.out
 bodies:=fun x B=>(h.bodies x B).kept hk (fun A y hy e=>(h.apart x B A y hy).1 (.inr (.inr (.inl e))))
 apart:=h.apart
 sp:=h.sp
 sq:=h.sq
 ne:=h.ne
 Eh:=h.Eh
 BD:=h.BD
 base:=h.base
 many:=by rw[h1];exact h.many
 gl:=by rw[h2];exact h.gl
 ol:=h4
 nl:=h5
 ll:=h6
theorem Rd.al5 (h:Rd w0 w K a s mb v xs q n c) {B:Nat} (jY:St w' K.gs (some B) (oO (aD s.bE) rs)) (hk:Kept (Em K.gs mb) w w') (hB:mb=some B∨w.heap.size≤B) (hl:∀r∈rs,r.2.length≤1048576):
 Rd w0 w' K a {s with bE:=s.bE++rs} (some B) v xs q n c:=by
 have U:=h.bel.size
 have I:∀k,k<w.heap.size→¬Ot K mb v k→¬Ot K (some B) v k:=fun k O E e=>by
  rcases e with e|e|e|e|e
  ·exact E (.inl e)
  ·exact E (.inr (.inl e))
  ·exact E (.inr (.inr (.inl e)))
  ·rcases hB with hB|hB
   ·exact E (.inr (.inr (.inr (.inl (hB.trans e)))))
   ·cases e;omega
  ·exact E (.inr (.inr (.inr (.inr e))))
 have H:∀k,Em K.gs mb k→Ot K mb v k:=fun k hk=>by
  rcases hk with rfl|hk
  ·exact .inr (.inl rfl)
  ·exact .inr (.inr (.inr (.inl hk)))
 obtain⟨t,hs⟩:=h.src
 have W:∀k,Em K.gs mb k→w0.heap.size≤k:=fun k hk=>by
  rcases hk with rfl|hk
  ·exact h.base.2.2.1
  ·exact(h.Eh k hk).2.2.2.2
 have hr:¬Em K.gs mb K.r:=fun e=>by
  rcases e with e|e
  ·exact h.ne.2.1 e
  ·exact(h.Eh _ e).1 rfl
 have T:¬Em K.gs mb K.g:=fun e=>by
  rcases e with e|e
  ·exact h.ne.2.2.2.1 e
  ·exact(h.Eh _ e).2.1 rfl
 have J:¬Em K.gs mb K.mw:=fun e=>by
  rcases e with e|e
  ·exact h.ne.2.2.2.2.2 e.symm
  ·exact(h.Eh _ e).2.2.2.1 rfl
 have V:∀k,v.ownBlock=some k→¬Em K.gs mb k:=fun k hk e=>by
  rcases e with e|e
  ·exact(h.BD k hk).2.2.1 e
  ·exact(h.BD k hk).2.2.2.2 e
 exact {
  bel:=h.bel.trans (hk.below h.bel.size W)
  pE:=h.pE.iH hk hr
  src:=⟨t,hs.kept hk T (fun A y hy e=>h.sp A y hy (H _ e)) (fun A y hy e=>h.sq A y hy (H _ e))⟩
  off:=h.off
  st:=by rw[←Mt];exact jY
  map:=h.map.kept hk J
  own:=jQ h.own hk h.MX
  yw:=h.yw
  row:=cg h.row hk V
  out:=h.out
  bodies:=fun x D=>(h.bodies x D).kept hk (fun A y hy e=>(h.apart x D A y hy).1 (H _ e))
  apart:=fun x D A y hy=>⟨I _ (qP (h.bodies x D).nB A hy) (h.apart x D A y hy).1,(h.apart x D A y hy).2⟩
  sp:=fun A y hy=>I _ (qP hs.nB A hy) (h.sp A y hy)
  sq:=fun A y hy=>I _ (GR hs.Ym A hy) (h.sq A y hy)
  ne:=h.ne
  Eh:=fun b G=>by
   cases G
   rcases hB with hB|hB
   ·exact h.Eh B hB
   ·have h1:=h.pE.lt
    have L:=hs.lt;have M:=h.st.lt;have N:=h.map.lt;exact⟨by omega,by omega,by omega,by omega,by omega⟩
  BD:=fun b G=>by
   obtain⟨h1,L,M,N,R⟩:=h.BD b G;have O:=(h.row.lt b G).2;refine⟨h1,L,M,N,fun e=>?_⟩;rcases hB with hB|hB
   ·exact R (hB.trans e)
   ·cases e;omega
  base:=h.base
  many:=h.many
  gl:=fun r hr=>by
   rcases List.mem_append.1 hr with hr|hr
   ·exact h.gl r hr
   ·exact hl r hr
  ol:=h.ol
  nl:=h.nl
  ll:=h.ll}
theorem Rd.Rq (h:Rd w0 w K a s mb v xs q n c) (hg:w.grownBy w' v.ownBlock):jj WZ (w'.setCell ⟨K.r,3,none⟩ v') K.mw (iI s q n c):=
 (h.map.kept ((Kept.refl _ w).grown hg (fun k hk=>.inr hk):Kept (fun k=>v.ownBlock=some k) w w') (fun e=>(h.BD _ e).2.2.2.1 rfl)).kept ((Kept.refl (aA K.r) w').setCell (a:=⟨K.r,3,none⟩) (.inr rfl) v') h.ne.2.2.1.symm
theorem Rd.added (h:Rd w0 w K a s mb v xs q n c) {y:MP} (bM:w'.ownsRow w0.heap.size 48 8 v' (xs++[y]).length (k8 (xs++[y]))) (hg:w.grownBy w' v.ownBlock) (vY:jX w v v')
 (hy:js w y) (hya:0<y.m.body.length→∀z,y.p=some z→¬Ot K mb v z.block∧z.block≠K.g) (hm:s.out.length<4096) {w2:World}
 (D8:jj WZ w2 K.mw (fun _=>none)) (jC:Kept (aA K.mw) (w'.setCell ⟨K.r,3,none⟩ v') w2):
 Rd w0 w2 K a {s with out:=s.out++[y.m],own:=[],name:=none,link:=none,iT:=false} mb v' (xs++[y]) none 0 0:=by
 have R:Kept (fun k=>v.ownBlock=some k) w w':=(Kept.refl _ w).grown hg (fun k hk=>.inr hk);have T:Kept (aA K.r) w' (w'.setCell ⟨K.r,3,none⟩ v'):=(Kept.refl (aA K.r) w').setCell (a:=⟨K.r,3,none⟩) (.inr rfl) v';have H:Kept (fun k=>k=K.r∨k=K.mw) w' w2:=(T.mono (fun k hk=>.inl hk)).trans (jC.mono (fun k hk=>.inr hk));have hk:Kept (fun k=>v.ownBlock=some k∨k=K.r∨k=K.mw) w w2:=(R.mono (fun k hk=>.inl hk)).trans (H.mono (fun k hk=>.inr hk));have I:∀k,v'.ownBlock=some k→(v.ownBlock=some k∨w.heap.size≤k):=vY
 have J:∀k,(v.ownBlock=some k∨k=K.r∨k=K.mw)→Ot K mb v k:=fun k hk=>by
  rcases hk with hk|rfl|rfl
  ·exact .inr (.inr (.inr (.inr hk)))
  ·exact .inl rfl
  ·exact .inr (.inr (.inl rfl))
 have L:∀k,k<w.heap.size→¬Ot K mb v k→¬Ot K mb v' k:=fun k U E e=>by
  rcases e with e|e|e|e|e
  ·exact E (.inl e)
  ·exact E (.inr (.inl e))
  ·exact E (.inr (.inr (.inl e)))
  ·exact E (.inr (.inr (.inr (.inl e))))
  ·rcases I k e with e'|e'
   ·exact E (.inr (.inr (.inr (.inr e'))))
   ·omega
 obtain⟨t,hs⟩:=h.src;have h1:=h.pE.lt;have V:=hs.lt;have W:=h.st.lt;have X:=h.map.lt
 have G:∀b,v'.ownBlock=some b→b≠K.r∧b≠K.g∧b≠K.gs∧b≠K.mw∧mb≠some b:=fun b D=>by
  rcases I b D with e|e
  ·exact h.BD b e
  ·exact⟨by omega,by omega,by omega,by omega,fun hm=>by have:=h.st.j1 hm;omega⟩
 have O:∀k,k≠K.r→k≠K.mw→(∀b,v.ownBlock=some b→k≠b)→¬(v.ownBlock=some k∨k=K.r∨k=K.mw):=fun k M hw E e=>by
  rcases e with e|e|e
  ·exact E k e rfl
  ·exact M e
  ·exact hw e
 exact {
  bel:=h.bel.trans (hk.below h.bel.size (fun k hk=>by
   rcases hk with hk|rfl|rfl
   ·exact(h.row.lt k hk).1
   ·exact h.base.1
   ·exact h.base.2.2.2))
  pE:=((h.pE.iH R (fun e=>(h.BD _ e).1 rfl)).set 3 v' (by decide:3<4)).iH jC h.ne.2.2.1
  src:=⟨t,hs.kept hk (O _ h.ne.1.symm h.ne.2.2.2.2.1 (fun b D e=>(h.BD b D).2.1 e.symm)) (fun A y hy e=>h.sp A y hy (J _ e)) (fun A y hy e=>h.sq A y hy (J _ e))⟩
  off:=h.off
  st:=h.st.kept hk (fun k hk=>by
   rcases hk with rfl|hk
   ·exact O _ h.ne.2.1.symm h.ne.2.2.2.2.2 (fun b D e=>(h.BD b D).2.2.1 e.symm)
   ·exact O _ (h.Eh k hk).1 (h.Eh k hk).2.2.2.1 (fun b D e=>(h.BD b D).2.2.2.2 (by rw[←e];exact hk)))
  map:=by
   have:iI {s with out:=s.out++[y.m],own:=[],name:=none,link:=none,iT:=false} none 0 0=fun _=>none:=by
    funext k
    unfold iI;simp
   rw[this];exact D8
  own:=⟨rfl,fun h=>by omega⟩
  yw:=fun _=>rfl
  row:=cg bM H (fun k hk e=>by
   rcases e with e|e
   ·exact(G k hk).1 e
   ·exact(G k hk).2.2.2.1 e)
  out:=by rw[List.map_append,h.out];rfl
  bodies:=fun x hx=>by
   rcases List.mem_append.1 hx with hx|hx
   ·exact(h.bodies x hx).kept hk (fun A y hy e=>(h.apart x hx A y hy).1 (J _ e))
   ·rw[List.mem_singleton]at hx
    subst hx;exact hy.kept hk (fun A z B e=>(hya A z B).1 (J _ e))
  apart:=fun x hx A z B=>by
   rcases List.mem_append.1 hx with hx|hx
   ·exact⟨L _ (qP (h.bodies x hx).nB A B) (h.apart x hx A z B).1,(h.apart x hx A z B).2⟩
   ·rw[List.mem_singleton]at hx
    subst hx;exact⟨L _ (qP hy.nB A B) (hya A z B).1,(hya A z B).2⟩
  sp:=fun A y hy=>L _ (qP hs.nB A hy) (h.sp A y hy)
  sq:=fun A y hy=>L _ (GR hs.Ym A hy) (h.sq A y hy)
  ne:=h.ne
  Eh:=h.Eh
  BD:=G
  base:=h.base
  many:=by show(s.out++[y.m]).length≤4096;rw[Qf,List.length_singleton];omega
  gl:=h.gl
  ol:=⟨fun r M=>by simp at M,by simp⟩
  nl:=fun t N=>by cases N
  ll:=fun t N=>by cases N}
end
end Mem
namespace Attr
open Go.Shelf Hp Head
variable {g:Nat} {wi wj:World} {h:af}
theorem og {fn:Func} (hf:fn.results=#[.cell 6 66,.tmp 7]) (tmps:Array Value) (w:World) (g:Nat) (v:Value) (ht:tmps.getD 6 undef=.pointer (some ⟨g,0,none⟩)) (hv:tmps.getD 7 undef=v)
 (h:af) (hb:au w g 66 (aa h)):(results fn tmps).run Tryz.prog w=.ok (.tuple #[.agg (aa h),v]) w:=by
 rw[results_cell_tmp hf,ht,hv];have hl:=vL w g _ _ _ _ _ _ _ _ _ hb;simp only[asAddr,Sem.run_pure,hl,Result.andThen];rfl
theorem uy (hb:au w g 66 (aa h)) (a0 a1 a2 a3 a4 a5 a6 a7 a8:Value):
 au (((((((((w.setCell ⟨g,0,none⟩ a0).setCell ⟨g,1,none⟩ a1).setCell ⟨g,2,none⟩ a2).setCell ⟨g,3,none⟩ a3).setCell ⟨g,4,none⟩ a4).setCell ⟨g,5,none⟩ a5).setCell ⟨g,6,none⟩ a6).setCell ⟨g,7,none⟩ a7).setCell ⟨g,8,none⟩ a8) g 66 #[a0,a1,a2,a3,a4,a5,a6,a7,a8]:=
 ((((((((hb.set 0 a0 (by show 0<9;decide)).set 1 a1 (by show 1<9;decide)).set 2 a2 (by show 2<9;decide)).set 3 a3 (by show 3<9;decide)).set 4 a4 (by show 4<9;decide)).set 5 a5 (by show 5<9;decide)).set 6 a6 (by show 6<9;decide)).set 7 a7 (by show 7<9;decide)).set 8 a8 (by show 8<9;decide)
theorem o5 (hk:Below w.heap.size w w') (hg:w.heap.size≤g) (a0 a1 a2 a3 a4 a5 a6 a7 a8:Value):
 Below w.heap.size w (((((((((w'.setCell ⟨g,0,none⟩ a0).setCell ⟨g,1,none⟩ a1).setCell ⟨g,2,none⟩ a2).setCell ⟨g,3,none⟩ a3).setCell ⟨g,4,none⟩ a4).setCell ⟨g,5,none⟩ a5).setCell ⟨g,6,none⟩ a6).setCell ⟨g,7,none⟩ a7).setCell ⟨g,8,none⟩ a8):=
 (((((((((hk.setCell (p:=⟨g,0,none⟩) hg a0).setCell (p:=⟨g,1,none⟩) hg a1).setCell (p:=⟨g,2,none⟩) hg a2).setCell (p:=⟨g,3,none⟩) hg a3).setCell (p:=⟨g,4,none⟩) hg a4).setCell (p:=⟨g,5,none⟩) hg a5).setCell (p:=⟨g,6,none⟩) hg a6).setCell (p:=⟨g,7,none⟩) hg a7).setCell (p:=⟨g,8,none⟩) hg a8)
def xy (w wi:World) (h:af):Prop:=Below w.heap.size w wi∧au wi w.heap.size 66 (aa h)∧au wi (w.heap.size+1) 66 (aa bg)
theorem xy.below (hm:xy w wi h) (hb:Below wi.heap.size wi wj):xy w wj h:=
 ⟨hm.1.trans (hb.mono hm.1.size),hm.2.1.below hb hm.2.1.lt,hm.2.2.below hb hm.2.2.lt⟩
theorem xy.put {h':af} (hm:xy w wi h) (hk:Kept (aA w.heap.size) wi wj) (hb:au wj w.heap.size 66 (aa h')):xy w wj h':=
 ⟨hm.1.trans (hk.below hm.1.size (fun k hk=>by have:k=w.heap.size:=hk;omega)),hb,hm.2.2.iH hk (fun e=>by have:w.heap.size+1=w.heap.size:=e;omega)⟩
theorem P7 (s:Option Addr) (F:BN) (h:af) (p:Option Addr) (n c:Nat) (rs:bW) (w:World) (hs:Zr w s F) (hn:n≤4611686018427387904) (hr:bG w p n rs)
 (hl:∀i,i<6→(jw F rs (aJ i)).length≤140737488351232):
 Calls Tryz.prog 112 #[.pointer s,.agg (aa h),.slice p n c] w fun e w'=>e=.returned (oF (cC F rs h))∧Below w.heap.size w w':=by
 obtain⟨V,hV⟩:∃V:Nat→List UInt8,V=fun i=>jw F rs (aJ i):=⟨_,rfl⟩
 have D:Hid (∀(i:Nat) (wi:World),Below w.heap.size w wi→Calls Tryz.prog 144 #[.pointer s,.string (str (aJ i)),.slice p n c] wi fun e w'=>e=.returned (.string (str (V i)))∧Below wi.heap.size wi w'):=
  Qh (fun i wi A=>by rw[hV];exact SA s F (aJ i) p n c rs wi (hs.below A) hn (hr.below A))
 have T:Hid (∀i,i<6→(V i).length≤140737488351232):=Qh (by rw[hV];exact hl);rw[show cC F rs h=jt V h by rw[hV];rfl];clear hl hs hr hn hV;obtain⟨U,hU⟩:∃U:af × Int,jt V h=U:=⟨_,rfl⟩
 rw[hU];have HU:=Qh hU;clear hU;simp only[aa];obtain⟨o0,b⟩:∃o,jf false (V 0) h.uid=o:=⟨_,rfl⟩
 cases o0 with
 |none=>
  have Y:=Qh b;clear b
  go_enter Tryz.func112,Tryz.ntmps112
  go_wp2_with fail
  have I:Hid (xy w ((w.alloc (.cells (aa h) 66)).alloc (.cells (aa bg) 66)) h):=by
   have b1:=au.new (w.alloc (.cells (aa h) 66)) 66 (aa bg);rw[World.size_alloc]at b1;exact Qh ⟨((Below.refl _ w).alloc (Qk _) _).alloc (by simp) _,(au.new w 66 (aa h)).alloc _,b1⟩
  refine(D.out 4 _ I.out.1).mono ?_;rintro e w1 ⟨rfl,A⟩;have L:=Qh (I.out.below A);clear A I;go_wp2_with fail;refine(iF (V 4) _ 0 _ (aa h) h.name w1 L.out.2.1 (by show 0<9;decide) rfl).mono ?_;rintro e w2 ⟨rfl,A,hk⟩;have G:=Qh (L.out.put (h':={h with name:=aE (V 4) h.name}) hk A);clear A hk L;go_wp2_with fail;refine(D.out 5 _ G.out.1).mono ?_;rintro e w3 ⟨rfl,A⟩;have H:=Qh (G.out.below A);clear A G;go_wp2_with fail;refine(iF (V 5) _ 1 _ _ h.link w3 H.out.2.1 (by show 1<9;decide) rfl).mono ?_;rintro e w4 ⟨rfl,A,hk⟩;have M:=Qh (H.out.put (h':={h with name:=aE (V 4) h.name,link:=aE (V 5) h.link}) hk A);clear A hk H;go_wp2_with fail;refine(D.out 0 _ M.out.1).mono ?_;rintro e w5 ⟨rfl,A⟩;have J:=Qh (M.out.below A);clear A M;go_wp2_with fail;refine(aX false (V 0) (T.out 0 (by omega)) _ 4 _ _ h.uid w5 J.out.2.1 (by show 4<9;decide) rfl).mono ?_;rw[Y.out];rintro e w6 ⟨rfl,A,hk⟩;have N:=Qh (J.out.put (h':={h with name:=aE (V 4) h.name,link:=aE (V 5) h.link,uid:=0}) hk A);clear A hk J;have B:=N.out.2.2;have f:=B.cell 0;have l:=B.cell 1;have m:=B.cell 2;have q:=B.cell 3;have r:=B.cell 4;have y:=B.cell 5;have r6:=B.cell 6;have r7:=B.cell 7;have r8:=B.cell 8;have f0:=B.frozen 0;have f1:=B.frozen 1;have f2:=B.frozen 2;have f3:=B.frozen 3;have f4:=B.frozen 4;have f5:=B.frozen 5;have f6:=B.frozen 6;have f7:=B.frozen 7;have f8:=B.frozen 8;simp only[aa,bg,Qc,Qa,Qb]at f l m q r y r6 r7 r8;clear B;have E:Hid (U=(bg,4)):=Qh (by rw[←HU.out];unfold jt;simp only[Y.out]);go_wp2;refine bodyPost_ret (og rfl _ _ (w.heap.size+1) _ rfl rfl bg (uy N.out.2.2 _ _ _ _ _ _ _ _ _)) rfl ?_;exact⟨by rw[E.out];rfl,o5 N.out.1 (by omega) _ _ _ _ _ _ _ _ _⟩
 |some u=>
  have Y:=Qh b;clear b;obtain⟨o1,GJ⟩:∃o,jf false (V 1) h.gid=o:=⟨_,rfl⟩
  cases o1 with
  |none=>
   have Z:=Qh GJ;clear GJ
   go_enter Tryz.func112,Tryz.ntmps112
   go_wp2_with fail
   have I:Hid (xy w ((w.alloc (.cells (aa h) 66)).alloc (.cells (aa bg) 66)) h):=by
    have b1:=au.new (w.alloc (.cells (aa h) 66)) 66 (aa bg);rw[World.size_alloc]at b1;exact Qh ⟨((Below.refl _ w).alloc (Qk _) _).alloc (by simp) _,(au.new w 66 (aa h)).alloc _,b1⟩
   refine(D.out 4 _ I.out.1).mono ?_;rintro e w1 ⟨rfl,A⟩;have L:=Qh (I.out.below A);clear A I;go_wp2_with fail;refine(iF (V 4) _ 0 _ (aa h) h.name w1 L.out.2.1 (by show 0<9;decide) rfl).mono ?_;rintro e w2 ⟨rfl,A,hk⟩;have G:=Qh (L.out.put (h':={h with name:=aE (V 4) h.name}) hk A);clear A hk L;go_wp2_with fail;refine(D.out 5 _ G.out.1).mono ?_;rintro e w3 ⟨rfl,A⟩;have H:=Qh (G.out.below A);clear A G;go_wp2_with fail;refine(iF (V 5) _ 1 _ _ h.link w3 H.out.2.1 (by show 1<9;decide) rfl).mono ?_;rintro e w4 ⟨rfl,A,hk⟩;have M:=Qh (H.out.put (h':={h with name:=aE (V 4) h.name,link:=aE (V 5) h.link}) hk A);clear A hk H;go_wp2_with fail;refine(D.out 0 _ M.out.1).mono ?_;rintro e w5 ⟨rfl,A⟩;have J:=Qh (M.out.below A);clear A M;go_wp2_with fail;refine(aX false (V 0) (T.out 0 (by omega)) _ 4 _ _ h.uid w5 J.out.2.1 (by show 4<9;decide) rfl).mono ?_;rw[Y.out];rintro e w6 ⟨rfl,A,hk⟩;have N:=Qh (J.out.put (h':={h with name:=aE (V 4) h.name,link:=aE (V 5) h.link,uid:=u}) hk A);clear A hk J;go_wp2_with fail;refine(D.out 1 _ N.out.1).mono ?_;rintro e w7 ⟨rfl,A⟩;have O:=Qh (N.out.below A);clear A N;go_wp2_with fail;refine(aX false (V 1) (T.out 1 (by omega)) _ 5 _ _ h.gid w7 O.out.2.1 (by show 5<9;decide) rfl).mono ?_;rw[Z.out];rintro e w8 ⟨rfl,A,hk⟩;have R:=Qh (O.out.put (h':={h with name:=aE (V 4) h.name,link:=aE (V 5) h.link,uid:=u,gid:=0}) hk A);clear A hk O;have B:=R.out.2.2;have f:=B.cell 0;have l:=B.cell 1;have m:=B.cell 2;have q:=B.cell 3;have r:=B.cell 4;have y:=B.cell 5;have r6:=B.cell 6;have r7:=B.cell 7;have r8:=B.cell 8;have f0:=B.frozen 0;have f1:=B.frozen 1;have f2:=B.frozen 2;have f3:=B.frozen 3;have f4:=B.frozen 4;have f5:=B.frozen 5;have f6:=B.frozen 6;have f7:=B.frozen 7;have f8:=B.frozen 8;simp only[aa,bg,Qc,Qa,Qb]at f l m q r y r6 r7 r8;clear B;have E:Hid (U=(bg,4)):=Qh (by rw[←HU.out];unfold jt;simp only[Y.out,Z.out]);go_wp2;refine bodyPost_ret (og rfl _ _ (w.heap.size+1) _ rfl rfl bg (uy R.out.2.2 _ _ _ _ _ _ _ _ _)) rfl ?_;exact⟨by rw[E.out];rfl,o5 R.out.1 (by omega) _ _ _ _ _ _ _ _ _⟩
  |some g=>
   have Z:=Qh GJ;clear GJ;obtain⟨o2,Cu⟩:∃o,jf true (V 2) h.time=o:=⟨_,rfl⟩
   cases o2 with
   |none=>
    have N2:=Qh Cu;clear Cu
    go_enter Tryz.func112,Tryz.ntmps112
    go_wp2_with fail
    have I:Hid (xy w ((w.alloc (.cells (aa h) 66)).alloc (.cells (aa bg) 66)) h):=by
     have b1:=au.new (w.alloc (.cells (aa h) 66)) 66 (aa bg);rw[World.size_alloc]at b1;exact Qh ⟨((Below.refl _ w).alloc (Qk _) _).alloc (by simp) _,(au.new w 66 (aa h)).alloc _,b1⟩
    refine(D.out 4 _ I.out.1).mono ?_;rintro e w1 ⟨rfl,A⟩;have L:=Qh (I.out.below A);clear A I;go_wp2_with fail;refine(iF (V 4) _ 0 _ (aa h) h.name w1 L.out.2.1 (by show 0<9;decide) rfl).mono ?_;rintro e w2 ⟨rfl,A,hk⟩;have G:=Qh (L.out.put (h':={h with name:=aE (V 4) h.name}) hk A);clear A hk L;go_wp2_with fail;refine(D.out 5 _ G.out.1).mono ?_;rintro e w3 ⟨rfl,A⟩;have H:=Qh (G.out.below A);clear A G;go_wp2_with fail;refine(iF (V 5) _ 1 _ _ h.link w3 H.out.2.1 (by show 1<9;decide) rfl).mono ?_;rintro e w4 ⟨rfl,A,hk⟩;have M:=Qh (H.out.put (h':={h with name:=aE (V 4) h.name,link:=aE (V 5) h.link}) hk A);clear A hk H;go_wp2_with fail;refine(D.out 0 _ M.out.1).mono ?_;rintro e w5 ⟨rfl,A⟩;have J:=Qh (M.out.below A);clear A M;go_wp2_with fail;refine(aX false (V 0) (T.out 0 (by omega)) _ 4 _ _ h.uid w5 J.out.2.1 (by show 4<9;decide) rfl).mono ?_;rw[Y.out];rintro e w6 ⟨rfl,A,hk⟩;have N:=Qh (J.out.put (h':={h with name:=aE (V 4) h.name,link:=aE (V 5) h.link,uid:=u}) hk A);clear A hk J;go_wp2_with fail;refine(D.out 1 _ N.out.1).mono ?_;rintro e w7 ⟨rfl,A⟩;have O:=Qh (N.out.below A);clear A N;go_wp2_with fail;refine(aX false (V 1) (T.out 1 (by omega)) _ 5 _ _ h.gid w7 O.out.2.1 (by show 5<9;decide) rfl).mono ?_;rw[Z.out];rintro e w8 ⟨rfl,A,hk⟩;have R:=Qh (O.out.put (h':={h with name:=aE (V 4) h.name,link:=aE (V 5) h.link,uid:=u,gid:=g}) hk A);clear A hk O;go_wp2_with fail;refine(D.out 2 _ R.out.1).mono ?_;rintro e w9 ⟨rfl,A⟩;have X:=Qh (R.out.below A);clear A R;go_wp2_with fail
    refine(aX true (V 2) (T.out 2 (by omega)) _ 6 _ _ h.time w9 X.out.2.1 (by show 6<9;decide) rfl).mono ?_;rw[N2.out];rintro e w10 ⟨rfl,A,hk⟩;have W:=Qh (X.out.put (h':={h with name:=aE (V 4) h.name,link:=aE (V 5) h.link,uid:=u,gid:=g,time:=0}) hk A);clear A hk X;have B:=W.out.2.2;have f:=B.cell 0;have l:=B.cell 1;have m:=B.cell 2;have q:=B.cell 3;have r:=B.cell 4;have y:=B.cell 5;have r6:=B.cell 6;have r7:=B.cell 7;have r8:=B.cell 8;have f0:=B.frozen 0;have f1:=B.frozen 1;have f2:=B.frozen 2;have f3:=B.frozen 3;have f4:=B.frozen 4;have f5:=B.frozen 5;have f6:=B.frozen 6;have f7:=B.frozen 7;have f8:=B.frozen 8;simp only[aa,bg,Qc,Qa,Qb]at f l m q r y r6 r7 r8;clear B;have E:Hid (U=(bg,4)):=Qh (by rw[←HU.out];unfold jt;simp only[Y.out,Z.out,N2.out]);go_wp2;refine bodyPost_ret (og rfl _ _ (w.heap.size+1) _ rfl rfl bg (uy W.out.2.2 _ _ _ _ _ _ _ _ _)) rfl ?_;exact⟨by rw[E.out];rfl,o5 W.out.1 (by omega) _ _ _ _ _ _ _ _ _⟩
   |some t=>
    have N2:=Qh Cu;clear Cu;obtain⟨o3,d⟩:∃o,jf false (V 3) h.size=o:=⟨_,rfl⟩
    cases o3 with
    |none=>
     have N3:=Qh d;clear d
     go_enter Tryz.func112,Tryz.ntmps112
     go_wp2_with fail
     have I:Hid (xy w ((w.alloc (.cells (aa h) 66)).alloc (.cells (aa bg) 66)) h):=by
      have b1:=au.new (w.alloc (.cells (aa h) 66)) 66 (aa bg);rw[World.size_alloc]at b1;exact Qh ⟨((Below.refl _ w).alloc (Qk _) _).alloc (by simp) _,(au.new w 66 (aa h)).alloc _,b1⟩
     refine(D.out 4 _ I.out.1).mono ?_;rintro e w1 ⟨rfl,A⟩;have L:=Qh (I.out.below A);clear A I;go_wp2_with fail;refine(iF (V 4) _ 0 _ (aa h) h.name w1 L.out.2.1 (by show 0<9;decide) rfl).mono ?_;rintro e w2 ⟨rfl,A,hk⟩;have G:=Qh (L.out.put (h':={h with name:=aE (V 4) h.name}) hk A);clear A hk L;go_wp2_with fail;refine(D.out 5 _ G.out.1).mono ?_;rintro e w3 ⟨rfl,A⟩;have H:=Qh (G.out.below A);clear A G;go_wp2_with fail;refine(iF (V 5) _ 1 _ _ h.link w3 H.out.2.1 (by show 1<9;decide) rfl).mono ?_;rintro e w4 ⟨rfl,A,hk⟩;have M:=Qh (H.out.put (h':={h with name:=aE (V 4) h.name,link:=aE (V 5) h.link}) hk A);clear A hk H;go_wp2_with fail;refine(D.out 0 _ M.out.1).mono ?_;rintro e w5 ⟨rfl,A⟩;have J:=Qh (M.out.below A);clear A M;go_wp2_with fail;refine(aX false (V 0) (T.out 0 (by omega)) _ 4 _ _ h.uid w5 J.out.2.1 (by show 4<9;decide) rfl).mono ?_;rw[Y.out];rintro e w6 ⟨rfl,A,hk⟩;have N:=Qh (J.out.put (h':={h with name:=aE (V 4) h.name,link:=aE (V 5) h.link,uid:=u}) hk A);clear A hk J;go_wp2_with fail;refine(D.out 1 _ N.out.1).mono ?_;rintro e w7 ⟨rfl,A⟩;have O:=Qh (N.out.below A);clear A N;go_wp2_with fail;refine(aX false (V 1) (T.out 1 (by omega)) _ 5 _ _ h.gid w7 O.out.2.1 (by show 5<9;decide) rfl).mono ?_;rw[Z.out];rintro e w8 ⟨rfl,A,hk⟩;have R:=Qh (O.out.put (h':={h with name:=aE (V 4) h.name,link:=aE (V 5) h.link,uid:=u,gid:=g}) hk A);clear A hk O;go_wp2_with fail;refine(D.out 2 _ R.out.1).mono ?_;rintro e w9 ⟨rfl,A⟩;have X:=Qh (R.out.below A);clear A R;go_wp2_with fail
     refine(aX true (V 2) (T.out 2 (by omega)) _ 6 _ _ h.time w9 X.out.2.1 (by show 6<9;decide) rfl).mono ?_;rw[N2.out];rintro e w10 ⟨rfl,A,hk⟩;have W:=Qh (X.out.put (h':={h with name:=aE (V 4) h.name,link:=aE (V 5) h.link,uid:=u,gid:=g,time:=t}) hk A);clear A hk X;go_wp2_with fail;refine(D.out 3 _ W.out.1).mono ?_;rintro e w11 ⟨rfl,A⟩;have KS:=Qh (W.out.below A);clear A W;go_wp2_with fail;refine(aX false (V 3) (T.out 3 (by omega)) _ 7 _ _ h.size w11 KS.out.2.1 (by show 7<9;decide) rfl).mono ?_;rw[N3.out];rintro e w12 ⟨rfl,A,hk⟩;have Is:=Qh (KS.out.put (h':={h with name:=aE (V 4) h.name,link:=aE (V 5) h.link,uid:=u,gid:=g,time:=t,size:=0}) hk A);clear A hk KS;have B:=Is.out.2.2;have f:=B.cell 0;have l:=B.cell 1;have m:=B.cell 2;have q:=B.cell 3;have r:=B.cell 4;have y:=B.cell 5;have r6:=B.cell 6;have r7:=B.cell 7;have r8:=B.cell 8;have f0:=B.frozen 0;have f1:=B.frozen 1;have f2:=B.frozen 2;have f3:=B.frozen 3;have f4:=B.frozen 4;have f5:=B.frozen 5;have f6:=B.frozen 6;have f7:=B.frozen 7;have f8:=B.frozen 8;simp only[aa,bg,Qc,Qa,Qb]at f l m q r y r6 r7 r8;clear B;have E:Hid (U=(bg,4)):=Qh (by rw[←HU.out];unfold jt;simp only[Y.out,Z.out,N2.out,N3.out]);go_wp2;refine bodyPost_ret (og rfl _ _ (w.heap.size+1) _ rfl rfl bg (uy Is.out.2.2 _ _ _ _ _ _ _ _ _)) rfl ?_;exact⟨by rw[E.out];rfl,o5 Is.out.1 (by omega) _ _ _ _ _ _ _ _ _⟩
    |some z=>
     have N3:=Qh d;clear d
     go_enter Tryz.func112,Tryz.ntmps112
     go_wp2_with fail
     have I:Hid (xy w ((w.alloc (.cells (aa h) 66)).alloc (.cells (aa bg) 66)) h):=by
      have b1:=au.new (w.alloc (.cells (aa h) 66)) 66 (aa bg);rw[World.size_alloc]at b1;exact Qh ⟨((Below.refl _ w).alloc (Qk _) _).alloc (by simp) _,(au.new w 66 (aa h)).alloc _,b1⟩
     refine(D.out 4 _ I.out.1).mono ?_;rintro e w1 ⟨rfl,A⟩;have L:=Qh (I.out.below A);clear A I;go_wp2_with fail;refine(iF (V 4) _ 0 _ (aa h) h.name w1 L.out.2.1 (by show 0<9;decide) rfl).mono ?_;rintro e w2 ⟨rfl,A,hk⟩;have G:=Qh (L.out.put (h':={h with name:=aE (V 4) h.name}) hk A);clear A hk L;go_wp2_with fail;refine(D.out 5 _ G.out.1).mono ?_;rintro e w3 ⟨rfl,A⟩;have H:=Qh (G.out.below A);clear A G;go_wp2_with fail;refine(iF (V 5) _ 1 _ _ h.link w3 H.out.2.1 (by show 1<9;decide) rfl).mono ?_;rintro e w4 ⟨rfl,A,hk⟩;have M:=Qh (H.out.put (h':={h with name:=aE (V 4) h.name,link:=aE (V 5) h.link}) hk A);clear A hk H;go_wp2_with fail;refine(D.out 0 _ M.out.1).mono ?_;rintro e w5 ⟨rfl,A⟩;have J:=Qh (M.out.below A);clear A M;go_wp2_with fail;refine(aX false (V 0) (T.out 0 (by omega)) _ 4 _ _ h.uid w5 J.out.2.1 (by show 4<9;decide) rfl).mono ?_;rw[Y.out];rintro e w6 ⟨rfl,A,hk⟩;have N:=Qh (J.out.put (h':={h with name:=aE (V 4) h.name,link:=aE (V 5) h.link,uid:=u}) hk A);clear A hk J;go_wp2_with fail;refine(D.out 1 _ N.out.1).mono ?_;rintro e w7 ⟨rfl,A⟩;have O:=Qh (N.out.below A);clear A N;go_wp2_with fail;refine(aX false (V 1) (T.out 1 (by omega)) _ 5 _ _ h.gid w7 O.out.2.1 (by show 5<9;decide) rfl).mono ?_;rw[Z.out];rintro e w8 ⟨rfl,A,hk⟩;have R:=Qh (O.out.put (h':={h with name:=aE (V 4) h.name,link:=aE (V 5) h.link,uid:=u,gid:=g}) hk A);clear A hk O;go_wp2_with fail;refine(D.out 2 _ R.out.1).mono ?_;rintro e w9 ⟨rfl,A⟩;have X:=Qh (R.out.below A);clear A R;go_wp2_with fail
     refine(aX true (V 2) (T.out 2 (by omega)) _ 6 _ _ h.time w9 X.out.2.1 (by show 6<9;decide) rfl).mono ?_;rw[N2.out];rintro e w10 ⟨rfl,A,hk⟩;have W:=Qh (X.out.put (h':={h with name:=aE (V 4) h.name,link:=aE (V 5) h.link,uid:=u,gid:=g,time:=t}) hk A);clear A hk X;go_wp2_with fail;refine(D.out 3 _ W.out.1).mono ?_;rintro e w11 ⟨rfl,A⟩;have KS:=Qh (W.out.below A);clear A W;go_wp2_with fail;refine(aX false (V 3) (T.out 3 (by omega)) _ 7 _ _ h.size w11 KS.out.2.1 (by show 7<9;decide) rfl).mono ?_;rw[N3.out];rintro e w12 ⟨rfl,A,hk⟩;have Is:=Qh (KS.out.put (h':={h with name:=aE (V 4) h.name,link:=aE (V 5) h.link,uid:=u,gid:=g,time:=t,size:=z}) hk A);clear A hk KS;have B:=Is.out.2.2;have f:=B.cell 0;have l:=B.cell 1;have m:=B.cell 2;have q:=B.cell 3;have r:=B.cell 4;have y:=B.cell 5;have r6:=B.cell 6;have r7:=B.cell 7;have r8:=B.cell 8;have f0:=B.frozen 0;have f1:=B.frozen 1;have f2:=B.frozen 2;have f3:=B.frozen 3;have f4:=B.frozen 4;have f5:=B.frozen 5;have f6:=B.frozen 6;have f7:=B.frozen 7;have f8:=B.frozen 8;simp only[aa,bg,Qc,Qa,Qb]at f l m q r y r6 r7 r8;clear B;have b1:=Is.out.2.1;have c0:=b1.cell 0;have c1:=b1.cell 1;have c2:=b1.cell 2;have c3:=b1.cell 3;have c4:=b1.cell 4;have c5:=b1.cell 5;have c6:=b1.cell 6;have c7:=b1.cell 7;have c8:=b1.cell 8;simp only[aa,Qc,Qa,Qb]at c0 c1 c2 c3 c4 c5 c6 c7 c8;clear b1;have E:Hid (U=({h with name:=aE (V 4) h.name,link:=aE (V 5) h.link,uid:=u,gid:=g,time:=t,size:=z},0)):=Qh (by rw[←HU.out];unfold jt;simp only[Y.out,Z.out,N2.out,N3.out]);go_wp2;refine bodyPost_ret (og rfl _ _ (w.heap.size+1) _ rfl rfl {h with name:=aE (V 4) h.name,link:=aE (V 5) h.link,uid:=u,gid:=g,time:=t,size:=z} (uy Is.out.2.2 _ _ _ _ _ _ _ _ _)) rfl ?_
     exact⟨by rw[E.out];rfl,o5 Is.out.1 (by omega) _ _ _ _ _ _ _ _ _⟩
end Attr
namespace Mem
open Mk Block Hp Head Attr
theorem Og (w:World):(zeroValue 178).run Tryz.prog w=.ok (.agg #[.string ⟨#[]⟩,.slice none 0 0]) w:=Tryz.zeroValue178 w
section
variable {w0 w w':World} {K:RK} {a:Nat} {s:RS} {mb:Option Nat} {v:Value} {xs:List MP} {q:Option Addr} {n c:Nat}
theorem Rd.c0 (h:Rd w0 w K a s mb v xs q n c):w.cell? ⟨K.r,0,none⟩=some (.pointer (some ⟨K.g,0,none⟩)):=h.pE.cell 0
theorem Rd.c1 (h:Rd w0 w K a s mb v xs q n c):w.cell? ⟨K.r,1,none⟩=some (.pointer (some ⟨K.gs,0,none⟩)):=h.pE.cell 1
theorem Rd.c2 (h:Rd w0 w K a s mb v xs q n c):w.cell? ⟨K.r,2,none⟩=some (.map (some K.mw)):=h.pE.cell 2
theorem Rd.c3 (h:Rd w0 w K a s mb v xs q n c):w.cell? ⟨K.r,3,none⟩=some v:=h.pE.cell 3
theorem jb (h:jj WZ w K.mw (iI s q n c)) (k:UInt8) (m:Int) (hk:(k.toNat:Int)=m):
 (Instr.lookup 89 (.map (some K.mw)) (.int .u8 m) true).run Tryz.prog w=.ok (.tuple #[(iI s q n c k).getD (.agg #[.string ⟨#[]⟩,.slice none 0 0]),.bool (iI s q n c k).isSome]) w:=by
 subst hk;exact h.look_ok Tryz.underlying89 Tryz.underlying5 Og k
theorem Rd.ah2 (h:Rd w0 w K a s mb v xs q n c):
 (Instr.lookup 89 (.map (some K.mw)) (.int .u8 76) true).run Tryz.prog w=.ok (.tuple #[.agg #[.string (str (s.name.getD [])),.slice none 0 0],.bool s.name.isSome]) w:=by
 rw[jb h.map 76 76 rfl];have e:iI s q n c 76=s.name.map (fun t=>.agg #[.string (str t),.slice none 0 0]):=by unfold iI;rw[if_neg (by decide),if_pos rfl]
 rw[e]
 cases s.name<;>rfl
theorem Rd.G7 (h:Rd w0 w K a s mb v xs q n c):
 (Instr.lookup 89 (.map (some K.mw)) (.int .u8 75) true).run Tryz.prog w=.ok (.tuple #[.agg #[.string (str (s.link.getD [])),.slice none 0 0],.bool s.link.isSome]) w:=by
 rw[jb h.map 75 75 rfl];have e:iI s q n c 75=s.link.map (fun t=>.agg #[.string (str t),.slice none 0 0]):=by unfold iI;rw[if_neg (by decide),if_neg (by decide),if_pos rfl]
 rw[e]
 cases s.link<;>rfl
theorem vQ {fn:Func} (hf:fn.results=#[.cell 4 66]) (tmps:Array Value) (w:World) (g:Nat) (ht:tmps.getD 4 undef=.pointer (some ⟨g,0,none⟩))
 (h:af) (hb:au w g 66 (aa h)):(results fn tmps).run Tryz.prog w=.ok (.agg (aa h)) w:=by
 have hl:=vL w g _ _ _ _ _ _ _ _ _ hb;have A:tmps[4]?.getD undef=.pointer (some ⟨g,0,none⟩):=by simpa using ht
 simp only[results,hf];simp[A,asAddr];rw[hl];rfl
theorem rU (h:af) (hr:Rd w0 w K a s mb v xs q n c):
 Calls Tryz.prog 113 #[.pointer (some ⟨K.r,0,none⟩),.agg (aa h)] w fun e w'=>e=.returned (.agg (aa (kR h s)))∧Below w.heap.size w w':=by
 have p:Hid (xy w ((w.alloc (.cells (aa h) 66)).alloc (.cells (aa bg) 66)) h):=by
  have b1:=au.new (w.alloc (.cells (aa h) 66)) 66 (aa bg);rw[World.size_alloc]at b1;exact Qh ⟨((Below.refl _ w).alloc (Qk _) _).alloc (by simp) _,(au.new w 66 (aa h)).alloc _,b1⟩
 have V:=Qh hr;clear hr;obtain⟨sn,u⟩:∃x,s.name=x:=⟨_,rfl⟩
 obtain⟨sl,xC⟩:∃x,s.link=x:=⟨_,rfl⟩
 have t:=Qh u;have z:=Qh xC;clear u xC;obtain⟨U,hU⟩:∃U,kR h s=U:=⟨_,rfl⟩
 rw[hU];have HU:Hid (U={h with name:=sn.getD h.name,link:=sl.getD h.link}):=Qh (by rw[←hU,←t.out,←z.out];rfl);clear hU;obtain⟨W1,jK⟩:∃W1,(w.alloc (.cells (aa h) 66)).alloc (.cells (aa bg) 66)=W1:=⟨_,rfl⟩
 rw[jK]at p
 go_enter Tryz.func113,Tryz.ntmps113
 go_upto_region 1 with fail
 rw[show(w.alloc (.cells (aa h) 66)).alloc (.cells #[.string ⟨#[]⟩,.string ⟨#[]⟩,.int .u8 0,.int .i64 0,.int .i64 0,.int .i64 0,.int .i64 0,.int .i64 0,.bool false] 66)=W1 from jK];have R1:=Qh (V.out.below p.out.1);have N:=R1.out.c2;have L:=R1.out.ah2;rw[t.out]at L;clear jK
 cases sn with
 |none=>
  simp only[Option.getD_none,Option.isSome_none]at L
  cases sl with
  |none=>
   go_upto_region 2 with fail
   clear N L;obtain⟨W2,D⟩:∃W2,W1.alloc (.cells #[.string (str []),.slice none 0 0] 178)=W2:=⟨_,rfl⟩
   have I:W2.cell? ⟨W1.heap.size,0,none⟩=some (.string (str [])):=by rw[←D];exact(au.new W1 178 _).cell 0
   have J:Hid (xy w W2 h):=Qh (by rw[←D];exact p.out.below ((Below.refl _ W1).alloc (Qk _) _));have R2:=Qh (V.out.below J.out.1);rw[show W1.alloc (.cells #[.string (str []),.slice none 0 0] 178)=W2 from D];clear D;go_upto_region 4 with fail;clear I;obtain⟨W3,O⟩:∃W3,W2=W3:=⟨_,rfl⟩
   have M:=J;rw[O]at M⊢;clear O;have R:=Qh (V.out.below M.out.1);have N:=R.out.c2;have H:=R.out.G7;rw[z.out]at H;simp only[Option.getD_none,Option.isSome_none]at H;go_upto_region 5 with fail;clear N H;obtain⟨W4,G⟩:∃W4,W3.alloc (.cells #[.string (str []),.slice none 0 0] 178)=W4:=⟨_,rfl⟩
   have I:W4.cell? ⟨W3.heap.size,0,none⟩=some (.string (str [])):=by rw[←G];exact(au.new W3 178 _).cell 0
   have T:Hid (xy w W4 h):=Qh (by rw[←G];exact M.out.below ((Below.refl _ W3).alloc (Qk _) _));rw[show W3.alloc (.cells #[.string (str []),.slice none 0 0] 178)=W4 from G];clear G;go_upto_region 7 with fail;clear I;have B:=T;have A:=B.out.2.2;have Y:=A.cell 0;have f0:=A.frozen 0;have Z:=A.cell 1;have f1:=A.frozen 1;have b:=A.cell 2;have f2:=A.frozen 2;have d:=A.cell 3;have f3:=A.frozen 3;have f:=A.cell 4;have f4:=A.frozen 4;have g:=A.cell 5;have f5:=A.frozen 5;have l:=A.cell 6;have f6:=A.frozen 6;have m:=A.cell 7;have f7:=A.frozen 7;have o:=A.cell 8;have f8:=A.frozen 8;simp only[aa,bg,Qc,Qa,Qb]at Y Z b d f g l m o;clear A;have b1:=B.out.2.1;have c0:=b1.cell 0;have c1:=b1.cell 1;have c2:=b1.cell 2;have c3:=b1.cell 3;have W:=b1.cell 4;have c5:=b1.cell 5;have c6:=b1.cell 6;have c7:=b1.cell 7;have X:=b1.cell 8;simp only[aa,Qc,Qa,Qb]at c0 c1 c2 c3 W c5 c6 c7 X;clear b1;have E:Hid (U=h):=Qh (by rw[HU.out];rfl);go_wp2;refine bodyPost_ret (vQ rfl _ _ (w.heap.size+1) rfl h (uy B.out.2.2 _ _ _ _ _ _ _ _ _)) rfl ?_;exact⟨by rw[E.out],o5 B.out.1 (by omega) _ _ _ _ _ _ _ _ _⟩
  |some lk=>
   go_upto_region 2 with fail
   clear N L;obtain⟨W2,D⟩:∃W2,W1.alloc (.cells #[.string (str []),.slice none 0 0] 178)=W2:=⟨_,rfl⟩
   have I:W2.cell? ⟨W1.heap.size,0,none⟩=some (.string (str [])):=by rw[←D];exact(au.new W1 178 _).cell 0
   have J:Hid (xy w W2 h):=Qh (by rw[←D];exact p.out.below ((Below.refl _ W1).alloc (Qk _) _));have R2:=Qh (V.out.below J.out.1);rw[show W1.alloc (.cells #[.string (str []),.slice none 0 0] 178)=W2 from D];clear D;go_upto_region 4 with fail;clear I;obtain⟨W3,O⟩:∃W3,W2=W3:=⟨_,rfl⟩
   have M:=J;rw[O]at M⊢;clear O;have R:=Qh (V.out.below M.out.1);have N:=R.out.c2;have H:=R.out.G7;rw[z.out]at H;simp only[Option.getD_some,Option.isSome_some]at H;go_upto_region 5 with fail;clear N H;obtain⟨W4,G⟩:∃W4,W3.alloc (.cells #[.string (str lk),.slice none 0 0] 178)=W4:=⟨_,rfl⟩
   have I:W4.cell? ⟨W3.heap.size,0,none⟩=some (.string (str lk)):=by rw[←G];exact(au.new W3 178 _).cell 0
   have T:Hid (xy w W4 h):=Qh (by rw[←G];exact M.out.below ((Below.refl _ W3).alloc (Qk _) _));rw[show W3.alloc (.cells #[.string (str lk),.slice none 0 0] 178)=W4 from G];clear G;have b1:=T.out.2.1;have y1:=b1.cell 1;have g1:=b1.frozen 1;simp only[aa,Qc,Qa,Qb]at y1;clear b1;go_upto_region 7 with fail;have B:Hid (xy w (W4.setCell ⟨w.heap.size,1,none⟩ (.string (str lk))) {h with link:=lk}):=Qh (T.out.put (h':={h with link:=lk}) ((Kept.refl (aA w.heap.size) W4).setCell (a:=⟨w.heap.size,1,none⟩) (.inr rfl) _) (T.out.2.1.set 1 _ (by show 1<9;decide)));clear y1 g1 I;obtain⟨W5,y⟩:∃W5,W4.setCell ⟨w.heap.size,1,none⟩ (.string (str lk))=W5:=⟨_,rfl⟩
   rw[y]at B⊢;clear y;have A:=B.out.2.2;have Y:=A.cell 0;have f0:=A.frozen 0;have Z:=A.cell 1;have f1:=A.frozen 1;have b:=A.cell 2;have f2:=A.frozen 2;have d:=A.cell 3;have f3:=A.frozen 3;have f:=A.cell 4;have f4:=A.frozen 4;have g:=A.cell 5;have f5:=A.frozen 5;have l:=A.cell 6;have f6:=A.frozen 6;have m:=A.cell 7;have f7:=A.frozen 7;have o:=A.cell 8;have f8:=A.frozen 8;simp only[aa,bg,Qc,Qa,Qb]at Y Z b d f g l m o;clear A;have b1:=B.out.2.1;have c0:=b1.cell 0;have c1:=b1.cell 1;have c2:=b1.cell 2;have c3:=b1.cell 3;have W:=b1.cell 4;have c5:=b1.cell 5;have c6:=b1.cell 6;have c7:=b1.cell 7;have X:=b1.cell 8;simp only[aa,Qc,Qa,Qb]at c0 c1 c2 c3 W c5 c6 c7 X;clear b1;have E:Hid (U={h with link:=lk}):=Qh (by rw[HU.out];rfl);go_wp2;refine bodyPost_ret (vQ rfl _ _ (w.heap.size+1) rfl {h with link:=lk} (uy B.out.2.2 _ _ _ _ _ _ _ _ _)) rfl ?_;exact⟨by rw[E.out],o5 B.out.1 (by omega) _ _ _ _ _ _ _ _ _⟩
 |some nm=>
  simp only[Option.getD_some,Option.isSome_some]at L
  cases sl with
  |none=>
   go_upto_region 2 with fail
   clear N L;obtain⟨W2,D⟩:∃W2,W1.alloc (.cells #[.string (str nm),.slice none 0 0] 178)=W2:=⟨_,rfl⟩
   have I:W2.cell? ⟨W1.heap.size,0,none⟩=some (.string (str nm)):=by rw[←D];exact(au.new W1 178 _).cell 0
   have J:Hid (xy w W2 h):=Qh (by rw[←D];exact p.out.below ((Below.refl _ W1).alloc (Qk _) _));have R2:=Qh (V.out.below J.out.1);rw[show W1.alloc (.cells #[.string (str nm),.slice none 0 0] 178)=W2 from D];clear D;have b1:=J.out.2.1;have y0:=b1.cell 0;have g0:=b1.frozen 0;simp only[aa,Qc,Qa]at y0;clear b1;go_upto_region 4 with fail;have M:Hid (xy w (W2.setCell ⟨w.heap.size,0,none⟩ (.string (str nm))) {h with name:=nm}):=Qh (J.out.put (h':={h with name:=nm}) ((Kept.refl (aA w.heap.size) W2).setCell (a:=⟨w.heap.size,0,none⟩) (.inr rfl) _) (J.out.2.1.set 0 _ (by show 0<9;decide)));clear y0 g0 I;obtain⟨W3,O⟩:∃W3,W2.setCell ⟨w.heap.size,0,none⟩ (.string (str nm))=W3:=⟨_,rfl⟩
   rw[O]at M⊢;clear O;have R:=Qh (V.out.below M.out.1);have N:=R.out.c2;have H:=R.out.G7;rw[z.out]at H;simp only[Option.getD_none,Option.isSome_none]at H;go_upto_region 5 with fail;clear N H;obtain⟨W4,G⟩:∃W4,W3.alloc (.cells #[.string (str []),.slice none 0 0] 178)=W4:=⟨_,rfl⟩
   have I:W4.cell? ⟨W3.heap.size,0,none⟩=some (.string (str [])):=by rw[←G];exact(au.new W3 178 _).cell 0
   have T:Hid (xy w W4 {h with name:=nm}):=Qh (by rw[←G];exact M.out.below ((Below.refl _ W3).alloc (Qk _) _));rw[show W3.alloc (.cells #[.string (str []),.slice none 0 0] 178)=W4 from G];clear G;go_upto_region 7 with fail;clear I;have B:=T;have A:=B.out.2.2;have Y:=A.cell 0;have f0:=A.frozen 0;have Z:=A.cell 1;have f1:=A.frozen 1;have b:=A.cell 2;have f2:=A.frozen 2;have d:=A.cell 3;have f3:=A.frozen 3;have f:=A.cell 4;have f4:=A.frozen 4;have g:=A.cell 5;have f5:=A.frozen 5;have l:=A.cell 6;have f6:=A.frozen 6;have m:=A.cell 7;have f7:=A.frozen 7;have o:=A.cell 8;have f8:=A.frozen 8;simp only[aa,bg,Qc,Qa,Qb]at Y Z b d f g l m o;clear A;have b1:=B.out.2.1;have c0:=b1.cell 0;have c1:=b1.cell 1;have c2:=b1.cell 2;have c3:=b1.cell 3;have W:=b1.cell 4;have c5:=b1.cell 5;have c6:=b1.cell 6;have c7:=b1.cell 7;have X:=b1.cell 8;simp only[aa,Qc,Qa,Qb]at c0 c1 c2 c3 W c5 c6 c7 X;clear b1;have E:Hid (U={h with name:=nm}):=Qh (by rw[HU.out];rfl);go_wp2;refine bodyPost_ret (vQ rfl _ _ (w.heap.size+1) rfl {h with name:=nm} (uy B.out.2.2 _ _ _ _ _ _ _ _ _)) rfl ?_;exact⟨by rw[E.out],o5 B.out.1 (by omega) _ _ _ _ _ _ _ _ _⟩
  |some lk=>
   go_upto_region 2 with fail
   clear N L;obtain⟨W2,D⟩:∃W2,W1.alloc (.cells #[.string (str nm),.slice none 0 0] 178)=W2:=⟨_,rfl⟩
   have I:W2.cell? ⟨W1.heap.size,0,none⟩=some (.string (str nm)):=by rw[←D];exact(au.new W1 178 _).cell 0
   have J:Hid (xy w W2 h):=Qh (by rw[←D];exact p.out.below ((Below.refl _ W1).alloc (Qk _) _));have R2:=Qh (V.out.below J.out.1);rw[show W1.alloc (.cells #[.string (str nm),.slice none 0 0] 178)=W2 from D];clear D;have b1:=J.out.2.1;have y0:=b1.cell 0;have g0:=b1.frozen 0;simp only[aa,Qc,Qa]at y0;clear b1;go_upto_region 4 with fail;have M:Hid (xy w (W2.setCell ⟨w.heap.size,0,none⟩ (.string (str nm))) {h with name:=nm}):=Qh (J.out.put (h':={h with name:=nm}) ((Kept.refl (aA w.heap.size) W2).setCell (a:=⟨w.heap.size,0,none⟩) (.inr rfl) _) (J.out.2.1.set 0 _ (by show 0<9;decide)));clear y0 g0 I;obtain⟨W3,O⟩:∃W3,W2.setCell ⟨w.heap.size,0,none⟩ (.string (str nm))=W3:=⟨_,rfl⟩
   rw[O]at M⊢;clear O;have R:=Qh (V.out.below M.out.1);have N:=R.out.c2;have H:=R.out.G7;rw[z.out]at H;simp only[Option.getD_some,Option.isSome_some]at H;go_upto_region 5 with fail;clear N H;obtain⟨W4,G⟩:∃W4,W3.alloc (.cells #[.string (str lk),.slice none 0 0] 178)=W4:=⟨_,rfl⟩
   have I:W4.cell? ⟨W3.heap.size,0,none⟩=some (.string (str lk)):=by rw[←G];exact(au.new W3 178 _).cell 0
   have T:Hid (xy w W4 {h with name:=nm}):=Qh (by rw[←G];exact M.out.below ((Below.refl _ W3).alloc (Qk _) _));rw[show W3.alloc (.cells #[.string (str lk),.slice none 0 0] 178)=W4 from G];clear G;have b1:=T.out.2.1;have y1:=b1.cell 1;have g1:=b1.frozen 1;simp only[aa,Qc,Qa,Qb]at y1;clear b1;go_upto_region 7 with fail;have B:Hid (xy w (W4.setCell ⟨w.heap.size,1,none⟩ (.string (str lk))) {h with name:=nm,link:=lk}):=Qh (T.out.put (h':={h with name:=nm,link:=lk}) ((Kept.refl (aA w.heap.size) W4).setCell (a:=⟨w.heap.size,1,none⟩) (.inr rfl) _) (T.out.2.1.set 1 _ (by show 1<9;decide)));clear y1 g1 I;obtain⟨W5,y⟩:∃W5,W4.setCell ⟨w.heap.size,1,none⟩ (.string (str lk))=W5:=⟨_,rfl⟩
   rw[y]at B⊢;clear y;have A:=B.out.2.2;have Y:=A.cell 0;have f0:=A.frozen 0;have Z:=A.cell 1;have f1:=A.frozen 1;have b:=A.cell 2;have f2:=A.frozen 2;have d:=A.cell 3;have f3:=A.frozen 3;have f:=A.cell 4;have f4:=A.frozen 4;have g:=A.cell 5;have f5:=A.frozen 5;have l:=A.cell 6;have f6:=A.frozen 6;have m:=A.cell 7;have f7:=A.frozen 7;have o:=A.cell 8;have f8:=A.frozen 8;simp only[aa,bg,Qc,Qa,Qb]at Y Z b d f g l m o;clear A;have b1:=B.out.2.1;have c0:=b1.cell 0;have c1:=b1.cell 1;have c2:=b1.cell 2;have c3:=b1.cell 3;have W:=b1.cell 4;have c5:=b1.cell 5;have c6:=b1.cell 6;have c7:=b1.cell 7;have X:=b1.cell 8;simp only[aa,Qc,Qa,Qb]at c0 c1 c2 c3 W c5 c6 c7 X;clear b1;have E:Hid (U={h with name:=nm,link:=lk}):=Qh (by rw[HU.out];rfl);go_wp2;refine bodyPost_ret (vQ rfl _ _ (w.heap.size+1) rfl {h with name:=nm,link:=lk} (uy B.out.2.2 _ _ _ _ _ _ _ _ _)) rfl ?_;exact⟨by rw[E.out],o5 B.out.1 (by omega) _ _ _ _ _ _ _ _ _⟩
end
theorem kq (p:Option Addr) (c:Nat) (X:List UInt8) (w:World) (hl:X.length=512) (h:iC w p 512 X):
 Calls Tryz.prog 72 #[.slice p 512 c] w fun e w'=>e=.returned (.bool (bZ X))∧w=w':=by
 have:=Wt p 512 c X w (by omega) h
 rwa [J3 hl]at this
def LH (l2:List UInt8) (s:RS):Int:=if l2.length<512 then 2 else if bZ l2=false then 9 else if s.iT=true∨s.name.isSome=true∨s.link.isSome=true then 5 else 0
theorem SE (l:List UInt8):bZ l=(bZ (l.take 512)&&bZ (l.drop 512)):=by
 conv=>lhs;rw[←List.take_append_drop 512 l]
 unfold bZ;rw[List.all_append]
section
variable {w0 w w':World} {K:RK} {a:Nat} {s:RS} {mb:Option Nat} {v:Value} {xs:List MP} {q:Option Addr} {n c:Nat}
theorem F6 (s:RS) (q:Option Addr) (n c:Nat):(∀x,iI s q n c x=none)↔¬(s.iT=true∨s.name.isSome=true∨s.link.isSome=true):=by
 constructor
 ·intro h e
  have D:=h 120;have h1:=h 76;have B:=h 75;unfold iI at D h1 B;rw[if_pos rfl]at D;rw[if_neg (by decide),if_pos rfl]at h1;rw[if_neg (by decide),if_neg (by decide),if_pos rfl]at B;rcases e with e|e|e
  ·rw[if_pos e]at D
   cases D
  ·obtain⟨x,A⟩:=Option.isSome_iff_exists.1 e
   rw[A]at h1
   cases h1
  ·obtain⟨x,A⟩:=Option.isSome_iff_exists.1 e
   rw[A]at B
   cases B
 ·intro h k
  have h1:s.iT=false:=by
   cases A:s.iT with
   |false=>rfl
   |true=>exact absurd (.inl A) h
  have B:s.name=none:=by
   cases A:s.name with
   |none=>rfl
   |some t=>exact absurd (.inr (.inl (by rw[A];rfl))) h
  have E:s.link=none:=by
   cases A:s.link with
   |none=>rfl
   |some t=>exact absurd (.inr (.inr (by rw[A];rfl))) h
  unfold iI;rw[h1,B,E];simp
def NQ (w0:World) (K:RK) (a:Nat) (s:RS) (mb:Option Nat) (v:Value) (xs:List MP) (q:Option Addr) (n c:Nat) (r:Int) (e:Ending) (w':World):Prop:=
 e=.returned (.int .i64 r)∧∃a',Rd w0 w' K a' s mb v xs q n c
theorem Gr (hr:Rd w0 w K a s mb v xs q n c):
 Calls Tryz.prog 73 #[.pointer (some ⟨K.r,0,none⟩)] w (NQ w0 K a s mb v xs q n c (LH (K.S.bs.drop a) s)):=by
 obtain⟨t,hs⟩:=hr.src;have hlen:=hs.len;have hle:=hs.le;have R:=Qh hr;have HS:=Qh hs;have x0:=hr.c0;have T:(K.S.bs.drop a).length=K.S.n - a:=by rw[Qe,hlen]
 obtain⟨E,A⟩:∃E,LH (K.S.bs.drop a) s=E:=⟨_,rfl⟩
 rw[A];unfold LH at A
 by_cases h1:a=K.S.n
 ·rw[if_pos (by omega)]at A
  subst A;have B:=yV w K.g a t K.S hs hr.off;rw[show D2 K.S.bs a=(14,[],a) by unfold D2;rw[if_pos (by omega)]]at B;clear hr hs hlen hle T h1
  go_enter Tryz.func73,Tryz.ntmps73
  go_wp2_with fail
  refine B.mono ?_;rintro e O ⟨p,m,U,I,rfl,h1,D,M,G,H⟩;have F:=Qh (R.out.nZ H ⟨I,G⟩);clear h1 D M G H B x0;go_wp2;go_ret;exact⟨rfl,_,F.out⟩
 ·by_cases D:a+512≤K.S.n
  ·rw[if_neg (by omega),SE]at A
   have B:=yV w K.g a t K.S hs hr.off;rw[show D2 K.S.bs a=(0,(K.S.bs.drop a).take 512,a+512) by unfold D2;rw[if_neg (by omega),if_pos (by omega)]]at B;obtain⟨X,W⟩:∃X,(K.S.bs.drop a).take 512=X:=⟨_,rfl⟩
   have u:X.length=512:=by rw[←W,Qg];omega
   rw[W]at A B;obtain⟨Z,b⟩:∃Z,bZ X=Z:=⟨_,rfl⟩
   obtain⟨Y,N⟩:∃Y,bZ ((K.S.bs.drop a).drop 512)=Y:=⟨_,rfl⟩
   rw[b,N]at A;rw[List.drop_drop]at N;have o:=Qh u;have z:=Qh b;have y:=Qh N;have J:=Qh A;clear hr hs hlen hle T h1 D W u b N A
   go_enter Tryz.func73,Tryz.ntmps73
   go_wp2_with fail
   refine B.mono ?_;rintro e O ⟨p,m,U,I,rfl,h1,D,M,G,H⟩;obtain rfl:m=512:=by rw[←h1];exact o.out
   have F:=Qh (R.out.nZ H ⟨I,G⟩);have NY:=Qh G;have cB:=Qh D;clear h1 D M G H B x0;go_wp2_with fail;refine(kq p U X O o.out cB.out).mono ?_;rw[z.out];rintro e w2 ⟨rfl,rfl⟩
   cases Z with
   |false=>
    have A:=J.out;simp only[Bool.false_and,if_true]at A;subst A;go_wp2;go_ret;exact⟨rfl,_,F.out⟩
   |true=>
    have x0:=F.out.c0;go_wp2_with fail;refine(VV O K.g (a+512) I K.S NY.out).mono ?_;rw[show FK (K.S.bs.drop (a+512))=Y from y.out];rintro e w3 ⟨rfl,d,f⟩;have L:=Qh (F.out.nZ (f.kC _) ⟨I,d⟩);clear d f x0
    cases Y with
    |false=>
     have A:=J.out;simp only[Bool.and_false,if_true]at A;subst A;go_wp2;go_ret;exact⟨rfl,_,L.out⟩
    |true=>
     have x2:=L.out.c2;have A:=J.out;rw[if_neg (by decide)]at A;have J:=Qh A;clear A;obtain⟨k,jO,l⟩:=L.out.map.count Tryz.underlying89 3;have hk:=Qh l;clear l
     by_cases V:k=0
     ·have A:=J.out
      rw[if_neg ((F6 _ _ _ _).1 (hk.out.1 V))]at A;subst A V;clear hk;go_wp2;go_ret;exact⟨rfl,_,L.out⟩
     ·have A:=J.out
      rw[if_pos (Classical.byContradiction fun hn=>V (hk.out.2 ((F6 _ _ _ _).2 hn)))]at A;subst A;have E7:(0:Int)<(k:Int):=by omega
      clear hk;go_wp2;go_ret;exact⟨rfl,_,L.out⟩
  ·rw[if_pos (by omega)]at A
   subst A;have B:=yV w K.g a t K.S hs hr.off;rw[show D2 K.S.bs a=(2,[],K.S.bs.length) by unfold D2;rw[if_neg (by omega),if_neg (by omega)]]at B;clear hr hs hlen hle T h1 D
   go_enter Tryz.func73,Tryz.ntmps73
   go_wp2_with fail
   refine B.mono ?_;rintro e O ⟨p,m,U,I,rfl,h1,D,M,G,H⟩;have F:=Qh (R.out.nZ H ⟨I,G⟩);clear h1 D M G H B x0;go_wp2;go_ret;exact⟨rfl,_,F.out⟩
end
end Mem
namespace Mem
open Mk Block Hp Head Attr Go.Shelf
theorem IX (p:Option Addr) (n b2:Nat) (bs:List UInt8) (w:World) (hn:bs.length=n) (hm:n≤140737488351232) (h:iC w p n bs) (h2:w.cell? ⟨b2,0,none⟩=some (.int .u8 0)):
 Calls Tryz.prog 109 #[.slice p n n,.slice (some ⟨b2,0,none⟩) 1 1] w fun e w'=>∃v2 v3,e=.returned (.tuple #[.slice p (av bs).length n,v2,v3])∧Kept ag w w':=by
 rcases Nat.eq_zero_or_pos n with h0|h0
 ·subst h0
  obtain rfl:bs=[]:=List.eq_nil_of_length_eq_zero hn;rcases p with _|x
  ·refine(Any.bytes_Cut_of Tryz.rM none (some ⟨b2,0,none⟩) 0 0 1 1 (-1) w (Qk _) (by omega) (by omega) (by omega) ((Any.bytes_Index_one_nil Tryz.rM.index b2 0 1 0 w h2).mono fun e w' he=>⟨he.1,0,he.2⟩)).mono ?_
   rintro e w' ⟨rfl,q,rfl⟩;unfold Lib.cutV;rw[if_neg (by omega)];exact⟨_,_,rfl,(Kept.refl _ _).drewN _⟩
  ·refine(Any.bytes_Cut_of Tryz.rM (some x) (some ⟨b2,0,none⟩) 0 0 1 1 (-1) w (Qk _) (by omega) (by omega) (by omega) ((Any.bytes_Index_one_at Tryz.rM.index x 0 0 b2 0 1 [] 0 w rfl (fun i hi=>absurd hi (by omega)) h2).mono fun e w' he=>⟨he.1,0,he.2⟩)).mono ?_
   rintro e w' ⟨rfl,q,rfl⟩;unfold Lib.cutV;rw[if_neg (by omega)];exact⟨_,_,rfl,(Kept.refl _ _).drewN _⟩
 ·obtain⟨b,o,rfl,_⟩:=h h0
  exact Oe b o n n b2 bs w hn (Qk _) hm h h2
section
variable {w0 w w':World} {K:RK} {a:Nat} {s:RS} {mb:Option Nat} {v:Value} {xs:List MP} {q:Option Addr} {n c:Nat}
theorem Wo (s:RS) (q:Option Addr) (n c:Nat) (k:UInt8):∃x p m d,(iI s q n c k).getD (.agg #[.string ⟨#[]⟩,.slice none 0 0])=.agg #[.string x,.slice p m d]:=by
 unfold iI
 by_cases h1:k=120
 ·rw[if_pos h1]
  by_cases A:s.iT=true
  ·rw[if_pos A];exact⟨_,_,_,_,rfl⟩
  ·rw[if_neg A];exact⟨_,_,_,_,rfl⟩
 ·rw[if_neg h1]
  by_cases A:k=76
  ·rw[if_pos A]
   cases s.name<;>exact⟨_,_,_,_,rfl⟩
  ·rw[if_neg A]
   by_cases B:k=75
   ·rw[if_pos B]
    cases s.link<;>exact⟨_,_,_,_,rfl⟩
   ·rw[if_neg B];exact⟨_,_,_,_,rfl⟩
theorem vD (w:World) (g a t:Nat) (S:Sv) (h:Block.Src w g S a t) (ho:S.off g) (k:Nat) (hk:k≤1048576) (X:List UInt8) (hX:(S.bs.drop a).take k=X) (hl:a+lr k≤S.n):
 Calls Tryz.prog 108 #[.pointer (some ⟨g,0,none⟩),.int .i64 (k:Int)] w fun e w'=>∃p t',e=.returned (.tuple #[.slice p k k,.int .i64 0])∧iC w' p k X∧(∀x,p=some x→w.heap.size≤x.block)∧Block.Src w' g S (a+lr k) t'∧Kept (aA g) w w':=by
 refine(IQ w g a t S h ho k (by omega)).mono ?_;rintro e w' (⟨_,p,rfl,A,B,⟨t',D⟩,E⟩|⟨h1,_⟩)
 ·exact⟨p,t',rfl,by rw[←hX];exact A,B,D,E⟩
 ·omega
theorem Ob (w:World) (g a t:Nat) (S:Sv) (h:Block.Src w g S a t) (ho:S.off g) (k:Nat) (hk:k≤1048576) (hl:S.n<a+lr k):
 Calls Tryz.prog 108 #[.pointer (some ⟨g,0,none⟩),.int .i64 (k:Int)] w fun e w'=>∃t',e=.returned (.tuple #[.slice none 0 0,.int .i64 2])∧Block.Src w' g S S.n t'∧Kept (aA g) w w':=by
 refine(IQ w g a t S h ho k (by omega)).mono ?_;rintro e w' (⟨h1,_⟩|⟨_,rfl,⟨t',A⟩,B⟩)
 ·omega
 ·exact⟨t',rfl,A,B⟩
def Left (w0:World) (K:RK) (a:Nat) (s:RS) (w':World):Prop:=∃mb v xs q n c,Rd w0 w' K a s mb v xs q n c
theorem QC (hr:Rd w0 w K a s mb v xs q n c) (h:af) (hw:(iI s q n c h.kind).isSome=true):
 Calls Tryz.prog 75 #[.pointer (some ⟨K.r,0,none⟩),.agg (aa h)] w fun e w'=>e=.returned (.int .i64 5)∧Below w.heap.size w w':=by
 have W:=Qh hr;obtain⟨kn,B⟩:∃kn:Int,(h.kind.toNat:Int)=kn:=⟨_,rfl⟩
 obtain⟨W1,L⟩:∃W1,w.alloc (.cells (aa h) 66)=W1:=⟨_,rfl⟩
 have D:Below w.heap.size w W1:=by rw[←L];exact(Below.refl _ w).alloc (Qk _) _
 have b1:au W1 w.heap.size 66 (aa h):=by rw[←L];exact au.new w _ _
 have H:=hr.below D;have A:Below w.heap.size w (W1.alloc (.cells #[.string ⟨#[]⟩,.slice none 0 0] 178)):=D.alloc D.size _;have I:=hr.below A;have T:=jb (H.idle ((Kept.refl ag _).drew)).map h.kind kn B;have U:=jb (I.idle ((Kept.refl ag _).drew)).map h.kind kn B;obtain⟨ex,G,em,E,N⟩:=Wo s q n c h.kind;rw[N,hw]at T U;have f:=H.c2;have R:=b1.cell 2;simp only[aa,Qc,Qa,Qb,B]at R;have g:=I.c2;have O:=(b1.alloc (.cells #[.string ⟨#[]⟩,.slice none 0 0] 178)).cell 2;simp only[aa,Qc,Qa,Qb,B]at O;have J:=Qh D;have M:=Qh b1;have l:=Qh B;clear hr hw B N H I b1 D A
 go_enter Tryz.func75,Tryz.ntmps75
 go_upto_region 1 with fail
 clear L
 go_cut [5,6]from 13 to 22 (fun Z b d=>Z=.pointer (some ⟨W1.heap.size,0,none⟩)∧b=.bool true∧d=(W1.alloc (.cells #[.string ex,.slice G em E] 178)).drew)
 case first=>
  go_region
  all_goals (go_wp2;go_meet;exact⟨rfl,rfl,rfl⟩)
 case rest=>
  obtain⟨rfl,rfl,rfl⟩:=hcut;clear T U f R g O;have A:Below w.heap.size w (W1.alloc (.cells #[.string ex,.slice G em E] 178)).drew:=((J.out.alloc J.out.size _)).drew;have Y:Hid (au (W1.alloc (.cells #[.string ex,.slice G em E] 178)).drew w.heap.size 66 (aa h)):=Qh ((M.out.alloc _).drew);obtain⟨W2,V⟩:∃W2,(W1.alloc (.cells #[.string ex,.slice G em E] 178)).drew=W2:=⟨_,rfl⟩
  rw[V]at A Y⊢;clear V;have X:=Qh A;have m:=Qh (W.out.below A);clear A J M;go_wp2;go_ret;exact⟨rfl,X.out⟩
theorem QA (hr:Rd w0 w K a s mb v xs q n c) (h:af) (hw:iI s q n c h.kind=none) (hz:1048576<h.size):
 Calls Tryz.prog 75 #[.pointer (some ⟨K.r,0,none⟩),.agg (aa h)] w fun e w'=>e=.returned (.int .i64 10)∧Below w.heap.size w w':=by
 have U:=Qh hr;obtain⟨kn,B⟩:∃kn:Int,(h.kind.toNat:Int)=kn:=⟨_,rfl⟩
 obtain⟨W1,I⟩:∃W1,w.alloc (.cells (aa h) 66)=W1:=⟨_,rfl⟩
 have D:Below w.heap.size w W1:=by rw[←I];exact(Below.refl _ w).alloc (Qk _) _
 have b1:au W1 w.heap.size 66 (aa h):=by rw[←I];exact au.new w _ _
 have E:=hr.below D;have A:Below w.heap.size w (W1.alloc (.cells #[.string ⟨#[]⟩,.slice none 0 0] 178)):=D.alloc D.size _;have G:=hr.below A;have J:=jb (E.idle ((Kept.refl ag _).drew)).map h.kind kn B;have L:=jb (G.idle ((Kept.refl ag _).drew)).map h.kind kn B;rw[hw]at J L;simp only[Option.getD_none,Option.isSome_none]at J L;have Z:=E.c2;have O:=b1.cell 2;simp only[aa,Qc,Qa,Qb,B]at O;have b:=G.c2;have N:=(b1.alloc (.cells #[.string ⟨#[]⟩,.slice none 0 0] 178)).cell 2;simp only[aa,Qc,Qa,Qb,B]at N;have H:=Qh D;have M:=Qh b1;have f:=Qh B;clear hr hw B E G b1 D A
 go_enter Tryz.func75,Tryz.ntmps75
 go_upto_region 1 with fail
 clear I
 go_cut [5,6]from 13 to 22 (fun W X Y=>W=.pointer (some ⟨W1.heap.size,0,none⟩)∧X=.bool false∧Y=(W1.alloc (.cells #[.string ⟨#[]⟩,.slice none 0 0] 178)).drew)
 case first=>
  go_region
  all_goals (go_wp2;go_meet;exact⟨rfl,rfl,rfl⟩)
 case rest=>
  obtain⟨rfl,rfl,rfl⟩:=hcut;clear J L Z O b N;have A:Below w.heap.size w (W1.alloc (.cells #[.string ⟨#[]⟩,.slice none 0 0] 178)).drew:=((H.out.alloc H.out.size _)).drew;have R:Hid (au (W1.alloc (.cells #[.string ⟨#[]⟩,.slice none 0 0] 178)).drew w.heap.size 66 (aa h)):=Qh ((M.out.alloc _).drew);obtain⟨W2,T⟩:∃W2,(W1.alloc (.cells #[.string ⟨#[]⟩,.slice none 0 0] 178)).drew=W2:=⟨_,rfl⟩
  rw[T]at A R⊢;clear T;have V:=Qh A;have g:=Qh (U.out.below A);clear A H M;have d:=R.out.cell 7;simp only[aa,Qc,Qa,Qb]at d;go_wp2;go_ret;exact⟨rfl,V.out⟩
theorem QB (hr:Rd w0 w K a s mb v xs q n c) (h:af) (hw:iI s q n c h.kind=none) (k:Nat) (la:h.size=(k:Int)) (hz:k≤1048576) (hl:K.S.n<a+lr k):
 Calls Tryz.prog 75 #[.pointer (some ⟨K.r,0,none⟩),.agg (aa h)] w fun e w'=>e=.returned (.int .i64 2)∧Below w0.heap.size w0 w':=by
 have p:=Qh hl;have sg:=Qh hz;have d:=Qh la;have Cs:¬(1048576:Int)<(k:Int):=by omega
 clear hl hz la;have V:=Qh hr;obtain⟨kn,B⟩:∃kn:Int,(h.kind.toNat:Int)=kn:=⟨_,rfl⟩
 obtain⟨W1,L⟩:∃W1,w.alloc (.cells (aa h) 66)=W1:=⟨_,rfl⟩
 have D:Below w.heap.size w W1:=by rw[←L];exact(Below.refl _ w).alloc (Qk _) _
 have b1:au W1 w.heap.size 66 (aa h):=by rw[←L];exact au.new w _ _
 have H:=hr.below D;have A:Below w.heap.size w (W1.alloc (.cells #[.string ⟨#[]⟩,.slice none 0 0] 178)):=D.alloc D.size _;have I:=hr.below A;have M:=jb (H.idle ((Kept.refl ag _).drew)).map h.kind kn B;have N:=jb (I.idle ((Kept.refl ag _).drew)).map h.kind kn B;rw[hw]at M N;simp only[Option.getD_none,Option.isSome_none]at M N;have x2:=H.c2;have f:=b1.cell 2;simp only[aa,Qc,Qa,Qb,B]at f;have y2:=I.c2;have b:=(b1.alloc (.cells #[.string ⟨#[]⟩,.slice none 0 0] 178)).cell 2;simp only[aa,Qc,Qa,Qb,B]at b;have J:=Qh D;have W:=Qh b1;have ou:=Qh B;clear hr hw B H I b1 D A
 go_enter Tryz.func75,Tryz.ntmps75
 go_upto_region 1 with fail
 clear L
 go_cut [5,6]from 13 to 22 (fun y z wx=>y=.pointer (some ⟨W1.heap.size,0,none⟩)∧z=.bool false∧wx=(W1.alloc (.cells #[.string ⟨#[]⟩,.slice none 0 0] 178)).drew)
 case first=>
  go_region
  all_goals (go_wp2;go_meet;exact⟨rfl,rfl,rfl⟩)
 case rest=>
  obtain⟨rfl,rfl,rfl⟩:=hcut;clear M N x2 f y2 b;have A:Below w.heap.size w (W1.alloc (.cells #[.string ⟨#[]⟩,.slice none 0 0] 178)).drew:=((J.out.alloc J.out.size _)).drew;have O:Hid (au (W1.alloc (.cells #[.string ⟨#[]⟩,.slice none 0 0] 178)).drew w.heap.size 66 (aa h)):=Qh ((W.out.alloc _).drew);obtain⟨W2,l⟩:∃W2,(W1.alloc (.cells #[.string ⟨#[]⟩,.slice none 0 0] 178)).drew=W2:=⟨_,rfl⟩
  rw[l]at A O⊢;clear l;have cB:=Qh A;have o:=Qh (V.out.below A);clear A J W;have x0:=o.out.c0;have R:=O.out.cell 7;simp only[aa,Qc,Qa,Qb,d.out]at R;have G:=o.out.idle ((Kept.refl ag W2).drew);obtain⟨t,hs⟩:=G.src
  have X:w.heap.size≠K.g:=by
   obtain⟨m,vZ⟩:=V.out.src;have:=vZ.lt;omega
  have u:=Qh G;have vT:=Qh X;have Z:=Ob W2.drew K.g a t K.S hs G.off k sg.out p.out;clear hs G X;go_upto_region 6 with fail
  go_region_held_law (fun w'=>w'.cell? ⟨K.r,0,none⟩=some (.pointer (some ⟨K.g,0,none⟩))∧w'.cell? ⟨w.heap.size,7,none⟩=some (.int .i64 (k:Int))) (first|exact⟨x0,R⟩|exact T)
   (first
    |(go_at_call 108
      refine Z.mono ?_;rintro e w3 ⟨m,rfl,Y,E⟩;have U:=Qh (u.out.nZ E ⟨m,Y⟩);have uf:Hid (au w3 w.heap.size 66 (aa h)):=Qh ((O.out.drew).iH E vT.out);have nP:=Qh E;have T:w3.cell? ⟨K.r,0,none⟩=some (.pointer (some ⟨K.g,0,none⟩))∧w3.cell? ⟨w.heap.size,7,none⟩=some (.int .i64 (k:Int)):=⟨U.out.c0,by have:=uf.out.cell 7;simp only[aa,Qc,Qa,Qb,d.out]at this;exact this⟩
      clear Y E))
  clear Z T x0 R;go_wp2;go_ret;exact⟨rfl,U.out.bel⟩
theorem VQ (s:RS) (q:Option Addr) (n c:Nat) (T:List UInt8):(fun y=>if y=76 then some (Value.agg #[.string (str T),.slice none 0 0])else iI s q n c y)=iI {s with name:=some T} q n c:=by
 funext y
 unfold iI
 by_cases h:y=76
 ·subst h;rfl
 ·simp[h]
theorem VP (s:RS) (q:Option Addr) (n c:Nat) (T:List UInt8):(fun y=>if y=75 then some (Value.agg #[.string (str T),.slice none 0 0])else iI s q n c y)=iI {s with link:=some T} q n c:=by
 funext y
 unfold iI
 by_cases h:y=75
 ·subst h;rfl
 ·simp[h]
theorem YX (s:RS) (q q':Option Addr) (n c n' c':Nat) (rs:bW):(fun y=>if y=120 then some (Value.agg #[.string ⟨#[]⟩,.slice q' n' c'])else iI s q n c y)=iI {s with iT:=true,own:=rs} q' n' c':=by
 funext y
 unfold iI
 by_cases h:y=120
 ·subst h;rfl
 ·simp[h]
theorem T6 (hr:Rd w0 w K a s mb v xs q n c) (h:af) (hw:iI s q n c h.kind=none) (k:Nat) (la:h.size=(k:Int)) (hz:k≤1048576) (X:List UInt8) (hX:(K.S.bs.drop a).take k=X) (hl:a+lr k≤K.S.n) (kV:h.kind=76):
 Calls Tryz.prog 75 #[.pointer (some ⟨K.r,0,none⟩),.agg (aa h)] w fun e w'=>e=.returned (.int .i64 0)∧Left w0 K (a+lr k) {s with name:=some (av X)} w':=by
 have Y:Hid (X.length=k):=Qh (by
  obtain⟨t,hs⟩:=hr.src;have:=rQ k;have:=hs.len
  rw[←hX,Qg,Qe];omega)
 have l:=Qh (And.intro hX hl);have Z:=Qh hz;have jo:=Qh la;have Cs:¬(1048576:Int)<(k:Int):=by omega
 clear hl hX la hz;have pC:=Qh kV;clear kV;have u:=Qh hr;obtain⟨kn,D⟩:∃kn:Int,(h.kind.toNat:Int)=kn:=⟨_,rfl⟩
 obtain⟨W1,R⟩:∃W1,w.alloc (.cells (aa h) 66)=W1:=⟨_,rfl⟩
 have G:Below w.heap.size w W1:=by rw[←R];exact(Below.refl _ w).alloc (Qk _) _
 have b1:au W1 w.heap.size 66 (aa h):=by rw[←R];exact au.new w _ _
 have L:=hr.below G;have B:Below w.heap.size w (W1.alloc (.cells #[.string ⟨#[]⟩,.slice none 0 0] 178)):=G.alloc G.size _;have M:=hr.below B;have T:=jb (L.idle ((Kept.refl ag _).drew)).map h.kind kn D;have U:=jb (M.idle ((Kept.refl ag _).drew)).map h.kind kn D;rw[hw]at T U;simp only[Option.getD_none,Option.isSome_none]at T U;have x2:=L.c2;have k2:=b1.cell 2;simp only[aa,Qc,Qa,Qb,D]at k2;have y2:=M.c2;have j2:=(b1.alloc (.cells #[.string ⟨#[]⟩,.slice none 0 0] 178)).cell 2;simp only[aa,Qc,Qa,Qb,D]at j2;have O:=Qh G;have y:=Qh b1;have V:=Qh D;clear hr hw D L M b1 G B
 go_enter Tryz.func75,Tryz.ntmps75
 go_upto_region 1 with fail
 clear R
 go_cut [5,6]from 13 to 22 (fun s5 s6 wx=>s5=.pointer (some ⟨W1.heap.size,0,none⟩)∧s6=.bool false∧wx=(W1.alloc (.cells #[.string ⟨#[]⟩,.slice none 0 0] 178)).drew)
 case first=>
  go_region
  all_goals (go_wp2;go_meet;exact⟨rfl,rfl,rfl⟩)
 case rest=>
  obtain⟨rfl,rfl,rfl⟩:=hcut;clear T U x2 k2 y2 j2;have B:Below w.heap.size w (W1.alloc (.cells #[.string ⟨#[]⟩,.slice none 0 0] 178)).drew:=((O.out.alloc O.out.size _)).drew;have W:Hid (au (W1.alloc (.cells #[.string ⟨#[]⟩,.slice none 0 0] 178)).drew w.heap.size 66 (aa h)):=Qh ((y.out.alloc _).drew);obtain⟨W2,pg⟩:∃W2,(W1.alloc (.cells #[.string ⟨#[]⟩,.slice none 0 0] 178)).drew=W2:=⟨_,rfl⟩
  rw[pg]at B W⊢;clear pg;have cB:=Qh B;have wv:=Qh (u.out.below B);clear B O y;have x0:=wv.out.c0;have b:=W.out.cell 7;simp only[aa,Qc,Qa,Qb,jo.out]at b;have I:=wv.out.idle ((Kept.refl ag W2).drew);obtain⟨t,hs⟩:=I.src
  have z:w.heap.size≠K.g:=by
   obtain⟨t',vZ⟩:=u.out.src;have:=vZ.lt;omega
  have Iw:=Qh I;have vT:=Qh z;have hB:=vD W2.drew K.g a t K.S hs I.off k Z.out X l.out.1 l.out.2;clear hs I z;go_upto_region 6 with fail
  go_region_held_law (fun w'=>w'.cell? ⟨K.r,0,none⟩=some (.pointer (some ⟨K.g,0,none⟩))∧w'.cell? ⟨w.heap.size,7,none⟩=some (.int .i64 (k:Int))) (first|exact⟨x0,b⟩|exact d)
   (first
    |(go_at_call 108
      refine hB.mono ?_;rintro e w3 ⟨p,t',rfl,h2,h3,h4,N⟩;have m:=Qh (Iw.out.nZ N ⟨t',h4⟩);have J:Hid (au w3 w.heap.size 66 (aa h)):=Qh ((W.out.drew).iH N vT.out);have nP:=Qh (And.intro h2 h3);have d:w3.cell? ⟨K.r,0,none⟩=some (.pointer (some ⟨K.g,0,none⟩))∧w3.cell? ⟨w.heap.size,7,none⟩=some (.int .i64 (k:Int)):=⟨m.out.c0,by have:=J.out.cell 7;simp only[aa,Qc,Qa,Qb,jo.out]at this;exact this⟩
      clear h2 h3 h4 N))
  clear hB d x0 b;have k3:=J.out.cell 2;simp only[aa,Qc,Qa,Qb,V.out]at k3;obtain rfl:kn=76:=by rw[←V.out,pC.out];rfl
  go_upto_region 10 with fail
  go_wp2_with fail
  refine(IX p k w3.heap.size X _ Y.out (by have:=Z.out;omega) (nP.out.1.alloc _) (au.cell (au.new w3 5 #[.int .u8 0]) 0)).mono ?_;rintro e w4 ⟨v2,v3,rfl,tz⟩;have H:Below w3.heap.size w3 w4:=(Kept.trans ((Kept.refl ag w3).alloc _) tz).below (Qk _) (fun _ h=>h.elim);have A:=Qh (m.out.below H);have DP:Hid (au w4 w.heap.size 66 (aa h)):=Qh (J.out.below H J.out.lt)
  have E:iC w4 p (av X).length (av X):=by
   have h1:=(nP.out.1.below H).take (k:=(av X).length) (by rw[←Y.out];exact(oT X).1)
   rwa [(oT X).2]at h1
  have si:=Qh E;clear tz H E k3;go_upto_region 11 with fail;have k4:=DP.out.cell 2;simp only[aa,Qc,Qa,Qb,V.out]at k4;have x4:=A.out.c2;have cv4:(convert 26 9 (.slice p (av X).length k)).run Tryz.prog w4=.ok (.string (str (av X))) w4:=iR si.out rfl _ _ _ Tryz.underlying26 Tryz.underlying5 Tryz.underlying9 _;have az7:(convert 26 9 (.slice p (av X).length k)).run Tryz.prog w4.drew=.ok (.string (str (av X))) w4.drew:=iR (si.out.below ((Below.refl _ _).drew)) rfl _ _ _ Tryz.underlying26 Tryz.underlying5 Tryz.underlying9 _
  go_still_tail 9,(by kernel_rfl)
  refine jA (K:=WZ) rfl (.tmp 58) (.tmp 60) (.tmp 63) rfl Tryz.underlying89 Tryz.underlying5 K.mw (A.out.idle ((Kept.refl ag w4).drew)).map rfl 76 rfl (.agg #[.string (str (av X)),.slice none 0 0]) rfl ?_;intro w5 f p7 yM;have o:=Qh (And.intro f (And.intro p7 yM));clear f p7 yM;go_wp2;go_ret;exact⟨rfl,mb,v,xs,q,n,c,(A.out.idle ((Kept.refl ag w4).drew)).waits o.out.2.1.out (by rw[←VQ];exact o.out.1.out) (A.out.idle ((Kept.refl ag w4).drew)).own rfl rfl A.out.yw A.out.ol (fun t ht=>by cases ht;have:=(oT X).1;rw[Y.out]at this;have:=Z.out;omega) A.out.ll⟩
theorem T5 (hr:Rd w0 w K a s mb v xs q n c) (h:af) (hw:iI s q n c h.kind=none) (k:Nat) (la:h.size=(k:Int)) (hz:k≤1048576) (X:List UInt8) (hX:(K.S.bs.drop a).take k=X) (hl:a+lr k≤K.S.n) (kV:h.kind=75):
 Calls Tryz.prog 75 #[.pointer (some ⟨K.r,0,none⟩),.agg (aa h)] w fun e w'=>e=.returned (.int .i64 0)∧Left w0 K (a+lr k) {s with link:=some (av X)} w':=by
 have Y:Hid (X.length=k):=Qh (by
  obtain⟨t,hs⟩:=hr.src;have:=rQ k;have:=hs.len
  rw[←hX,Qg,Qe];omega)
 have l:=Qh (And.intro hX hl);have Z:=Qh hz;have jo:=Qh la;have Cs:¬(1048576:Int)<(k:Int):=by omega
 clear hl hX la hz;have pC:=Qh kV;clear kV;have u:=Qh hr;obtain⟨kn,D⟩:∃kn:Int,(h.kind.toNat:Int)=kn:=⟨_,rfl⟩
 obtain⟨W1,R⟩:∃W1,w.alloc (.cells (aa h) 66)=W1:=⟨_,rfl⟩
 have G:Below w.heap.size w W1:=by rw[←R];exact(Below.refl _ w).alloc (Qk _) _
 have b1:au W1 w.heap.size 66 (aa h):=by rw[←R];exact au.new w _ _
 have L:=hr.below G;have B:Below w.heap.size w (W1.alloc (.cells #[.string ⟨#[]⟩,.slice none 0 0] 178)):=G.alloc G.size _;have M:=hr.below B;have T:=jb (L.idle ((Kept.refl ag _).drew)).map h.kind kn D;have U:=jb (M.idle ((Kept.refl ag _).drew)).map h.kind kn D;rw[hw]at T U;simp only[Option.getD_none,Option.isSome_none]at T U;have x2:=L.c2;have k2:=b1.cell 2;simp only[aa,Qc,Qa,Qb,D]at k2;have y2:=M.c2;have j2:=(b1.alloc (.cells #[.string ⟨#[]⟩,.slice none 0 0] 178)).cell 2;simp only[aa,Qc,Qa,Qb,D]at j2;have O:=Qh G;have y:=Qh b1;have V:=Qh D;clear hr hw D L M b1 G B
 go_enter Tryz.func75,Tryz.ntmps75
 go_upto_region 1 with fail
 clear R
 go_cut [5,6]from 13 to 22 (fun s5 s6 wx=>s5=.pointer (some ⟨W1.heap.size,0,none⟩)∧s6=.bool false∧wx=(W1.alloc (.cells #[.string ⟨#[]⟩,.slice none 0 0] 178)).drew)
 case first=>
  go_region
  all_goals (go_wp2;go_meet;exact⟨rfl,rfl,rfl⟩)
 case rest=>
  obtain⟨rfl,rfl,rfl⟩:=hcut;clear T U x2 k2 y2 j2;have B:Below w.heap.size w (W1.alloc (.cells #[.string ⟨#[]⟩,.slice none 0 0] 178)).drew:=((O.out.alloc O.out.size _)).drew;have W:Hid (au (W1.alloc (.cells #[.string ⟨#[]⟩,.slice none 0 0] 178)).drew w.heap.size 66 (aa h)):=Qh ((y.out.alloc _).drew);obtain⟨W2,pg⟩:∃W2,(W1.alloc (.cells #[.string ⟨#[]⟩,.slice none 0 0] 178)).drew=W2:=⟨_,rfl⟩
  rw[pg]at B W⊢;clear pg;have cB:=Qh B;have wv:=Qh (u.out.below B);clear B O y;have x0:=wv.out.c0;have b:=W.out.cell 7;simp only[aa,Qc,Qa,Qb,jo.out]at b;have I:=wv.out.idle ((Kept.refl ag W2).drew);obtain⟨t,hs⟩:=I.src
  have z:w.heap.size≠K.g:=by
   obtain⟨t',vZ⟩:=u.out.src;have:=vZ.lt;omega
  have Iw:=Qh I;have vT:=Qh z;have hB:=vD W2.drew K.g a t K.S hs I.off k Z.out X l.out.1 l.out.2;clear hs I z;go_upto_region 6 with fail
  go_region_held_law (fun w'=>w'.cell? ⟨K.r,0,none⟩=some (.pointer (some ⟨K.g,0,none⟩))∧w'.cell? ⟨w.heap.size,7,none⟩=some (.int .i64 (k:Int))) (first|exact⟨x0,b⟩|exact d)
   (first
    |(go_at_call 108
      refine hB.mono ?_;rintro e w3 ⟨p,t',rfl,h2,h3,h4,N⟩;have m:=Qh (Iw.out.nZ N ⟨t',h4⟩);have J:Hid (au w3 w.heap.size 66 (aa h)):=Qh ((W.out.drew).iH N vT.out);have nP:=Qh (And.intro h2 h3);have d:w3.cell? ⟨K.r,0,none⟩=some (.pointer (some ⟨K.g,0,none⟩))∧w3.cell? ⟨w.heap.size,7,none⟩=some (.int .i64 (k:Int)):=⟨m.out.c0,by have:=J.out.cell 7;simp only[aa,Qc,Qa,Qb,jo.out]at this;exact this⟩
      clear h2 h3 h4 N))
  clear hB d x0 b;have k3:=J.out.cell 2;simp only[aa,Qc,Qa,Qb,V.out]at k3;obtain rfl:kn=75:=by rw[←V.out,pC.out];rfl
  go_upto_region 10 with fail
  go_wp2_with fail
  refine(IX p k w3.heap.size X _ Y.out (by have:=Z.out;omega) (nP.out.1.alloc _) (au.cell (au.new w3 5 #[.int .u8 0]) 0)).mono ?_;rintro e w4 ⟨v2,v3,rfl,tz⟩;have H:Below w3.heap.size w3 w4:=(Kept.trans ((Kept.refl ag w3).alloc _) tz).below (Qk _) (fun _ h=>h.elim);have A:=Qh (m.out.below H);have DP:Hid (au w4 w.heap.size 66 (aa h)):=Qh (J.out.below H J.out.lt)
  have E:iC w4 p (av X).length (av X):=by
   have h1:=(nP.out.1.below H).take (k:=(av X).length) (by rw[←Y.out];exact(oT X).1)
   rwa [(oT X).2]at h1
  have si:=Qh E;clear tz H E k3;go_upto_region 11 with fail;have k4:=DP.out.cell 2;simp only[aa,Qc,Qa,Qb,V.out]at k4;have x4:=A.out.c2;have cv4:(convert 26 9 (.slice p (av X).length k)).run Tryz.prog w4=.ok (.string (str (av X))) w4:=iR si.out rfl _ _ _ Tryz.underlying26 Tryz.underlying5 Tryz.underlying9 _;have az7:(convert 26 9 (.slice p (av X).length k)).run Tryz.prog w4.drew=.ok (.string (str (av X))) w4.drew:=iR (si.out.below ((Below.refl _ _).drew)) rfl _ _ _ Tryz.underlying26 Tryz.underlying5 Tryz.underlying9 _
  go_still_tail 9,(by kernel_rfl)
  refine jA (K:=WZ) rfl (.tmp 58) (.tmp 60) (.tmp 63) rfl Tryz.underlying89 Tryz.underlying5 K.mw (A.out.idle ((Kept.refl ag w4).drew)).map rfl 75 rfl (.agg #[.string (str (av X)),.slice none 0 0]) rfl ?_;intro w5 f p7 yM;have o:=Qh (And.intro f (And.intro p7 yM));clear f p7 yM;go_wp2;go_ret;exact⟨rfl,mb,v,xs,q,n,c,(A.out.idle ((Kept.refl ag w4).drew)).waits o.out.2.1.out (by rw[←VP];exact o.out.1.out) (A.out.idle ((Kept.refl ag w4).drew)).own rfl rfl A.out.yw A.out.ol A.out.nl (fun t ht=>by cases ht;have:=(oT X).1;rw[Y.out]at this;have:=Z.out;omega)⟩
end
section
variable {w0 w w':World} {K:RK} {a:Nat} {s:RS} {mb:Option Nat} {v:Value} {xs:List MP} {q:Option Addr} {n c:Nat}
theorem LK (hr:Rd w0 w K a s mb v xs q n c) (h:af) (hw:iI s q n c h.kind=none) (k:Nat) (la:h.size=(k:Int)) (hz:k≤1048576) (X:List UInt8) (hX:(K.S.bs.drop a).take k=X) (hl:a+lr k≤K.S.n) (E:Int) (hE:(aO 5 9 X).2=E) (hE0:E≠0) (hnk:(h.kind.toNat:Int)≠76∧(h.kind.toNat:Int)≠75) (hN:Need w0):
 Calls Tryz.prog 75 #[.pointer (some ⟨K.r,0,none⟩),.agg (aa h)] w fun e w'=>e=.returned (.int .i64 E)∧Below w0.heap.size w0 w':=by
 have qh:Hid (X.length=k):=Qh (by
  obtain⟨t,hs⟩:=hr.src;have:=rQ k;have:=hs.len
  rw[←hX,Qg,Qe];omega)
 have u:=Qh (And.intro hX hl);have sg:=Qh hz;have jo:=Qh la;have Cs:¬(1048576:Int)<(k:Int):=by omega
 clear hl hX la hz;have Xl:=Qh hE;have O:=Qh hE0;have D:=Qh hnk;have vy:=Qh hN;clear hE hE0 hnk hN;have y:=Qh hr;obtain⟨kn,B⟩:∃kn:Int,(h.kind.toNat:Int)=kn:=⟨_,rfl⟩
 obtain⟨W1,Y⟩:∃W1,w.alloc (.cells (aa h) 66)=W1:=⟨_,rfl⟩
 have G:Below w.heap.size w W1:=by rw[←Y];exact(Below.refl _ w).alloc (Qk _) _
 have b1:au W1 w.heap.size 66 (aa h):=by rw[←Y];exact au.new w _ _
 have R:=hr.below G;have A:Below w.heap.size w (W1.alloc (.cells #[.string ⟨#[]⟩,.slice none 0 0] 178)):=G.alloc G.size _;have T:=hr.below A;have Z:=jb (R.idle ((Kept.refl ag _).drew)).map h.kind kn B;have b:=jb (T.idle ((Kept.refl ag _).drew)).map h.kind kn B;rw[hw]at Z b;simp only[Option.getD_none,Option.isSome_none]at Z b;have x2:=R.c2;have k2:=b1.cell 2;simp only[aa,Qc,Qa,Qb,B]at k2;have y2:=T.c2;have j2:=(b1.alloc (.cells #[.string ⟨#[]⟩,.slice none 0 0] 178)).cell 2;simp only[aa,Qc,Qa,Qb,B]at j2;have W:=Qh G;have z:=Qh b1;have f:=Qh B;clear hr hw B R T b1 G A
 go_enter Tryz.func75,Tryz.ntmps75
 go_upto_region 1 with fail
 clear Y
 go_cut [5,6]from 13 to 22 (fun s5 s6 wx=>s5=.pointer (some ⟨W1.heap.size,0,none⟩)∧s6=.bool false∧wx=(W1.alloc (.cells #[.string ⟨#[]⟩,.slice none 0 0] 178)).drew)
 case first=>
  go_region
  all_goals (go_wp2;go_meet;exact⟨rfl,rfl,rfl⟩)
 case rest=>
  obtain⟨rfl,rfl,rfl⟩:=hcut;clear Z b x2 k2 y2 j2;have A:Below w.heap.size w (W1.alloc (.cells #[.string ⟨#[]⟩,.slice none 0 0] 178)).drew:=((W.out.alloc W.out.size _)).drew;have l:Hid (au (W1.alloc (.cells #[.string ⟨#[]⟩,.slice none 0 0] 178)).drew w.heap.size 66 (aa h)):=Qh ((z.out.alloc _).drew);obtain⟨W2,pg⟩:∃W2,(W1.alloc (.cells #[.string ⟨#[]⟩,.slice none 0 0] 178)).drew=W2:=⟨_,rfl⟩
  rw[pg]at A l⊢;clear pg;have cB:=Qh A;have wv:=Qh (y.out.below A);clear A W z;have x0:=wv.out.c0;have m:=l.out.cell 7;simp only[aa,Qc,Qa,Qb,jo.out]at m;have J:=wv.out.idle ((Kept.refl ag W2).drew);obtain⟨t,hs⟩:=J.src
  have ck:w.heap.size≠K.g:=by
   obtain⟨t',vZ⟩:=y.out.src;have:=vZ.lt;omega
  have Iw:=Qh J;have vT:=Qh ck;have hB:=vD W2.drew K.g a t K.S hs J.off k sg.out X u.out.1 u.out.2;clear hs J ck;go_upto_region 6 with fail
  go_region_held_law (fun w'=>w'.cell? ⟨K.r,0,none⟩=some (.pointer (some ⟨K.g,0,none⟩))∧w'.cell? ⟨w.heap.size,7,none⟩=some (.int .i64 (k:Int))) (first|exact⟨x0,m⟩|exact o)
   (first
    |(go_at_call 108
      refine hB.mono ?_;rintro e w3 ⟨p,t',rfl,h2,h3,h4,V⟩;have N:=Qh (Iw.out.nZ V ⟨t',h4⟩);have L:Hid (au w3 w.heap.size 66 (aa h)):=Qh ((l.out.drew).iH V vT.out);have nP:=Qh (And.intro h2 h3);have o:w3.cell? ⟨K.r,0,none⟩=some (.pointer (some ⟨K.g,0,none⟩))∧w3.cell? ⟨w.heap.size,7,none⟩=some (.int .i64 (k:Int)):=⟨N.out.c0,by have:=L.out.cell 7;simp only[aa,Qc,Qa,Qb,jo.out]at this;exact this⟩
      clear h2 h3 h4 V))
  clear hB o x0 m;have k3:=L.out.cell 2;simp only[aa,Qc,Qa,Qb,f.out]at k3;have e1:(kn==76)=false:=by have:=D.out.1;rw[f.out]at this;simpa using this
  have e2:(kn==75)=false:=by have:=D.out.2;rw[f.out]at this;simpa using this
  go_upto_region 13 with fail
  go_wp2_with fail
  refine(tM p k k X w3 qh.out (Qk _) (by have:=sg.out;omega) nP.out.1 (N.out.CY vy.out)).mono ?_;rintro e w4 ⟨p4,c4,rfl,_,_,H,d⟩;obtain⟨⟨rs,U⟩,I⟩:∃x,aO 5 9 X=x:=⟨_,rfl⟩
  have hlen:=sN 5 9 X;rw[I]at H hlen;simp only[I];rw[qh.out]at hlen;have wL:Hid (aO 5 9 X=(rs,U)):=Qh I;obtain⟨rl,M⟩:∃rl,rs.length=rl:=⟨_,rfl⟩
  simp only[M]at H⊢;have H4:=Qh (N.out.below d);have DP:Hid (au w4 w.heap.size 66 (aa h)):=Qh (L.out.below d L.out.lt);have Il:=Qh H;have Ij:=Qh hlen;have ab2:=Qh M;clear H hlen d I M k3;obtain rfl:U=E:=by have:=Xl.out;rw[wL.out]at this;exact this
  have aK7:(U != 0)=true:=by simpa using O.out
  go_wp2;go_ret;exact⟨rfl,H4.out.bel⟩
theorem T4 (hr:Rd w0 w K a s mb v xs q n c) (h:af) (hw:iI s q n c h.kind=none) (k:Nat) (la:h.size=(k:Int)) (hz:k≤1048576) (X:List UInt8) (hX:(K.S.bs.drop a).take k=X) (hl:a+lr k≤K.S.n) (R:bW) (hR:aO 5 9 X=(R,0)) (kV:h.kind=103) (hN:Need w0):
 Calls Tryz.prog 75 #[.pointer (some ⟨K.r,0,none⟩),.agg (aa h)] w fun e w'=>e=.returned (.int .i64 0)∧Left w0 K (a+lr k) {s with bE:=s.bE++R} w':=by
 have qh:Hid (X.length=k):=Qh (by
  obtain⟨t,hs⟩:=hr.src;have:=rQ k;have:=hs.len
  rw[←hX,Qg,Qe];omega)
 have z:=Qh (And.intro hX hl);have I:=Qh hz;have jo:=Qh la;have Cs:¬(1048576:Int)<(k:Int):=by omega
 clear hl hX la hz;have Xl:=Qh hR;have pC:=Qh kV;have vy:=Qh hN;clear hR kV hN;have HR:=Qh hr;obtain⟨kn,D⟩:∃kn:Int,(h.kind.toNat:Int)=kn:=⟨_,rfl⟩
 obtain⟨W1,Z⟩:∃W1,w.alloc (.cells (aa h) 66)=W1:=⟨_,rfl⟩
 have E:Below w.heap.size w W1:=by rw[←Z];exact(Below.refl _ w).alloc (Qk _) _
 have b1:au W1 w.heap.size 66 (aa h):=by rw[←Z];exact au.new w _ _
 have T:=hr.below E;have A:Below w.heap.size w (W1.alloc (.cells #[.string ⟨#[]⟩,.slice none 0 0] 178)):=E.alloc E.size _;have U:=hr.below A;have b:=jb (T.idle ((Kept.refl ag _).drew)).map h.kind kn D;have d:=jb (U.idle ((Kept.refl ag _).drew)).map h.kind kn D;rw[hw]at b d;simp only[Option.getD_none,Option.isSome_none]at b d;have x2:=T.c2;have k2:=b1.cell 2;simp only[aa,Qc,Qa,Qb,D]at k2;have y2:=U.c2;have j2:=(b1.alloc (.cells #[.string ⟨#[]⟩,.slice none 0 0] 178)).cell 2;simp only[aa,Qc,Qa,Qb,D]at j2;have Y:=Qh E;have HX:=Qh b1;have l:=Qh D;clear hr hw D T U b1 E A
 go_enter Tryz.func75,Tryz.ntmps75
 go_upto_region 1 with fail
 clear Z
 go_cut [5,6]from 13 to 22 (fun s5 s6 wx=>s5=.pointer (some ⟨W1.heap.size,0,none⟩)∧s6=.bool false∧wx=(W1.alloc (.cells #[.string ⟨#[]⟩,.slice none 0 0] 178)).drew)
 case first=>
  go_region
  all_goals (go_wp2;go_meet;exact⟨rfl,rfl,rfl⟩)
 case rest=>
  obtain⟨rfl,rfl,rfl⟩:=hcut;clear b d x2 k2 y2 j2;have A:Below w.heap.size w (W1.alloc (.cells #[.string ⟨#[]⟩,.slice none 0 0] 178)).drew:=((Y.out.alloc Y.out.size _)).drew;have m:Hid (au (W1.alloc (.cells #[.string ⟨#[]⟩,.slice none 0 0] 178)).drew w.heap.size 66 (aa h)):=Qh ((HX.out.alloc _).drew);obtain⟨W2,pg⟩:∃W2,(W1.alloc (.cells #[.string ⟨#[]⟩,.slice none 0 0] 178)).drew=W2:=⟨_,rfl⟩
  rw[pg]at A m⊢;clear pg;have cB:=Qh A;have wv:=Qh (HR.out.below A);clear A Y HX;have x0:=wv.out.c0;have o:=m.out.cell 7;simp only[aa,Qc,Qa,Qb,jo.out]at o;have J:=wv.out.idle ((Kept.refl ag W2).drew);obtain⟨t,hs⟩:=J.src
  have ck:w.heap.size≠K.g:=by
   obtain⟨t',vZ⟩:=HR.out.src;have:=vZ.lt;omega
  have Iw:=Qh J;have vT:=Qh ck;have hB:=vD W2.drew K.g a t K.S hs J.off k I.out X z.out.1 z.out.2;clear hs J ck;go_upto_region 6 with fail
  go_region_held_law (fun w'=>w'.cell? ⟨K.r,0,none⟩=some (.pointer (some ⟨K.g,0,none⟩))∧w'.cell? ⟨w.heap.size,7,none⟩=some (.int .i64 (k:Int))) (first|exact⟨x0,o⟩|exact u)
   (first
    |(go_at_call 108
      refine hB.mono ?_;rintro e w3 ⟨p,t',rfl,h2,h3,h4,W⟩;have N:=Qh (Iw.out.nZ W ⟨t',h4⟩);have L:Hid (au w3 w.heap.size 66 (aa h)):=Qh ((m.out.drew).iH W vT.out);have nP:=Qh (And.intro h2 h3);have u:w3.cell? ⟨K.r,0,none⟩=some (.pointer (some ⟨K.g,0,none⟩))∧w3.cell? ⟨w.heap.size,7,none⟩=some (.int .i64 (k:Int)):=⟨N.out.c0,by have:=L.out.cell 7;simp only[aa,Qc,Qa,Qb,jo.out]at this;exact this⟩
      clear h2 h3 h4 W))
  clear hB u x0 o;have k3:=L.out.cell 2;simp only[aa,Qc,Qa,Qb,l.out]at k3;obtain rfl:kn=103:=by rw[←l.out,pC.out];rfl
  go_upto_region 13 with fail
  go_wp2_with fail
  refine(tM p k k X w3 qh.out (Qk _) (by have:=I.out;omega) nP.out.1 (N.out.CY vy.out)).mono ?_;rintro e w4 ⟨p4,c4,rfl,_,_,G,f⟩;obtain⟨⟨rs,er⟩,H⟩:∃x,aO 5 9 X=x:=⟨_,rfl⟩
  have hlen:=sN 5 9 X;rw[H]at G hlen;simp only[H];rw[qh.out]at hlen;have wL:Hid (aO 5 9 X=(rs,er)):=Qh H;obtain⟨rl,M⟩:∃rl,rs.length=rl:=⟨_,rfl⟩
  simp only[M]at G⊢;have O:=Qh (N.out.below f);have DP:Hid (au w4 w.heap.size 66 (aa h)):=Qh (L.out.below f L.out.lt);have Il:=Qh G;have Ij:=Qh hlen;have V:=Qh M;clear G hlen f H M k3;obtain rfl:er=0:=by have:=Xl.out;rw[wL.out]at this;exact congrArg Prod.snd this
  obtain rfl:rs=R:=by have:=Xl.out;rw[wL.out]at this;exact congrArg Prod.fst this
  have k4:=DP.out.cell 2;simp only[aa,Qc,Qa,Qb,l.out]at k4;have x1:=O.out.c1;go_wp2_with fail;refine(show Calls _ _ _ _ (xF _ K.gs mb (aD s.bE) rs)from LW K.gs mb (aD s.bE) p4 rl _ rs _ O.out.st (by have:=Ij.out.2;rw[V.out]at this;have:=I.out;omega) Il.out).mono ?_;rintro e w5 ⟨rfl,B,yM,p7,y⟩;have F:=Qh (O.out.al5 yM p7 y (fun r hr=>by have:=Ij.out.1 r hr;have:=I.out;omega));clear yM p7 y k4 x1;go_wp2;go_ret;exact⟨rfl,some B,v,xs,q,n,c,F.out⟩
theorem XR (hr:Rd w0 w K a s mb v xs q n c) (h:af) (hw:iI s q n c h.kind=none) (k:Nat) (la:h.size=(k:Int)) (hz:k≤1048576) (X:List UInt8) (hX:(K.S.bs.drop a).take k=X) (hl:a+lr k≤K.S.n) (R:bW) (hR:aO 5 9 X=(R,0)) (kV:h.kind=120) (hN:Need w0):
 Calls Tryz.prog 75 #[.pointer (some ⟨K.r,0,none⟩),.agg (aa h)] w fun e w'=>e=.returned (.int .i64 0)∧Left w0 K (a+lr k) {s with iT:=true,own:=R} w':=by
 have qh:Hid (X.length=k):=Qh (by
  obtain⟨t,hs⟩:=hr.src;have:=rQ k;have:=hs.len
  rw[←hX,Qg,Qe];omega)
 have DV:=Qh (And.intro hX hl);have I:=Qh hz;have jo:=Qh la;have Cs:¬(1048576:Int)<(k:Int):=by omega
 clear hl hX la hz;have Xl:=Qh hR;have pC:=Qh kV;have vy:=Qh hN;clear hR kV hN;have HR:=Qh hr;obtain⟨kn,B⟩:∃kn:Int,(h.kind.toNat:Int)=kn:=⟨_,rfl⟩
 obtain⟨W1,Z⟩:∃W1,w.alloc (.cells (aa h) 66)=W1:=⟨_,rfl⟩
 have E:Below w.heap.size w W1:=by rw[←Z];exact(Below.refl _ w).alloc (Qk _) _
 have b1:au W1 w.heap.size 66 (aa h):=by rw[←Z];exact au.new w _ _
 have T:=hr.below E;have A:Below w.heap.size w (W1.alloc (.cells #[.string ⟨#[]⟩,.slice none 0 0] 178)):=E.alloc E.size _;have U:=hr.below A;have b:=jb (T.idle ((Kept.refl ag _).drew)).map h.kind kn B;have d:=jb (U.idle ((Kept.refl ag _).drew)).map h.kind kn B;rw[hw]at b d;simp only[Option.getD_none,Option.isSome_none]at b d;have x2:=T.c2;have k2:=b1.cell 2;simp only[aa,Qc,Qa,Qb,B]at k2;have y2:=U.c2;have j2:=(b1.alloc (.cells #[.string ⟨#[]⟩,.slice none 0 0] 178)).cell 2;simp only[aa,Qc,Qa,Qb,B]at j2;have Y:=Qh E;have HX:=Qh b1;have l:=Qh B;clear hr hw B T U b1 E A
 go_enter Tryz.func75,Tryz.ntmps75
 go_upto_region 1 with fail
 clear Z
 go_cut [5,6]from 13 to 22 (fun s5 s6 wx=>s5=.pointer (some ⟨W1.heap.size,0,none⟩)∧s6=.bool false∧wx=(W1.alloc (.cells #[.string ⟨#[]⟩,.slice none 0 0] 178)).drew)
 case first=>
  go_region
  all_goals (go_wp2;go_meet;exact⟨rfl,rfl,rfl⟩)
 case rest=>
  obtain⟨rfl,rfl,rfl⟩:=hcut;clear b d x2 k2 y2 j2;have A:Below w.heap.size w (W1.alloc (.cells #[.string ⟨#[]⟩,.slice none 0 0] 178)).drew:=((Y.out.alloc Y.out.size _)).drew;have o:Hid (au (W1.alloc (.cells #[.string ⟨#[]⟩,.slice none 0 0] 178)).drew w.heap.size 66 (aa h)):=Qh ((HX.out.alloc _).drew);obtain⟨W2,pg⟩:∃W2,(W1.alloc (.cells #[.string ⟨#[]⟩,.slice none 0 0] 178)).drew=W2:=⟨_,rfl⟩
  rw[pg]at A o⊢;clear pg;have cB:=Qh A;have wv:=Qh (HR.out.below A);clear A Y HX;have x0:=wv.out.c0;have u:=o.out.cell 7;simp only[aa,Qc,Qa,Qb,jo.out]at u;have J:=wv.out.idle ((Kept.refl ag W2).drew);obtain⟨t,hs⟩:=J.src
  have ck:w.heap.size≠K.g:=by
   obtain⟨t',vZ⟩:=HR.out.src;have:=vZ.lt;omega
  have Iw:=Qh J;have vT:=Qh ck;have hB:=vD W2.drew K.g a t K.S hs J.off k I.out X DV.out.1 DV.out.2;clear hs J ck;go_upto_region 6 with fail
  go_region_held_law (fun w'=>w'.cell? ⟨K.r,0,none⟩=some (.pointer (some ⟨K.g,0,none⟩))∧w'.cell? ⟨w.heap.size,7,none⟩=some (.int .i64 (k:Int))) (first|exact⟨x0,u⟩|exact y)
   (first
    |(go_at_call 108
      refine hB.mono ?_;rintro e w3 ⟨p,t',rfl,h2,h3,h4,W⟩;have O:=Qh (Iw.out.nZ W ⟨t',h4⟩);have L:Hid (au w3 w.heap.size 66 (aa h)):=Qh ((o.out.drew).iH W vT.out);have nP:=Qh (And.intro h2 h3);have y:w3.cell? ⟨K.r,0,none⟩=some (.pointer (some ⟨K.g,0,none⟩))∧w3.cell? ⟨w.heap.size,7,none⟩=some (.int .i64 (k:Int)):=⟨O.out.c0,by have:=L.out.cell 7;simp only[aa,Qc,Qa,Qb,jo.out]at this;exact this⟩
      clear h2 h3 h4 W))
  clear hB y x0 u;have k3:=L.out.cell 2;simp only[aa,Qc,Qa,Qb,l.out]at k3;obtain rfl:kn=120:=by rw[←l.out,pC.out];rfl
  go_upto_region 13 with fail
  go_wp2_with fail
  refine(tM p k k X w3 qh.out (Qk _) (by have:=I.out;omega) nP.out.1 (O.out.CY vy.out)).mono ?_;rintro e M ⟨m,V,rfl,_,_,G,f⟩;obtain⟨⟨rs,er⟩,H⟩:∃x,aO 5 9 X=x:=⟨_,rfl⟩
  have hlen:=sN 5 9 X;rw[H]at G hlen;simp only[H];rw[qh.out]at hlen;have wL:Hid (aO 5 9 X=(rs,er)):=Qh H;obtain⟨rl,N⟩:∃rl,rs.length=rl:=⟨_,rfl⟩
  simp only[N]at G⊢;have D:=Qh (O.out.below f);have DP:Hid (au M w.heap.size 66 (aa h)):=Qh (L.out.below f L.out.lt);have Il:=Qh G;have Ij:=Qh hlen;have ab2:=Qh N;clear G hlen f H N k3;obtain rfl:er=0:=by have:=Xl.out;rw[wL.out]at this;exact congrArg Prod.snd this
  obtain rfl:rs=R:=by have:=Xl.out;rw[wL.out]at this;exact congrArg Prod.fst this
  have k4:=DP.out.cell 2;simp only[aa,Qc,Qa,Qb,l.out]at k4;go_upto_region 19 with fail;have x4:=D.out.c2
  go_still_tail 8,(by kernel_rfl)
  refine jA (K:=WZ) rfl (.tmp 84) (.tmp 86) (.tmp 88) rfl Tryz.underlying89 Tryz.underlying5 K.mw (D.out.idle ((Kept.refl ag M).drew)).map rfl 120 rfl (.agg #[.string ⟨#[]⟩,.slice m rl V]) rfl ?_;intro w5 z p7 yM;have HM:=Qh (And.intro z (And.intro p7 yM));clear z p7 yM;go_wp2;go_ret;exact⟨rfl,mb,v,xs,m,rl,V,(D.out.idle ((Kept.refl ag M).drew)).waits HM.out.2.1.out (by rw[←YX s q m n c rl V rs];exact HM.out.1.out) (jQ Il.out ((Kept.refl ag M).drew) (fun _ _ _=>id)) rfl rfl (fun h=>by cases h) ⟨fun r hr=>by have:=Ij.out.1 r hr;have:=I.out;omega,by show rs.length≤1048576;have:=Ij.out.2;have:=I.out;omega⟩ D.out.nl D.out.ll⟩
end
section
variable {w0 w w':World} {K:RK} {a:Nat} {s:RS} {mb:Option Nat} {v:Value} {xs:List MP} {q:Option Addr} {n c:Nat}
def j4 (w0:World) (K:RK) (a:Nat) (st:Step) (e:Ending) (w':World):Prop:=
 match st with
 |.fault er=>e=.returned (.int .i64 er)∧Below w0.heap.size w0 w'
 |.done=>False
 |.next k s'=>e=.returned (.int .i64 0)∧Left w0 K (a+k) s' w'
theorem F7 (s:RS) (q:Option Addr) (n c:Nat) (k:UInt8):(iI s q n c k).isSome=true↔(k=120∧s.iT=true)∨(k=76∧s.name.isSome=true)∨(k=75∧s.link.isSome=true):=by
 unfold iI
 by_cases h1:k=120
 ·subst h1
  cases s.iT<;>simp
 ·by_cases A:k=76
  ·subst A
   cases s.name<;>simp
  ·by_cases B:k=75
   ·subst B
    cases s.link<;>simp
   ·simp[h1,A,B]
theorem Bp (hr:Rd w0 w K (a+512) s mb v xs q n c) (h:af) (h0:0≤h.size) (hk:tZ h.kind=true) (hN:Need w0):
 Calls Tryz.prog 75 #[.pointer (some ⟨K.r,0,none⟩),.agg (aa h)] w (j4 w0 K a (ji (K.S.bs.drop a) h s)):=by
 obtain⟨t,hs⟩:=hr.src;have hlen:=hs.len;have hle:=hs.le;have O:(K.S.bs.drop a).length=K.S.n - a:=by rw[Qe,hlen]
 unfold ji
 by_cases h1:(h.kind=120∧s.iT=true)∨(h.kind=76∧s.name.isSome=true)∨(h.kind=75∧s.link.isSome=true)
 ·rw[if_pos h1]
  refine(QC hr h ((F7 s q n c h.kind).2 h1)).mono ?_;rintro e w' ⟨rfl,A⟩;exact⟨rfl,hr.bel.trans (A.mono hr.bel.size)⟩
 ·rw[if_neg h1]
  have hw:iI s q n c h.kind=none:=by
   cases T:iI s q n c h.kind with
   |none=>rfl
   |some y=>exact absurd ((F7 s q n c h.kind).1 (by rw[T];rfl)) h1
  by_cases M:1048576<h.size
  ·rw[if_pos M]
   refine(QA hr h hw M).mono ?_;rintro e w' ⟨rfl,A⟩;exact⟨rfl,hr.bel.trans (A.mono hr.bel.size)⟩
  ·rw[if_neg M]
   obtain⟨k,B⟩:∃k:Nat,h.size=(k:Int):=⟨h.size.toNat,by omega⟩
   have E:k≤1048576:=by omega
   have L:aw k=lr k:=rfl;unfold kF;rw[B,Int.toNat_natCast,O]
   by_cases R:K.S.n<a+512+lr k
   ·rw[if_pos (by rw[L];omega)]
    refine(QB hr h hw k B E R).mono ?_;rintro e w' ⟨rfl,A⟩;exact⟨rfl,A⟩
   ·rw[if_neg (by rw[L];omega)]
    simp only;obtain⟨X,D⟩:∃X,(K.S.bs.drop (a+512)).take k=X:=⟨_,rfl⟩
    rw[List.drop_drop,D,L];have hl:a+512+lr k≤K.S.n:=by omega
    by_cases G:h.kind=76
    ·rw[if_pos G]
     refine(T6 hr h hw k B E X D hl G).mono ?_;rintro e w' ⟨rfl,A⟩;rw[Nat.add_assoc]at A;exact⟨rfl,A⟩
    ·rw[if_neg G]
     by_cases H:h.kind=75
     ·rw[if_pos H]
      refine(T5 hr h hw k B E X D hl H).mono ?_;rintro e w' ⟨rfl,A⟩;rw[Nat.add_assoc]at A;exact⟨rfl,A⟩
     ·rw[if_neg H]
      by_cases I:(aO 5 9 X).2≠0
      ·rw[if_pos I]
       refine(LK hr h hw k B E X D hl _ rfl I ⟨fun e=>G ((rz h.kind 76 (by decide)).1 e),fun e=>H ((rz h.kind 75 (by decide)).1 e)⟩ hN).mono ?_;rintro e w' ⟨rfl,A⟩;exact⟨rfl,A⟩
      ·rw[if_neg I]
       have N:aO 5 9 X=((aO 5 9 X).1,0):=Prod.ext rfl (Classical.byContradiction I)
       by_cases J:h.kind=103
       ·rw[if_pos J]
        refine(T4 hr h hw k B E X D hl _ N J hN).mono ?_;rintro e w' ⟨rfl,A⟩;rw[Nat.add_assoc]at A;exact⟨rfl,A⟩
       ·rw[if_neg J]
        have U:h.kind=120:=by
         unfold tZ at hk
         simpa [G,H,J]using hk
        refine(XR hr h hw k B E X D hl _ N U hN).mono ?_;rintro e w' ⟨rfl,A⟩;rw[Nat.add_assoc]at A;exact⟨rfl,A⟩
end
end Mem
namespace Mem
open Mk Block Hp Head Attr Path Go.Shelf
section
variable {w0 w w':World} {K:RK} {a:Nat} {s:RS} {mb:Option Nat} {v:Value} {xs:List MP} {q:Option Addr} {n c:Nat}
def Hg (s:RS) (q:Option Addr) (n c:Nat):Option Addr × Nat × Nat:=if s.iT=true then(q,n,c)else(none,0,0)
theorem BC (h:jj WZ w K.mw (iI s q n c)) (ho:Hg s q n c=(q',n',c')):
 (Instr.lookup 89 (.map (some K.mw)) (.int .u8 120) false).run Tryz.prog w=.ok (.agg #[.string ⟨#[]⟩,.slice q' n' c']) w:=by
 have:=h.look Tryz.underlying89 Tryz.underlying5 Og 120;have e:iI s q n c 120=if s.iT=true then some (.agg #[.string ⟨#[]⟩,.slice q n c])else none:=by unfold iI;rw[if_pos rfl]
 rw[e]at this;unfold Hg at ho
 cases A:s.iT with
 |true=>
  rw[A,if_pos rfl]at ho this
  cases ho
  exact this
 |false=>
  rw[A,if_neg (by decide)]at ho this
  cases ho
  exact this
theorem Rd.as6 (h:Rd w0 w K a s mb v xs q n c) (ho:Hg s q n c=(q',n',c')):bG w q' n' s.own∧n'≤1048576:=by
 unfold Hg at ho
 cases A:s.iT with
 |true=>
  rw[A,if_pos rfl]at ho
  cases ho
  refine⟨h.own,?_⟩;have h1:=h.own.1;have B:=h.ol.2;omega
 |false=>
  rw[A,if_neg (by decide)]at ho
  cases ho
  rw[h.yw A];exact⟨⟨rfl,fun h=>absurd h (by omega)⟩,by omega⟩
theorem Qz (w:World) (x:ByteArray) (p:Option Addr) (m d:Nat):(Instr.field 178 (.agg #[.string x,.slice p m d]) 1).run Tryz.prog w=.ok (.slice p m d) w:=by
 kernel_rfl
theorem Pb (h:af) (hr:Rd w0 w K a s mb v xs q n c) (h1:h.name.length≤1048576) (h2:h.link.length≤1048576):(kR h s).name.length≤1048576∧(kR h s).link.length≤1048576:=by
 unfold kR;constructor
 ·show(s.name.getD h.name).length≤_
  cases A:s.name with
  |none=>exact h1
  |some t=>exact hr.nl t A
 ·show(s.link.getD h.link).length≤_
  cases A:s.link with
  |none=>exact h2
  |some t=>exact hr.ll t A
theorem xO (h:af) (hr:Rd w0 w K a s mb v xs q n c) (h0:0≤h.size) (h1:h.name.length≤1048576) (h2:h.link.length≤1048576):
 0≤(cC (aD s.bE) s.own (kR h s)).1.size∧(cC (aD s.bE) s.own (kR h s)).1.name.length≤1048576∧(cC (aD s.bE) s.own (kR h s)).1.link.length≤1048576:=
 EB 1048576 (fun i _=>Ch hr.gl hr.ol.1 _) h0 (Pb h hr h1 h2).1 (Pb h hr h1 h2).2
theorem xP (h:af) (hr:Rd w0 w K a s mb v xs q n c) (ho:Hg s q n c=(q',n',c')) (H:af):
 Calls Tryz.prog 112 #[.pointer (some ⟨K.gs,0,none⟩),.agg (aa H),.slice q' n' c'] w fun e w'=>e=.returned (oF (cC (aD s.bE) s.own H))∧Below w.heap.size w w':=by
 obtain⟨h1,A⟩:=hr.as6 ho;exact P7 _ _ _ _ _ _ _ _ hr.st.ptr (by omega) h1 (fun i _=>Nat.le_trans (Ch hr.gl hr.ol.1 _) (by decide))
theorem LS {h:af} (h0:(j6 h).2=0):h.size≤1048576:=by
 unfold j6 at h0;split at h0
 ·rename_i h1;exact absurd h0 h1
 ·split at h0
  ·exact absurd h0 (by decide)
  ·split at h0
   ·rename_i h1;exact absurd h0 h1
   ·split at h0
    ·rename_i h1;exact absurd h0 h1
    ·rename_i h1
     unfold yG at h1;split at h1
     ·exact absurd (by decide) h1
     ·split at h1
      ·exact absurd (by decide) h1
      ·omega
end
end Mem
namespace Mem
open Go.Shelf Mk Hp Head Attr Go.Proofs.YtdhibldkldlfpaaGreatDoor.Mp
variable {bx:Nat} {h ah:af}
theorem Yr (w:World) (g:Nat) (h:af) (hb:au w g 66 (aa h)):(Instr.loadAt 66 (.pointer (some ⟨g,0,none⟩))).run Tryz.prog w=.ok (.agg (aa h)) w:=by
 have c0:=hb.cell;unfold aa at c0⊢
 go_simp
theorem NL {o:Oper} {a:Act} {K:Act→World→Prop} {Q:Exit→Act→World→Prop} (p x:Operand) (ho:o.op=.store 66 p x) (g:Nat) (hp:a.eval p=.pointer (some ⟨g,0,none⟩)) (h z:af) (hx:a.eval x=.agg (aa h)) (hz:au w g 66 (aa z))
 (hK:∀w',au w' g 66 (aa h)→Kept (aA g) w w'→K (a.put o.dst undef) w'):Oper.wp Tryz.prog o a w K Q:=by
 have A:=uy hz;have f0:=hz.frozen;have c0:=hz.cell;unfold aa at c0
 have D:Kept (aA g) w (((((((((w.setCell ⟨g,0,none⟩ (.string (str h.name))).setCell ⟨g,1,none⟩ (.string (str h.link))).setCell ⟨g,2,none⟩ (.int .u8 (h.kind.toNat:Int))).setCell ⟨g,3,none⟩ (.int .i64 h.mode)).setCell ⟨g,4,none⟩ (.int .i64 h.uid)).setCell ⟨g,5,none⟩ (.int .i64 h.gid)).setCell ⟨g,6,none⟩ (.int .i64 h.time)).setCell ⟨g,7,none⟩ (.int .i64 h.size)).setCell ⟨g,8,none⟩ (.bool h.j7)):=
  (((((((((Kept.refl (aA g) w).setCell (a:=⟨g,0,none⟩) (.inr rfl) _).setCell (a:=⟨g,1,none⟩) (.inr rfl) _).setCell (a:=⟨g,2,none⟩) (.inr rfl) _).setCell (a:=⟨g,3,none⟩) (.inr rfl) _).setCell (a:=⟨g,4,none⟩) (.inr rfl) _).setCell (a:=⟨g,5,none⟩) (.inr rfl) _).setCell (a:=⟨g,6,none⟩) (.inr rfl) _).setCell (a:=⟨g,7,none⟩) (.inr rfl) _).setCell (a:=⟨g,8,none⟩) (.inr rfl) _
 clear hz
 have B:(execOp a.eval o).run Tryz.prog w=.ok .skip (((((((((w.setCell ⟨g,0,none⟩ (.string (str h.name))).setCell ⟨g,1,none⟩ (.string (str h.link))).setCell ⟨g,2,none⟩ (.int .u8 (h.kind.toNat:Int))).setCell ⟨g,3,none⟩ (.int .i64 h.mode)).setCell ⟨g,4,none⟩ (.int .i64 h.uid)).setCell ⟨g,5,none⟩ (.int .i64 h.gid)).setCell ⟨g,6,none⟩ (.int .i64 h.time)).setCell ⟨g,7,none⟩ (.int .i64 h.size)).setCell ⟨g,8,none⟩ (.bool h.j7)):=by
  unfold aa at hx;generalize a.eval=ev at hp hx;simp[go_sem,execOp,ho,hp,hx,c0,f0,Result.andThen]
 unfold Oper.wp;rw[B,Oper.upon_skip];exact hK _ (A _ _ _ _ _ _ _ _ _) D
noncomputable def aL:Array Oper:=uZ Tryz.f76 5
def tX (r gs mw bx:Nat) (h h':af) (oq:Option Addr) (on oc:Nat) (ah:af) (ae:Int):Nat→Value
 |0=>.pointer (some ⟨r,0,none⟩)|1=>.pointer (some ⟨r,0,none⟩)|2=>.pointer (some ⟨r,1,none⟩)|3=>.pointer (some ⟨gs,0,none⟩)|4=>.pointer (some ⟨r,0,none⟩)|5=>.agg (aa h)|6=>.agg (aa h')|7=>.pointer (some ⟨r,0,none⟩)|8=>.pointer (some ⟨r,0,none⟩)|9=>.pointer (some ⟨r,2,none⟩)|10=>.map (some mw)|11=>.agg #[.string ⟨#[]⟩,.slice oq on oc]|12=>.slice oq on oc|13=>.tuple #[.agg (aa ah),.int .i64 ae]|14=>.tuple #[.agg (aa ah),.int .i64 ae]|15=>.agg (aa ah)|16=>.int .i64 ae|18=>.int .i64 ae|_=>undef
theorem yT:aL.size=19:=rfl
theorem BV:wQ aL 73=true:=by kernel_rfl
theorem PJ:aP aL 0=some 18:=rfl
theorem Tw:∃o,aL[0]? =some o∧o.op=.move (.tmp 0)∧o.dst=some 18:=⟨_,rfl,rfl,rfl⟩
theorem PK:aP aL 1=some 19:=rfl
theorem Tx:∃o,aL[1]? =some o∧o.op=.nilCheck (.tmp 18)∧o.dst=some 19:=⟨_,rfl,rfl,rfl⟩
theorem PL:aP aL 2=some 20:=rfl
theorem Ty:∃o,aL[2]? =some o∧o.op=.fieldAddr 91 (.tmp 19) 1∧o.dst=some 20:=⟨_,rfl,rfl,rfl⟩
theorem PN:aP aL 3=some 21:=rfl
theorem Tz:∃o,aL[3]? =some o∧o.op=.load 88 (.tmp 20)∧o.dst=some 21:=⟨_,rfl,rfl,rfl⟩
theorem PO:aP aL 4=some 22:=rfl
theorem TA:∃o,aL[4]? =some o∧o.op=.move (.tmp 0)∧o.dst=some 22:=⟨_,rfl,rfl,rfl⟩
theorem PQ:aP aL 5=some 23:=rfl
theorem TB:∃o,aL[5]? =some o∧o.op=.load 66 (.tmp 3)∧o.dst=some 23:=⟨_,rfl,rfl,rfl⟩
theorem PR:aP aL 6=some 24:=rfl
theorem TC:∃o,aL[6]? =some o∧o.op=.call {callee:=.value (.func 113),args:=#[.tmp 22,.tmp 23],argTypes:=#[84,66]}∧o.dst=some 24:=⟨_,rfl,rfl,rfl⟩
theorem PS:aP aL 7=some 25:=rfl
theorem TD:∃o,aL[7]? =some o∧o.op=.move (.tmp 0)∧o.dst=some 25:=⟨_,rfl,rfl,rfl⟩
theorem PT:aP aL 8=some 26:=rfl
theorem TE:∃o,aL[8]? =some o∧o.op=.nilCheck (.tmp 25)∧o.dst=some 26:=⟨_,rfl,rfl,rfl⟩
theorem PU:aP aL 9=some 27:=rfl
theorem TF:∃o,aL[9]? =some o∧o.op=.fieldAddr 91 (.tmp 26) 2∧o.dst=some 27:=⟨_,rfl,rfl,rfl⟩
theorem Ld:aP aL 10=some 28:=rfl
theorem PV:∃o,aL[10]? =some o∧o.op=.load 89 (.tmp 27)∧o.dst=some 28:=⟨_,rfl,rfl,rfl⟩
theorem Le:aP aL 11=some 29:=rfl
theorem PW:∃o,aL[11]? =some o∧o.op=.lookup 89 (.tmp 28) (.const (.int .u8 120)) false∧o.dst=some 29:=⟨_,rfl,rfl,rfl⟩
theorem Lf:aP aL 12=some 30:=rfl
theorem PX:∃o,aL[12]? =some o∧o.op=.field 178 (.tmp 29) 1∧o.dst=some 30:=⟨_,rfl,rfl,rfl⟩
theorem Lg:aP aL 13=some 31:=rfl
theorem PY:∃o,aL[13]? =some o∧o.op=.call {callee:=.value (.func 112),args:=#[.tmp 21,.tmp 24,.tmp 30],argTypes:=#[88,66,64]}∧o.dst=some 31:=⟨_,rfl,rfl,rfl⟩
theorem Lh:aP aL 14=some 17:=rfl
theorem PZ:∃o,aL[14]? =some o∧o.op=.move (.tmp 31)∧o.dst=some 17:=⟨_,rfl,rfl,rfl⟩
theorem Li:aP aL 15=some 32:=rfl
theorem P0:∃o,aL[15]? =some o∧o.op=.extract (.tmp 17) 0∧o.dst=some 32:=⟨_,rfl,rfl,rfl⟩
theorem Lj:aP aL 16=some 33:=rfl
theorem P1:∃o,aL[16]? =some o∧o.op=.extract (.tmp 17) 1∧o.dst=some 33:=⟨_,rfl,rfl,rfl⟩
theorem Lk:aP aL 17=none:=rfl
theorem P2:∃o,aL[17]? =some o∧o.op=.store 66 (.tmp 3) (.tmp 32)∧o.dst=none:=⟨_,rfl,rfl,rfl⟩
theorem Ll:aP aL 18=some 5:=rfl
theorem P3:∃o,aL[18]? =some o∧o.op=.assign (.tmp 33)∧o.dst=some 5:=⟨_,rfl,rfl,rfl⟩
structure W5 (w:World) (bx:Nat) (h ah:af) (listed:Array Bool) (w':World):Prop where
 bel:Below w.heap.size w w'
 bf:listed.getD 17 false=false→au w' bx 66 (aa h)
 aft:listed.getD 17 false=true→au w' bx 66 (aa ah)∧∀j,j<16→listed.getD j false=true
theorem W5.cd (hW:W5 w bx h ah listed w') (ay:j<listed.size) (hj:j≠17):W5 w bx h ah (listed.setIfInBounds j true) w':=by
 have e:(listed.setIfInBounds j true).getD 17 false=listed.getD 17 false:=by rw[ai ay,if_neg (Ne.symm hj)]
 refine⟨hW.bel,fun A=>hW.bf (by rw[←e];exact A),fun A=>⟨(hW.aft (by rw[←e];exact A)).1,fun i hi=>?_⟩⟩;rw[ai ay];split
 ·rfl
 ·exact(hW.aft (by rw[←e];exact A)).2 i hi
theorem W5.not (hW:W5 w bx h ah listed w') (hj:j<16) (Ap:listed.getD j false=false):listed.getD 17 false=false:=by
 cases A:listed.getD 17 false with
 |false=>rfl
 |true=>rw[(hW.aft A).2 j hj]at Ap;cases Ap
theorem W5.call {w2:World} (hW:W5 w bx h ah listed w') (ay:j<listed.size) (hj:j<16) (Ap:listed.getD j false=false) (hb:Below w'.heap.size w' w2):W5 w bx h ah (listed.setIfInBounds j true) w2:=by
 have A:=hW.not hj Ap;have e:(listed.setIfInBounds j true).getD 17 false=false:=by rw[ai ay,if_neg (by omega)];exact A
 refine⟨hW.bel.trans (hb.mono hW.bel.size),fun _=>(hW.bf A).below hb (hW.bf A).lt,fun B=>?_⟩;rw[e]at B
 cases B
theorem rI {Q':Exit→Act→World→Prop} {a0:Act} (r gs mw bx:Nat) (h h':af) (oq:Option Addr) (on oc:Nat) (ah:af) (ae:Int)
 (hsz:73≤a0.tmps.size) (h0:a0.eval (.tmp 0)=.pointer (some ⟨r,0,none⟩)) (h3:a0.eval (.tmp 3)=.pointer (some ⟨bx,0,none⟩)) (hbx:w.heap.size≤bx) (ch:Below w.heap.size w w1) (ae4:au w1 bx 66 (aa h))
 (hS:∀wi,Below w.heap.size w wi→(wi.cell? ⟨r,1,none⟩=some (.pointer (some ⟨gs,0,none⟩))∧wi.cell? ⟨r,2,none⟩=some (.map (some mw)))∧(Instr.lookup 89 (.map (some mw)) (.int .u8 120) false).run Tryz.prog wi=.ok (.agg #[.string ⟨#[]⟩,.slice oq on oc]) wi)
 (aC0:∀wi,Below w.heap.size w wi→Calls Tryz.prog 113 #[.pointer (some ⟨r,0,none⟩),.agg (aa h)] wi fun e w'=>e=.returned (.agg (aa h'))∧Below wi.heap.size wi w')
 (aA0:∀wi,Below w.heap.size w wi→Calls Tryz.prog 112 #[.pointer (some ⟨gs,0,none⟩),.agg (aa h'),.slice oq on oc] wi fun e w'=>e=.returned (.tuple #[.agg (aa ah),.int .i64 ae])∧Below wi.heap.size wi w')
 (hQ:∀w',Below w.heap.size w w'→au w' bx 66 (aa ah)→Q' .normal ((((((((((((((((((a0.put (some 18) (.pointer (some ⟨r,0,none⟩))).put (some 19) (.pointer (some ⟨r,0,none⟩))).put (some 20) (.pointer (some ⟨r,1,none⟩))).put (some 21) (.pointer (some ⟨gs,0,none⟩))).put (some 22) (.pointer (some ⟨r,0,none⟩))).put (some 23) (.agg (aa h))).put (some 24) (.agg (aa h'))).put (some 25) (.pointer (some ⟨r,0,none⟩))).put (some 26) (.pointer (some ⟨r,0,none⟩))).put (some 27) (.pointer (some ⟨r,2,none⟩))).put (some 28) (.map (some mw))).put (some 29) (.agg #[.string ⟨#[]⟩,.slice oq on oc])).put (some 30) (.slice oq on oc)).put (some 31) (.tuple #[.agg (aa ah),.int .i64 ae])).put (some 17) (.tuple #[.agg (aa ah),.int .i64 ae])).put (some 32) (.agg (aa ah))).put (some 33) (.int .i64 ae)).put (some 5) (.int .i64 ae)) w'):
 wpAny Tryz.prog .any aL Q' aL.size (Array.replicate aL.size false) a0 w1.drew:=by
 have no:∀j,(Array.replicate aL.size false).getD j false=false:=fun j=>by
  rw[Array.getD_eq_getD_getElem?,Array.getElem?_replicate];split<;>rfl
 refine AQ (Γ:=Unit) (fun _=>tX r gs mw bx h h' oq on oc ah ae) () a0 (fun _ listed w'=>W5 w bx h ah listed w') 73 BV hsz ?_ ?_ ?_
 ·intro γ listed a w' j o G I W L
  have J:=bz W;have E:=G.wd
  have T:j<19:=by
   have:=(Array.getElem?_eq_some_iff.1 I).1
   rwa [yT]at this
  have same:∀{j':Nat} {H:Oper},aL[j']? =some H→j=j'→H=o:=fun {j' H} h' e=>by subst e;exact Option.some.inj (h'.symm.trans I)
  have O:=jk W;have b:∀i,listed.getD i false=true→i≠j:=fun i hi e=>by rw[e,O]at hi;cases hi
  rcases(show j=0∨j=1∨j=2∨j=3∨j=4∨j=5∨j=6∨j=7∨j=8∨j=9∨j=10∨j=11∨j=12∨j=13∨j=14∨j=15∨j=16∨j=17∨j=18 by omega)with rfl|rfl|rfl|rfl|rfl|rfl|rfl|rfl|rfl|rfl|rfl|rfl|rfl|rfl|rfl|rfl|rfl|rfl|rfl
  ·obtain⟨H,B,D,M⟩:=Tw
   obtain rfl:=same B rfl;have A:a.eval (.tmp 0)=.pointer (some ⟨r,0,none⟩):=(G.old (t:=0) (by kernel_rfl)).trans h0;exact wp_move _ _ (Or.inl D) A ⟨γ,fun _ _=>rfl,rfl,E.cd J (by decide)⟩
  ·obtain⟨H,B,D,M⟩:=Tx
   obtain rfl:=same B rfl;have A:a.eval (.tmp 18)=.pointer (some ⟨r,0,none⟩):=(G.get I L (i:=0) (d:=18) (by kernel_rfl) rfl)
   refine iN _ ?_ ⟨γ,fun _ _=>rfl,rfl,E.cd J (by decide)⟩;generalize a.eval=ev at A⊢;simp[go_sem,execOp,D,A,tX]
  ·obtain⟨H,B,D,M⟩:=Ty
   obtain rfl:=same B rfl;have A:a.eval (.tmp 19)=.pointer (some ⟨r,0,none⟩):=(G.get I L (i:=1) (d:=19) (by kernel_rfl) rfl)
   refine iN _ ?_ ⟨γ,fun _ _=>rfl,rfl,E.cd J (by decide)⟩;generalize a.eval=ev at A⊢;simp[go_sem,execOp,D,A,tX]
  ·obtain⟨H,B,D,M⟩:=Tz
   obtain rfl:=same B rfl;have A:a.eval (.tmp 20)=.pointer (some ⟨r,1,none⟩):=(G.get I L (i:=2) (d:=20) (by kernel_rfl) rfl)
   have q:=(hS w' E.bel).1.1;refine iN _ ?_ ⟨γ,fun _ _=>rfl,rfl,E.cd J (by decide)⟩;generalize a.eval=ev at A⊢;simp[go_sem,execOp,D,A,q,tX]
  ·obtain⟨H,B,D,M⟩:=TA
   obtain rfl:=same B rfl;have A:a.eval (.tmp 0)=.pointer (some ⟨r,0,none⟩):=(G.old (t:=0) (by kernel_rfl)).trans h0;exact wp_move _ _ (Or.inl D) A ⟨γ,fun _ _=>rfl,rfl,E.cd J (by decide)⟩
  ·obtain⟨H,B,D,M⟩:=TB
   obtain rfl:=same B rfl;have A:a.eval (.tmp 3)=.pointer (some ⟨bx,0,none⟩):=(G.old (t:=3) (by kernel_rfl)).trans h3;refine iN _ ?_ ⟨γ,fun _ _=>rfl,rfl,E.cd J (by decide)⟩;have q:=Yr w' bx h (E.bf (E.not (by omega) O));simp[execOp,D,A,q,Result.andThen,tX]
  ·obtain⟨H,B,D,M⟩:=TC
   obtain rfl:=same B rfl;have A:a.eval (.tmp 22)=.pointer (some ⟨r,0,none⟩):=(G.get I L (i:=4) (d:=22) (by kernel_rfl) rfl)
   have R:a.eval (.tmp 23)=.agg (aa h):=(G.get I L (i:=5) (d:=23) (by kernel_rfl) rfl)
   refine tV _ _ _ D #[.pointer (some ⟨r,0,none⟩),.agg (aa h)] (by simp[A,R]) (enters_of Tryz.func113 (by kernel_rfl) rfl) _ _ (aC0 w' E.bel) (fun X V=>⟨γ,fun _ _=>rfl,rfl,E.call J (by omega) O V⟩)
  ·obtain⟨H,B,D,M⟩:=TD
   obtain rfl:=same B rfl;have A:a.eval (.tmp 0)=.pointer (some ⟨r,0,none⟩):=(G.old (t:=0) (by kernel_rfl)).trans h0;exact wp_move _ _ (Or.inl D) A ⟨γ,fun _ _=>rfl,rfl,E.cd J (by decide)⟩
  ·obtain⟨H,B,D,M⟩:=TE
   obtain rfl:=same B rfl;have A:a.eval (.tmp 25)=.pointer (some ⟨r,0,none⟩):=(G.get I L (i:=7) (d:=25) (by kernel_rfl) rfl)
   refine iN _ ?_ ⟨γ,fun _ _=>rfl,rfl,E.cd J (by decide)⟩;generalize a.eval=ev at A⊢;simp[go_sem,execOp,D,A,tX]
  ·obtain⟨H,B,D,M⟩:=TF
   obtain rfl:=same B rfl;have A:a.eval (.tmp 26)=.pointer (some ⟨r,0,none⟩):=(G.get I L (i:=8) (d:=26) (by kernel_rfl) rfl)
   refine iN _ ?_ ⟨γ,fun _ _=>rfl,rfl,E.cd J (by decide)⟩;generalize a.eval=ev at A⊢;simp[go_sem,execOp,D,A,tX]
  ·obtain⟨H,B,D,M⟩:=PV
   obtain rfl:=same B rfl;have A:a.eval (.tmp 27)=.pointer (some ⟨r,2,none⟩):=(G.get I L (i:=9) (d:=27) (by kernel_rfl) rfl)
   have q:=(hS w' E.bel).1.2;refine iN _ ?_ ⟨γ,fun _ _=>rfl,rfl,E.cd J (by decide)⟩;generalize a.eval=ev at A⊢;simp[go_sem,execOp,D,A,q,tX]
  ·obtain⟨H,B,D,M⟩:=PW
   obtain rfl:=same B rfl;have A:a.eval (.tmp 28)=.map (some mw):=(G.get I L (i:=10) (d:=28) (by kernel_rfl) rfl)
   exact vR _ _ _ D _ _ _ A (uC a _) (hS w' E.bel).2 ⟨γ,fun _ _=>rfl,rfl,E.cd J (by decide)⟩
  ·obtain⟨H,B,D,M⟩:=PX
   obtain rfl:=same B rfl;have A:a.eval (.tmp 29)=.agg #[.string ⟨#[]⟩,.slice oq on oc]:=(G.get I L (i:=11) (d:=29) (by kernel_rfl) rfl)
   refine iN _ ?_ ⟨γ,fun _ _=>rfl,rfl,E.cd J (by decide)⟩;have q:=Qz w' ⟨#[]⟩ oq on oc;simp[execOp,D,A,q,Result.andThen,tX]
  ·obtain⟨H,B,D,M⟩:=PY
   obtain rfl:=same B rfl;have A:a.eval (.tmp 21)=.pointer (some ⟨gs,0,none⟩):=(G.get I L (i:=3) (d:=21) (by kernel_rfl) rfl)
   have R:a.eval (.tmp 24)=.agg (aa h'):=(G.get I L (i:=6) (d:=24) (by kernel_rfl) rfl)
   have Z:a.eval (.tmp 30)=.slice oq on oc:=(G.get I L (i:=12) (d:=30) (by kernel_rfl) rfl)
   refine tV _ _ _ D #[.pointer (some ⟨gs,0,none⟩),.agg (aa h'),.slice oq on oc] (by simp[A,R,Z]) (enters_of Tryz.func112 (by kernel_rfl) rfl) _ _ (aA0 w' E.bel) (fun X V=>⟨γ,fun _ _=>rfl,rfl,E.call J (by omega) O V⟩)
  ·obtain⟨H,B,D,M⟩:=PZ
   obtain rfl:=same B rfl;have A:a.eval (.tmp 31)=.tuple #[.agg (aa ah),.int .i64 ae]:=(G.get I L (i:=13) (d:=31) (by kernel_rfl) rfl)
   exact wp_move _ _ (Or.inl D) A ⟨γ,fun _ _=>rfl,rfl,E.cd J (by decide)⟩
  ·obtain⟨H,B,D,M⟩:=P0
   obtain rfl:=same B rfl;have A:a.eval (.tmp 17)=.tuple #[.agg (aa ah),.int .i64 ae]:=(G.get I L (i:=14) (d:=17) (by kernel_rfl) rfl)
   refine iN _ ?_ ⟨γ,fun _ _=>rfl,rfl,E.cd J (by decide)⟩;generalize a.eval=ev at A⊢;simp[go_sem,execOp,D,A,tX]
  ·obtain⟨H,B,D,M⟩:=P1
   obtain rfl:=same B rfl;have A:a.eval (.tmp 17)=.tuple #[.agg (aa ah),.int .i64 ae]:=(G.get I L (i:=14) (d:=17) (by kernel_rfl) rfl)
   refine iN _ ?_ ⟨γ,fun _ _=>rfl,rfl,E.cd J (by decide)⟩;generalize a.eval=ev at A⊢;simp[go_sem,execOp,D,A,tX]
  ·obtain⟨H,B,D,M⟩:=P2
   obtain rfl:=same B rfl;have A:a.eval (.tmp 3)=.pointer (some ⟨bx,0,none⟩):=(G.old (t:=3) (by kernel_rfl)).trans h3;have R:a.eval (.tmp 32)=.agg (aa ah):=(G.get I L (i:=15) (d:=32) (by kernel_rfl) rfl)
   have all:∀j,j<16→listed.getD j false=true:=fun j T=>by
    rcases(show j=0∨j=1∨j=2∨j=3∨j=4∨j=5∨j=6∨j=7∨j=8∨j=9∨j=10∨j=11∨j=12∨j=13∨j=14∨j=15 by omega)with rfl|rfl|rfl|rfl|rfl|rfl|rfl|rfl|rfl|rfl|rfl|rfl|rfl|rfl|rfl|rfl<;>exact o9 I L (by kernel_rfl)
   refine NL _ _ D bx A ah h R (E.bf O) (fun X Y hk=>⟨γ,fun _ _=>rfl,rfl,⟨E.bel.trans (hk.below E.bel.size (fun k hk=>by rw[show k=bx from hk];exact hbx)),fun U=>?_,fun _=>⟨Y,fun j T=>?_⟩⟩⟩)
   ·rw[ai J,if_pos rfl]at U
    cases U
   ·rw[ai J]
    split
    ·rfl
    ·exact all j T
  ·obtain⟨H,B,D,M⟩:=P3
   obtain rfl:=same B rfl;have A:a.eval (.tmp 33)=.int .i64 ae:=(G.get I L (i:=16) (d:=33) (by kernel_rfl) rfl)
   exact wp_move _ _ (Or.inr D) A ⟨γ,fun _ _=>rfl,rfl,E.cd J (by decide)⟩
 ·intro γ listed a w' G N
  have all:∀j,j<19→listed.getD j false=true:=fun j T=>N j (by rw[yT];exact T)
  have E:=G.wd;rw[xX 73 BV hsz G N,yT];simp only[nS,PJ,PK,PL,PN,PO,PQ,PR,PS,PT,PU,Ld,Le,Lf,Lg,Lh,Li,Lj,Lk,Ll,Di,tX];exact hQ w' E.bel (E.aft (all 17 (by omega))).1
 ·exact⟨ch.drew,fun _=>ae4.drew,fun U=>by rw[no]at U;cases U⟩
end Mem
namespace Mem
open Go.Shelf Mk Block Hp Head Attr Go.Proofs.YtdhibldkldlfpaaGreatDoor.Mp
variable {xs:List MP} {y:MP} {i r base:Nat} {v:Value}
theorem ag8 (w:World) (g:Nat) (y:MP) (hb:au w g 48 y.cs):(Instr.loadAt 48 (.pointer (some ⟨g,0,none⟩))).run Tryz.prog w=.ok (.agg y.cs) w:=by
 have c0:=hb.cell;unfold MP.cs jB at c0⊢
 go_simp
theorem ac6 (w:World) (a b:ByteArray) (k m u i t:Int) (p:Option Addr) (n c:Nat):(Instr.buildSlice 38 1 #[(0,.agg #[.string a,.string b,.int .u8 k,.int .i64 m,.int .i64 u,.int .i64 i,.int .i64 t,.slice p n c])]).run Tryz.prog w=
 .ok (.slice (some ⟨w.heap.size,0,none⟩) 1 1) (w.alloc (.cells #[.string a,.string b,.int .u8 k,.int .i64 m,.int .i64 u,.int .i64 i,.int .i64 t,.slice p n c] 48)):=by kernel_rfl
theorem XL (w:World) (y:MP):(Instr.buildSlice 38 1 #[(0,.agg y.cs)]).run Tryz.prog w=.ok (.slice (some ⟨w.heap.size,0,none⟩) 1 1) (w.alloc (.cells y.cs 48)):=ac6 w _ _ _ _ _ _ _ _ _ _
theorem zO {o:Oper} {b:Act} {Kk:Act→World→Prop} {Q:Exit→Act→World→Prop} (x y:Operand)
 (ho:o.op=.call {callee:=.builtin .append,args:=#[x,y],argTypes:=#[38,38]})
 (base:Nat) (v:Value) (xs:List MP) (hs:b.eval x=v) (aK:w.ownsRow base 48 8 v xs.length (k8 xs))
 (g:Nat) (d:Nat) (z:MP) (hx:b.eval y=.slice (some ⟨g,0,none⟩) 1 d) (hb:au w g 48 z.cs) (qy:xs.length≤1000000) (jx:base≤w.heap.size)
 (h:∀v' w',w'.ownsRow base 48 8 v' (xs++[z]).length (k8 (xs++[z]))→w.grownBy w' v.ownBlock→jX w v v'→Kk (b.put o.dst v') w'):Oper.wp Tryz.prog o b w Kk Q:=by
 obtain⟨i0,hi,J,H,I⟩:=info_parts GV
 obtain⟨v',w',G,A,B,D⟩:=kK (P:=Tryz.prog) base 38 o.type 48 i0 _ 8 96 Tryz.underlying38 hi J H I rfl (by decide) v xs.length (k8 xs) aK ⟨g,0,none⟩ 1 d z.cs.toList rfl (by
  intro j u E;rw[WideShapes.add_plain,Nat.zero_add,hb.cell,←Array.getElem?_toList]
  exact E) (fun u hu=>ET [z] u (by simpa [k8]using hu)) (by unfold maxLen;omega) (by omega) jx
 have L:(execOp b.eval o).run Tryz.prog w=.ok (.value v') w':=by simp[execOp,ho,resolve,invoke,builtin,hs,hx,G,Result.andThen]
 unfold Oper.wp;rw[L,Oper.upon_value];rw[←Cd,show xs.length+1=(xs++[z]).length by simp]at A;exact h v' w' A B D
def F9 (base:Nat) (v:Value) (xs:List MP) (y:MP) (w1 wB:World) (va:Value):Prop:=
 ∃wA,Below w1.heap.size w1 wA∧wB.ownsRow base 48 8 va (xs++[y]).length (k8 (xs++[y]))∧wA.grownBy wB v.ownBlock∧jX wA v va
noncomputable def bw:Array Oper:=uZ Tryz.f76 14
structure uw where
 gb:Nat
 va:Value
def oy (r bm:Nat) (v:Value) (y:MP) (γ:uw):Nat→Value
 |0=>.pointer (some ⟨r,0,none⟩)|1=>.pointer (some ⟨r,0,none⟩)|2=>.pointer (some ⟨r,0,none⟩)|3=>.pointer (some ⟨r,3,none⟩)|4=>v|5=>.agg y.cs|6=>.slice (some ⟨γ.gb,0,none⟩) 1 1|7=>γ.va|8=>.pointer (some ⟨r,0,none⟩)|9=>.pointer (some ⟨r,3,none⟩)|_=>undef
theorem wN:bw.size=11:=rfl
theorem zV:wQ bw 73=true:=by kernel_rfl
theorem K0:aP bw 0=some 59:=rfl
theorem Py:∃o,bw[0]? =some o∧o.op=.move (.tmp 0)∧o.dst=some 59:=⟨_,rfl,rfl,rfl⟩
theorem K3:aP bw 1=some 60:=rfl
theorem Pz:∃o,bw[1]? =some o∧o.op=.move (.tmp 0)∧o.dst=some 60:=⟨_,rfl,rfl,rfl⟩
theorem K4:aP bw 2=some 61:=rfl
theorem PA:∃o,bw[2]? =some o∧o.op=.nilCheck (.tmp 60)∧o.dst=some 61:=⟨_,rfl,rfl,rfl⟩
theorem K5:aP bw 3=some 62:=rfl
theorem PB:∃o,bw[3]? =some o∧o.op=.fieldAddr 91 (.tmp 61) 3∧o.dst=some 62:=⟨_,rfl,rfl,rfl⟩
theorem K6:aP bw 4=some 63:=rfl
theorem PD:∃o,bw[4]? =some o∧o.op=.load 38 (.tmp 62)∧o.dst=some 63:=⟨_,rfl,rfl,rfl⟩
theorem K7:aP bw 5=some 64:=rfl
theorem PE:∃o,bw[5]? =some o∧o.op=.load 48 (.tmp 6)∧o.dst=some 64:=⟨_,rfl,rfl,rfl⟩
theorem K8:aP bw 6=some 65:=rfl
theorem PF:∃o,bw[6]? =some o∧o.op=.buildSlice 38 1 #[(0,.tmp 64)]∧o.dst=some 65:=⟨_,rfl,rfl,rfl⟩
theorem K9:aP bw 7=some 66:=rfl
theorem PG:∃o,bw[7]? =some o∧o.op=.call {callee:=.builtin .append,args:=#[.tmp 63,.tmp 65],argTypes:=#[38,38]}∧o.dst=some 66:=⟨_,rfl,rfl,rfl⟩
theorem La:aP bw 8=some 67:=rfl
theorem PH:∃o,bw[8]? =some o∧o.op=.nilCheck (.tmp 59)∧o.dst=some 67:=⟨_,rfl,rfl,rfl⟩
theorem Lb:aP bw 9=some 68:=rfl
theorem PI:∃o,bw[9]? =some o∧o.op=.fieldAddr 91 (.tmp 67) 3∧o.dst=some 68:=⟨_,rfl,rfl,rfl⟩
theorem IE:aP bw 10=none:=rfl
theorem Lc:∃o,bw[10]? =some o∧o.op=.store 38 (.tmp 68) (.tmp 66)∧o.dst=none:=⟨_,rfl,rfl,rfl⟩
theorem Pw (r bm:Nat) (v:Value) (y:MP) (γ:uw) (x:Nat) (h:i≠6):oy r bm v y {γ with gb:=x} i=oy r bm v y γ i:=by
 unfold oy;split<;>first|rfl|(exfalso;omega)
theorem Px (r bm:Nat) (v:Value) (y:MP) (γ:uw) (x:Value) (h:i≠7):oy r bm v y {γ with va:=x} i=oy r bm v y γ i:=by
 unfold oy;split<;>first|rfl|(exfalso;omega)
structure W14 (base r:Nat) (v:Value) (xs:List MP) (y:MP) (w1:World) (γ:uw) (listed:Array Bool) (w':World):Prop where
 pre:listed.getD 7 false=false→Below w1.heap.size w1 w'
 bs:listed.getD 6 false=true→listed.getD 7 false=false→au w' γ.gb 48 y.cs
 ap:listed.getD 7 false=true→listed.getD 10 false=false→F9 base v xs y w1 w' γ.va
 st:listed.getD 10 false=true→∃wB,F9 base v xs y w1 wB γ.va∧w'=wB.setCell ⟨r,3,none⟩ γ.va
 c7:listed.getD 7 false=true→listed.getD 4 false=true∧listed.getD 6 false=true
 c6:listed.getD 6 false=true→listed.getD 5 false=true
 XM:listed.getD 10 false=true→listed.getD 7 false=true
theorem W14.cd {γ:uw} (hW:W14 base r v xs y w1 γ listed w') (ay:j<listed.size) (hj:j≠6∧j≠7∧j≠10):W14 base r v xs y w1 γ (listed.setIfInBounds j true) w':=by
 have D:(listed.setIfInBounds j true).getD 6 false=listed.getD 6 false:=by rw[ai ay,if_neg (by omega)]
 have A:(listed.setIfInBounds j true).getD 7 false=listed.getD 7 false:=by rw[ai ay,if_neg (by omega)]
 have B:(listed.setIfInBounds j true).getD 10 false=listed.getD 10 false:=by rw[ai ay,if_neg (by omega)]
 have up:∀i,listed.getD i false=true→(listed.setIfInBounds j true).getD i false=true:=fun i hi=>by
  rw[ai ay];split
  ·rfl
  ·exact hi
 exact⟨by rw[A];exact hW.pre,by rw[D,A];exact hW.bs,by rw[A,B];exact hW.ap,by rw[B];exact hW.st,fun h=>⟨up _ (hW.c7 (by rw[←A];exact h)).1,up _ (hW.c7 (by rw[←A];exact h)).2⟩,fun h=>up _ (hW.c6 (by rw[←D];exact h)),by rw[A,B];exact hW.XM⟩
theorem W14.ah4 {γ:uw} (hW:W14 base r v xs y w1 γ listed w') (hj:j=4∨j=5∨j=6) (Ap:listed.getD j false=false):listed.getD 7 false=false:=by
 cases D:listed.getD 7 false with
 |false=>rfl
 |true=>
  obtain⟨B,A⟩:=hW.c7 D;rcases hj with rfl|rfl|rfl
  ·rw[B]at Ap;cases Ap
  ·rw[hW.c6 A]at Ap;cases Ap
  ·rw[A]at Ap;cases Ap
theorem Ge {Q':Exit→Act→World→Prop} {a0:Act} (base r bm:Nat) (v:Value) (xs:List MP) (y:MP) (cs:Array Value)
 (hsz:73≤a0.tmps.size) (h0:a0.eval (.tmp 0)=.pointer (some ⟨r,0,none⟩)) (h6:a0.eval (.tmp 6)=.pointer (some ⟨bm,0,none⟩)) (hbm:au w1 bm 48 y.cs) (hbr:au w1 r 91 cs) (Co:cs[3]? =some v) (GN:v.ownBlock≠some r)
 (bM:w1.ownsRow base 48 8 v xs.length (k8 xs)) (jx:base≤w1.heap.size) (OL:xs.length≤1000000)
 (hQ:∀(γ:uw) wB,F9 base v xs y w1 wB γ.va→Q' .normal ((((((((((a0.put (some 59) (.pointer (some ⟨r,0,none⟩))).put (some 60) (.pointer (some ⟨r,0,none⟩))).put (some 61) (.pointer (some ⟨r,0,none⟩))).put (some 62) (.pointer (some ⟨r,3,none⟩))).put (some 63) (v)).put (some 64) (.agg y.cs)).put (some 65) (.slice (some ⟨γ.gb,0,none⟩) 1 1)).put (some 66) (γ.va)).put (some 67) (.pointer (some ⟨r,0,none⟩))).put (some 68) (.pointer (some ⟨r,3,none⟩))) (wB.setCell ⟨r,3,none⟩ γ.va)):
 wpAny Tryz.prog .any bw Q' bw.size (Array.replicate bw.size false) a0 w1.drew:=by
 have no:∀j,(Array.replicate bw.size false).getD j false=false:=fun j=>by
  rw[Array.getD_eq_getD_getElem?,Array.getElem?_replicate];split<;>rfl
 refine AQ (Γ:=uw) (oy r bm v y) {gb:=0,va:=undef} a0 (fun γ listed w'=>W14 base r v xs y w1 γ listed w') 73 zV hsz ?_ ?_ ?_
 ·intro γ listed a w' j o I J z M
  have E:=bz z;have D:=I.wd
  have u:j<11:=by
   have:=(Array.getElem?_eq_some_iff.1 J).1
   rwa [wN]at this
  have same:∀{j':Nat} {L:Oper},bw[j']? =some L→j=j'→L=o:=fun {j' L} h' e=>by subst e;exact Option.some.inj (h'.symm.trans J)
  have T:=jk z;have m:∀i,listed.getD i false=true→i≠j:=fun i hi e=>by rw[e,T]at hi;cases hi
  rcases(show j=0∨j=1∨j=2∨j=3∨j=4∨j=5∨j=6∨j=7∨j=8∨j=9∨j=10 by omega)with rfl|rfl|rfl|rfl|rfl|rfl|rfl|rfl|rfl|rfl|rfl
  ·obtain⟨L,G,H,N⟩:=Py
   obtain rfl:=same G rfl;have B:a.eval (.tmp 0)=.pointer (some ⟨r,0,none⟩):=(I.old (t:=0) (by kernel_rfl)).trans h0;exact wp_move _ _ (Or.inl H) B ⟨γ,fun _ _=>rfl,rfl,D.cd E (by decide)⟩
  ·obtain⟨L,G,H,N⟩:=Pz
   obtain rfl:=same G rfl;have B:a.eval (.tmp 0)=.pointer (some ⟨r,0,none⟩):=(I.old (t:=0) (by kernel_rfl)).trans h0;exact wp_move _ _ (Or.inl H) B ⟨γ,fun _ _=>rfl,rfl,D.cd E (by decide)⟩
  ·obtain⟨L,G,H,N⟩:=PA
   obtain rfl:=same G rfl;have B:a.eval (.tmp 60)=.pointer (some ⟨r,0,none⟩):=(I.get J M (i:=1) (d:=60) (by kernel_rfl) rfl)
   refine iN _ ?_ ⟨γ,fun _ _=>rfl,rfl,D.cd E (by decide)⟩;generalize a.eval=ev at B⊢;simp[go_sem,execOp,H,B,oy]
  ·obtain⟨L,G,H,N⟩:=PB
   obtain rfl:=same G rfl;have B:a.eval (.tmp 61)=.pointer (some ⟨r,0,none⟩):=(I.get J M (i:=2) (d:=61) (by kernel_rfl) rfl)
   refine iN _ ?_ ⟨γ,fun _ _=>rfl,rfl,D.cd E (by decide)⟩;generalize a.eval=ev at B⊢;simp[go_sem,execOp,H,B,oy]
  ·obtain⟨L,G,H,N⟩:=PD
   obtain rfl:=same G rfl;have B:a.eval (.tmp 62)=.pointer (some ⟨r,3,none⟩):=(I.get J M (i:=3) (d:=62) (by kernel_rfl) rfl)
   have O:=D.ah4 (.inl rfl) T;have q:=(hbr.below (D.pre O) hbr.lt).cell 3;rw[Co]at q;refine iN _ ?_ ⟨γ,fun _ _=>rfl,rfl,D.cd E (by decide)⟩;generalize a.eval=ev at B⊢;simp[go_sem,execOp,H,B,q,oy]
  ·obtain⟨L,G,H,N⟩:=PE
   obtain rfl:=same G rfl;have B:a.eval (.tmp 6)=.pointer (some ⟨bm,0,none⟩):=(I.old (t:=6) (by kernel_rfl)).trans h6;have O:=D.ah4 (.inr (.inl rfl)) T;refine iN _ ?_ ⟨γ,fun _ _=>rfl,rfl,D.cd E (by decide)⟩;have q:=ag8 w' bm y (hbm.below (D.pre O) hbm.lt);simp[execOp,H,B,q,Result.andThen,oy]
  ·obtain⟨L,G,H,N⟩:=PF
   obtain rfl:=same G rfl;have B:a.eval (.tmp 64)=.agg y.cs:=(I.get J M (i:=5) (d:=64) (by kernel_rfl) rfl)
   have O:=D.ah4 (.inr (.inr rfl)) T;have q:=XL w' y;have Y:(execOp a.eval L).run Tryz.prog w'=.ok (.value (.slice (some ⟨w'.heap.size,0,none⟩) 1 1)) (w'.alloc (.cells y.cs 48)):=by simp[execOp,H,B,q,Result.andThen]
   unfold Oper.wp;rw[Y,Oper.upon_value];have R:(listed.setIfInBounds 6 true).getD 7 false=listed.getD 7 false:=by rw[ai E,if_neg (by decide)]
   have V:(listed.setIfInBounds 6 true).getD 10 false=listed.getD 10 false:=by rw[ai E,if_neg (by decide)]
   refine⟨{γ with gb:=w'.heap.size},fun i hi=>Pw _ _ _ _ _ _ (m i hi),rfl,⟨fun _=>(D.pre O).alloc (D.pre O).size _,fun _ _=>au.new w' _ _,fun A=>?_,fun A=>?_,fun A=>?_,fun _=>(by rw[ai E,if_neg (by decide)];exact o9 J M (by kernel_rfl)),fun A=>?_⟩⟩
   ·rw[R,O]at A;cases A
   ·rw[V]at A;have:=D.XM A;rw[O]at this;cases this
   ·rw[R,O]at A;cases A
   ·rw[V]at A;have:=D.XM A;rw[O]at this;cases this
  ·obtain⟨L,G,H,N⟩:=PG
   obtain rfl:=same G rfl;have B:a.eval (.tmp 63)=v:=(I.get J M (i:=4) (d:=63) (by kernel_rfl) rfl)
   have W:a.eval (.tmp 65)=.slice (some ⟨γ.gb,0,none⟩) 1 1:=(I.get J M (i:=6) (d:=65) (by kernel_rfl) rfl)
   have b:listed.getD 6 false=true:=o9 J M (by kernel_rfl);have X:=D.pre T;have Ox:=D.bs b T;have l4:listed.getD 4 false=true:=o9 J M (by kernel_rfl)
   have n10:listed.getD 10 false=false:=by
    cases A:listed.getD 10 false with
    |false=>rfl
    |true=>have:=D.XM A;rw[T]at this;cases this
   have V:(listed.setIfInBounds 7 true).getD 10 false=false:=by rw[ai E,if_neg (by decide)];exact n10
   have R:(listed.setIfInBounds 7 true).getD 7 false=true:=by rw[ai E,if_pos rfl]
   refine zO _ _ H base v xs B (iD bM X) γ.gb 1 y W Ox OL (Nat.le_trans jx X.size) (fun v' w2 h1 h2 h3=>⟨{γ with va:=v'},fun i hi=>Px _ _ _ _ _ _ (m i hi),rfl,⟨fun A=>?_,fun _ A=>?_,fun _ _=>⟨w',X,h1,h2,h3⟩,fun A=>?_,fun _=>⟨?_,?_⟩,fun _=>?_,fun A=>?_⟩⟩)
   ·rw[R]at A;cases A
   ·rw[R]at A;cases A
   ·rw[V]at A;cases A
   ·rw[ai E,if_neg (by decide)];exact l4
   ·rw[ai E,if_neg (by decide)];exact b
   ·rw[ai E,if_neg (by decide)];exact D.c6 b
   ·rw[V]at A;cases A
  ·obtain⟨L,G,H,N⟩:=PH
   obtain rfl:=same G rfl;have B:a.eval (.tmp 59)=.pointer (some ⟨r,0,none⟩):=(I.get J M (i:=0) (d:=59) (by kernel_rfl) rfl)
   refine iN _ ?_ ⟨γ,fun _ _=>rfl,rfl,D.cd E (by decide)⟩;generalize a.eval=ev at B⊢;simp[go_sem,execOp,H,B,oy]
  ·obtain⟨L,G,H,N⟩:=PI
   obtain rfl:=same G rfl;have B:a.eval (.tmp 67)=.pointer (some ⟨r,0,none⟩):=(I.get J M (i:=8) (d:=67) (by kernel_rfl) rfl)
   refine iN _ ?_ ⟨γ,fun _ _=>rfl,rfl,D.cd E (by decide)⟩;generalize a.eval=ev at B⊢;simp[go_sem,execOp,H,B,oy]
  ·obtain⟨L,G,H,N⟩:=Lc
   obtain rfl:=same G rfl;have B:a.eval (.tmp 68)=.pointer (some ⟨r,3,none⟩):=(I.get J M (i:=9) (d:=68) (by kernel_rfl) rfl)
   have W:a.eval (.tmp 66)=γ.va:=(I.get J M (i:=7) (d:=66) (by kernel_rfl) rfl)
   have f:listed.getD 7 false=true:=o9 J M (by kernel_rfl);have hA:=D.ap f T;obtain⟨wA,g1,g2,g3,g4⟩:=hA;have g:au w' r 91 cs:=(g3.block r (hbr.below g1 hbr.lt).lt (fun e=>GN e.symm)).trans (hbr.below g1 hbr.lt);have c0:=g.cell 3;rw[Co]at c0;have f0:=g.frozen 3
   obtain⟨pv,lv,cv,Z⟩:∃p l c,γ.va=.slice p l c:=by
    rcases g2.2 with⟨h,_⟩|⟨_,_,_,h,_⟩
    ·exact⟨_,_,_,h⟩
    ·exact⟨_,_,_,h⟩
   have Y:(execOp a.eval L).run Tryz.prog w'=.ok .skip (w'.setCell ⟨r,3,none⟩ γ.va):=by
    rw[Z]at W⊢;generalize a.eval=ev at B W⊢;simp[go_sem,execOp,H,B,W,c0,f0,Result.andThen]
   unfold Oper.wp;rw[Y,Oper.upon_skip];have R:(listed.setIfInBounds 10 true).getD 7 false=true:=by rw[ai E,if_neg (by decide)];exact f
   have V:(listed.setIfInBounds 10 true).getD 10 false=true:=by rw[ai E,if_pos rfl]
   refine⟨γ,fun _ _=>rfl,rfl,⟨fun A=>?_,fun _ A=>?_,fun _ A=>?_,fun _=>⟨w',⟨wA,g1,g2,g3,g4⟩,rfl⟩,fun _=>?_,fun A=>?_,fun _=>R⟩⟩
   ·rw[R]at A;cases A
   ·rw[R]at A;cases A
   ·rw[V]at A;cases A
   ·obtain⟨k4,k6⟩:=D.c7 f
    exact⟨by rw[ai E,if_neg (by decide)];exact k4,by rw[ai E,if_neg (by decide)];exact k6⟩
   ·rw[ai E,if_neg (by decide)]at A⊢;exact D.c6 A
 ·intro γ listed a w' I U
  have all:∀j,j<11→listed.getD j false=true:=fun j u=>U j (by rw[wN];exact u)
  obtain⟨wB,hA,rfl⟩:=I.wd.st (all 10 (by omega));rw[xX 73 zV hsz I U,wN];simp only[nS,K0,K3,K4,K5,K6,K7,K8,K9,La,Lb,IE,Di,oy];exact hQ γ wB hA
 ·exact⟨fun _=>(Below.refl _ _).drew,fun A=>(by rw[no]at A;cases A),fun A=>(by rw[no]at A;cases A),fun A=>(by rw[no]at A;cases A),fun A=>(by rw[no]at A;cases A),fun A=>(by rw[no]at A;cases A),fun A=>(by rw[no]at A;cases A)⟩
end Mem
namespace Mem
open Mk Block Hp Head Attr Path Go.Shelf
section
variable {w0 w w':World} {K:RK} {a:Nat} {s:RS} {mb:Option Nat} {v:Value} {xs:List MP} {q:Option Addr} {n c:Nat}
theorem TG (hr:Rd w0 w K a s mb v xs q n c) (h:af) (hf:s.out.length=4096):
 Calls Tryz.prog 76 #[.pointer (some ⟨K.r,0,none⟩),.agg (aa h)] w fun e w'=>e=.returned (.int .i64 10)∧Below w0.heap.size w0 w':=by
 obtain⟨vp,R,I,_,_,_⟩:=oN hr.row hr.bodies;subst I;have A:xs.length=s.out.length:=by have:=congrArg List.length hr.out;simpa using this
 obtain⟨W1,E⟩:∃W1,w.alloc (.cells (aa h) 66)=W1:=⟨_,rfl⟩
 have D:Below w.heap.size w W1:=by rw[←E];exact(Below.refl _ w).alloc (Qk _) _
 have G:au W1 w.heap.size 66 (aa h):=by rw[←E];exact au.new w _ _
 have B:=hr.below D;have J:=B.c3;have L:=Qh hr;have N:=Qh D;have O:=Qh G;have H:=Qh B;have M:=Qh A;clear hr D G B;rw[hf]at A;rw[A]at J;clear A
 go_enter Tryz.func76,Tryz.ntmps76
 go_upto_region 1 with fail
 clear E;go_wp2;go_ret;exact⟨rfl,H.out.bel⟩
theorem XH (hr:Rd w0 w K a s mb v xs q n c) (h:af) (hf:s.out.length<4096) (hk:oM h.kind=false):
 Calls Tryz.prog 76 #[.pointer (some ⟨K.r,0,none⟩),.agg (aa h)] w fun e w'=>e=.returned (.int .i64 8)∧Below w0.heap.size w0 w':=by
 obtain⟨vp,U,J,_,_,_⟩:=oN hr.row hr.bodies;subst J;have A:xs.length=s.out.length:=by have:=congrArg List.length hr.out;simpa using this
 obtain⟨W1,E⟩:∃W1,w.alloc (.cells (aa h) 66)=W1:=⟨_,rfl⟩
 have D:Below w.heap.size w W1:=by rw[←E];exact(Below.refl _ w).alloc (Qk _) _
 have H:au W1 w.heap.size 66 (aa h):=by rw[←E];exact au.new w _ _
 have B:=hr.below D;have W:=B.c3;have N:=Qh hr;have T:=Qh D;have M:=Qh H;have I:=Qh B;have O:=Qh A;clear hr D H B;have R:((xs.length:Int)==4096)=false:=by rw[A];simpa using (by omega:¬(s.out.length:Int)=4096)
 clear A;have L:=M.out.cell 2;simp only[aa,Qc,Qa,Qb]at L;have G:=qF h.kind W1;rw[hk]at G
 go_enter Tryz.func76,Tryz.ntmps76
 go_upto_region 1 with fail
 clear E;go_wp2_with fail;refine G.mono ?_;rintro e V ⟨rfl,rfl⟩;go_wp2;go_ret;exact⟨rfl,I.out.bel⟩
theorem IF (hr:Rd w0 w K a s mb v xs q n c) (h:af) (hf:s.out.length<4096) (hk:oM h.kind=true) (KH:(cC (aD s.bE) s.own (kR h s)).2≠0):
 Calls Tryz.prog 76 #[.pointer (some ⟨K.r,0,none⟩),.agg (aa h)] w fun e w'=>e=.returned (.int .i64 (cC (aD s.bE) s.own (kR h s)).2)∧Below w0.heap.size w0 w':=by
 obtain⟨vp,X,l,_,_,_⟩:=oN hr.row hr.bodies;subst l;have E:xs.length=s.out.length:=by have:=congrArg List.length hr.out;simpa using this
 obtain⟨W1,M⟩:∃W1,w.alloc (.cells (aa h) 66)=W1:=⟨_,rfl⟩
 have L:Below w.heap.size w W1:=by rw[←M];exact(Below.refl _ w).alloc (Qk _) _
 have Y:au W1 w.heap.size 66 (aa h):=by rw[←M];exact au.new w _ _
 have G:=hr.below L;have o:=G.c3;have B:=Qh hr;have m:=Qh L;have W:=Qh Y;have z:=Qh G;have u:=Qh E;clear hr L Y G;have y:((xs.length:Int)==4096)=false:=by rw[E];simpa using (by omega:¬(s.out.length:Int)=4096)
 clear E;have V:=W.out.cell 2;simp only[aa,Qc,Qa,Qb]at V;have U:=qF h.kind W1;rw[hk]at U;obtain⟨⟨O,on,N⟩,I⟩:∃x,Hg s q n c=x:=⟨_,rfl⟩
 obtain⟨⟨T,J⟩,H⟩:∃x,cC (aD s.bE) s.own (kR h s)=x:=⟨_,rfl⟩
 have b:Hid (∀wi,Rd w0 wi K a s mb (.slice vp xs.length X) xs q n c→((wi.cell? ⟨K.r,1,none⟩=some (.pointer (some ⟨K.gs,0,none⟩))∧wi.cell? ⟨K.r,2,none⟩=some (.map (some K.mw)))∧(Instr.lookup 89 (.map (some K.mw)) (.int .u8 120) false).run Tryz.prog wi=.ok (.agg #[.string ⟨#[]⟩,.slice O on N]) wi)):=
  Qh (fun wi hi=>⟨⟨hi.c1,hi.c2⟩,BC hi.map I⟩)
 have d:Hid (∀wi,Rd w0 wi K a s mb (.slice vp xs.length X) xs q n c→Calls Tryz.prog 112 #[.pointer (some ⟨K.gs,0,none⟩),.agg (aa (kR h s)),.slice O on N] wi fun e w'=>e=.returned (.tuple #[.agg (aa T),.int .i64 J])∧Below wi.heap.size wi w'):=
  Qh (fun wi hi=>by have:=xP h hi I (kR h s);rw[H]at this;exact this)
 have f:=Qh H;clear I H;rw[f.out]at KH⊢;simp only at KH⊢;have g:(J != 0)=true:=by simpa using KH
 clear KH
 go_enter Tryz.func76,Tryz.ntmps76
 go_upto_region 1 with fail
 clear M;go_wp2_with fail;refine U.mono ?_;rintro e w1 ⟨rfl,rfl⟩;go_upto_region 5 with fail;refine wp_region_any (by kernel_rfl) (rI (w:=w) (w1:=W1) K.r K.gs K.mw w.heap.size h (kR h s) O on N T J (show 73≤73 from Qk 73) rfl rfl (Qk _) m.out W.out (fun wi A=>b.out wi (B.out.below A)) (fun wi A=>rU h (B.out.below A)) (fun wi A=>d.out wi (B.out.below A)) ?_);intro W5 D R;have p:=Qh D;have t:=Qh R;have Z:=Qh (B.out.below D);clear D R V o;simp only[Exit.then]
 apply_assumption
 go_wp2;go_ret;exact⟨rfl,Z.out.bel⟩
theorem Lm (hr:Rd w0 w K a s mb v xs q n c) (h:af) (hf:s.out.length<4096) (hk:oM h.kind=true) (hN:Need w0) (h0:0≤h.size) (h1:h.name.length≤1048576) (h2:h.link.length≤1048576) (ah:af) (KH:cC (aD s.bE) s.own (kR h s)=(ah,0)) (A7:(j6 ah).2≠0):
 Calls Tryz.prog 76 #[.pointer (some ⟨K.r,0,none⟩),.agg (aa h)] w fun e w'=>e=.returned (.int .i64 (j6 ah).2)∧Below w0.heap.size w0 w':=by
 obtain⟨vp,t,hv,_,_,_⟩:=oN hr.row hr.bodies;subst hv;have L:xs.length=s.out.length:=by have:=congrArg List.length hr.out;simpa using this
 obtain⟨W1,V⟩:∃W1,w.alloc (.cells (aa h) 66)=W1:=⟨_,rfl⟩
 have U:Below w.heap.size w W1:=by rw[←V];exact(Below.refl _ w).alloc (Qk _) _
 have y:au W1 w.heap.size 66 (aa h):=by rw[←V];exact au.new w _ _
 have M:=hr.below U;have x3:=M.c3;have D:=Qh hr;have iA:=Qh U;have p:=Qh y;have SF:=Qh M;have Ix:=Qh L;clear hr U y M;have Md:((xs.length:Int)==4096)=false:=by rw[L];simpa using (by omega:¬(s.out.length:Int)=4096)
 clear L;have o:=p.out.cell 2;simp only[aa,Qc,Qa,Qb]at o;have l:=qF h.kind W1;rw[hk]at l;obtain⟨⟨X,on,W⟩,O⟩:∃x,Hg s q n c=x:=⟨_,rfl⟩
 have NY:Hid (∀wi,Rd w0 wi K a s mb (.slice vp xs.length t) xs q n c→((wi.cell? ⟨K.r,1,none⟩=some (.pointer (some ⟨K.gs,0,none⟩))∧wi.cell? ⟨K.r,2,none⟩=some (.map (some K.mw)))∧(Instr.lookup 89 (.map (some K.mw)) (.int .u8 120) false).run Tryz.prog wi=.ok (.agg #[.string ⟨#[]⟩,.slice X on W]) wi)):=
  Qh (fun wi hi=>⟨⟨hi.c1,hi.c2⟩,BC hi.map O⟩)
 have Wv:Hid (∀wi,Rd w0 wi K a s mb (.slice vp xs.length t) xs q n c→Calls Tryz.prog 112 #[.pointer (some ⟨K.gs,0,none⟩),.agg (aa (kR h s)),.slice X on W] wi fun e w'=>e=.returned (.tuple #[.agg (aa ah),.int .i64 0])∧Below wi.heap.size wi w'):=
  Qh (fun wi hi=>by have:=xP h hi O (kR h s);rw[KH]at this;exact this)
 have Xs:=Qh KH;clear O KH
 have sU:Hid (0≤ah.size∧ah.name.length≤1048576∧ah.link.length≤1048576):=Qh (by
  have:=xO h D.out h0 h1 h2;rw[Xs.out]at this
  exact this)
 have vy:=Qh hN;clear hN h0 h1 h2;obtain⟨⟨A,m⟩,H⟩:∃x,j6 ah=x:=⟨_,rfl⟩
 have R:A.body=[]:=by have:=tt ah;rw[H]at this;exact this
 have N:Hid (∀wi,Tabs wi→Calls Tryz.prog 80 #[.agg (aa ah)] wi fun e w'=>e=.returned (.tuple #[.agg #[.string (str A.path),.string (str A.target),.int .u8 (A.kind.toNat:Int),.int .i64 A.mode,.int .i64 A.uid,.int .i64 A.gid,.int .i64 A.time,.slice none 0 0],.int .i64 m])∧Below wi.heap.size wi w'):=
  Qh (fun wi hT=>by
   obtain⟨_,b1,b2⟩:=sU.out;have:=qu ah wi (by omega) (by omega) hT;rw[H]at this;unfold jB at this;simp only[R,List.length_nil]at this
   exact this)
 have Zl:=Qh H;have z:=Qh R;clear H R;rw[Zl.out]at A7⊢;simp only at A7⊢;have hnz:(m != 0)=true:=by simpa using A7
 clear A7
 go_enter Tryz.func76,Tryz.ntmps76
 go_upto_region 1 with fail
 clear V;go_wp2_with fail;refine l.mono ?_;rintro e w1 ⟨rfl,rfl⟩;go_upto_region 5 with fail;refine wp_region_any (by kernel_rfl) (rI (w:=w) (w1:=W1) K.r K.gs K.mw w.heap.size h (kR h s) X on W ah 0 (show 73≤73 from Qk 73) rfl rfl (Qk _) iA.out p.out (fun wi E=>NY.out wi (D.out.below E)) (fun wi E=>rU h (D.out.below E)) (fun wi E=>Wv.out wi (D.out.below E)) ?_);intro W5 J Z;have AU:=Qh J;have G:=Qh Z;have b:=Qh (D.out.below J);clear J Z o x3;simp only[Exit.then]
 apply_assumption
 have B:=G.out;have c0:=B.cell 0;have c1:=B.cell 1;have c2:=B.cell 2;have c3:=B.cell 3;have f:=B.cell 4;have c5:=B.cell 5;have c6:=B.cell 6;have c7:=B.cell 7;have g:=B.cell 8;simp only[aa,Qc,Qa,Qb]at c0 c1 c2 c3 f c5 c6 c7 g;clear B;go_wp2_with fail;refine(N.out _ (b.out.CY vy.out).Hy).mono ?_;rintro e u ⟨rfl,I⟩;have T:=I.alloc I.size (.cells #[.string (str A.path),.string (str A.target),.int .u8 (A.kind.toNat:Int),.int .i64 A.mode,.int .i64 A.uid,.int .i64 A.gid,.int .i64 A.time,.slice none 0 0] 48);have Y:=au.new u 48 #[.string (str A.path),.string (str A.target),.int .u8 (A.kind.toNat:Int),.int .i64 A.mode,.int .i64 A.uid,.int .i64 A.gid,.int .i64 A.time,.slice none 0 0];have d:w.heap.size<u.heap.size:=Nat.lt_of_lt_of_le G.out.lt I.size;have Pr:=Qh (G.out.below T G.out.lt);have Tl:=Qh (b.out.below T);have BR:=Qh Y;have WC:=Qh d;clear I T Y d c0 c1 c2 c3 f c5 c6 c7 g;go_wp2;go_ret;exact⟨rfl,Tl.out.bel⟩
end
end Mem
end Go.Proofs.YtdhibldkldlfpaaGreatDoor
