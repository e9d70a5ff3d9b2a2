/- Merged. -/
import Derived.Test.YtdhibldkldlfpaaGreatDoorEmitLeastX33
import Derived.Test.YtdhibldkldlfpaaGreatDoorEmitLeastX18
namespace Go.Proofs.YtdhibldkldlfpaaGreatDoor
set_option linter.unusedVariables false
set_option maxHeartbeats 8000000
set_option maxRecDepth 100000
open Go.ChangeShapes Go.WideShapes Go.ChangeAt Go.RowKit Base bJ cn Rec Bk Hp Head Go.Lib
variable {listed:Array Bool} {j:Nat} {w w' w1:World}
namespace Attr
open Go.Shelf
variable {g:Nat} {wi wj:World} {h:ak}
theorem km {fn:Func} (hf:fn.results=#[.cell 6 66,.tmp 7]) (tmps:Array Value) (w:World) (g:Nat) (v:Value) (ht:tmps.getD 6 undef=.pointer (some ⟨g,0,none⟩)) (hv:tmps.getD 7 undef=v)
 (h:ak) (hb:ao w g 66 (aa h)):(results fn tmps).run Tryz.prog w=.ok (.tuple #[.agg (aa h),v]) w:=by
 rw[results_cell_tmp hf,ht,hv];have hl:=mP w g _ _ _ _ _ _ _ _ _ hb;simp only[asAddr,Sem.run_pure,hl,Result.andThen];rfl
theorem lG (hb:ao w g 66 (aa h)) (a0 a1 a2 a3 a4 a5 a6 a7 a8:Value):
 ao (((((((((w.setCell ⟨g,0,none⟩ a0).setCell ⟨g,1,none⟩ a1).setCell ⟨g,2,none⟩ a2).setCell ⟨g,3,none⟩ a3).setCell ⟨g,4,none⟩ a4).setCell ⟨g,5,none⟩ a5).setCell ⟨g,6,none⟩ a6).setCell ⟨g,7,none⟩ a7).setCell ⟨g,8,none⟩ a8) g 66 #[a0,a1,a2,a3,a4,a5,a6,a7,a8]:=
 ((((((((hb.set 0 a0 (by show 0<9;decide)).set 1 a1 (by show 1<9;decide)).set 2 a2 (by show 2<9;decide)).set 3 a3 (by show 3<9;decide)).set 4 a4 (by show 4<9;decide)).set 5 a5 (by show 5<9;decide)).set 6 a6 (by show 6<9;decide)).set 7 a7 (by show 7<9;decide)).set 8 a8 (by show 8<9;decide)
theorem dC (hk:Below w.heap.size w w') (hg:w.heap.size≤g) (a0 a1 a2 a3 a4 a5 a6 a7 a8:Value):
 Below w.heap.size w (((((((((w'.setCell ⟨g,0,none⟩ a0).setCell ⟨g,1,none⟩ a1).setCell ⟨g,2,none⟩ a2).setCell ⟨g,3,none⟩ a3).setCell ⟨g,4,none⟩ a4).setCell ⟨g,5,none⟩ a5).setCell ⟨g,6,none⟩ a6).setCell ⟨g,7,none⟩ a7).setCell ⟨g,8,none⟩ a8):=
 (((((((((hk.setCell (p:=⟨g,0,none⟩) hg a0).setCell (p:=⟨g,1,none⟩) hg a1).setCell (p:=⟨g,2,none⟩) hg a2).setCell (p:=⟨g,3,none⟩) hg a3).setCell (p:=⟨g,4,none⟩) hg a4).setCell (p:=⟨g,5,none⟩) hg a5).setCell (p:=⟨g,6,none⟩) hg a6).setCell (p:=⟨g,7,none⟩) hg a7).setCell (p:=⟨g,8,none⟩) hg a8)
def rz (w wi:World) (h:ak):Prop:=Below w.heap.size w wi∧ao wi w.heap.size 66 (aa h)∧ao wi (w.heap.size+1) 66 (aa bG)
theorem rz.below (hm:rz w wi h) (hb:Below wi.heap.size wi wj):rz w wj h:=
 ⟨hm.1.trans (hb.mono hm.1.size),hm.2.1.below hb hm.2.1.lt,hm.2.2.below hb hm.2.2.lt⟩
theorem rz.put {h':ak} (hm:rz w wi h) (hk:Kept (aA w.heap.size) wi wj) (hb:ao wj w.heap.size 66 (aa h')):rz w wj h':=
 ⟨hm.1.trans (hk.below hm.1.size (fun k hk=>by have:k=w.heap.size:=hk;omega)),hb,hm.2.2.bW hk (fun e=>by have:w.heap.size+1=w.heap.size:=e;omega)⟩
theorem Gd (s:Option Addr) (F:rV) (h:ak) (p:Option Addr) (n c:Nat) (rs:ca) (w:World) (hs:OL w s F) (hn:n≤4611686018427387904) (hr:cd w p n rs)
 (hl:∀i,i<6→(eb F rs (aI i)).length≤140737488351232):
 Calls Tryz.prog 112 #[.pointer s,.agg (aa h),.slice p n c] w fun e w'=>e=.returned (j8 (cA F rs h))∧Below w.heap.size w w':=by
 obtain⟨V,hV⟩:∃V:Nat→List UInt8,V=fun i=>eb F rs (aI i):=⟨_,rfl⟩
 have G:Hid (∀(i:Nat) (wi:World),Below w.heap.size w wi→Calls Tryz.prog 144 #[.pointer s,.string (str (aI i)),.slice p n c] wi fun e w'=>e=.returned (.string (str (V i)))∧Below wi.heap.size wi w'):=
  Qh (fun i wi A=>by rw[hV];exact IQ s F (aI i) p n c rs wi (hs.below A) hn (hr.below A))
 have W:Hid (∀i,i<6→(V i).length≤140737488351232):=Qh (by rw[hV];exact hl);rw[show cA F rs h=eT V h by rw[hV];rfl];clear hl hs hr hn hV;obtain⟨U,hU⟩:∃U:ak × Int,eT V h=U:=⟨_,rfl⟩
 rw[hU];have HU:=Qh hU;clear hU;simp only[aa];obtain⟨o0,VD⟩:∃o,eh false (V 0) h.uid=o:=⟨_,rfl⟩
 cases o0 with
 |none=>
  have X:=Qh VD;clear VD
  go_enter Tryz.func112,Tryz.ntmps112
  go_wp2_with fail
  have L:Hid (rz w ((w.alloc (.cells (aa h) 66)).alloc (.cells (aa bG) 66)) h):=by
   have D:=ao.new (w.alloc (.cells (aa h) 66)) 66 (aa bG);rw[World.size_alloc]at D;exact Qh ⟨((Below.refl _ w).alloc (Qk _) _).alloc (by simp) _,(ao.new w 66 (aa h)).alloc _,D⟩
  refine(G.out 4 _ L.out.1).mono ?_;rintro e w1 ⟨rfl,A⟩;have M:=Qh (L.out.below A);clear A L;go_wp2_with fail;refine(bV (V 4) _ 0 _ (aa h) h.name w1 M.out.2.1 (by show 0<9;decide) rfl).mono ?_;rintro e w2 ⟨rfl,A,hk⟩;have H:=Qh (M.out.put (h':={h with name:=aE (V 4) h.name}) hk A);clear A hk M;go_wp2_with fail;refine(G.out 5 _ H.out.1).mono ?_;rintro e w3 ⟨rfl,A⟩;have I:=Qh (H.out.below A);clear A H;go_wp2_with fail;refine(bV (V 5) _ 1 _ _ h.link w3 I.out.2.1 (by show 1<9;decide) rfl).mono ?_;rintro e w4 ⟨rfl,A,hk⟩;have N:=Qh (I.out.put (h':={h with name:=aE (V 4) h.name,link:=aE (V 5) h.link}) hk A);clear A hk I;go_wp2_with fail;refine(G.out 0 _ N.out.1).mono ?_;rintro e w5 ⟨rfl,A⟩;have J:=Qh (N.out.below A);clear A N;go_wp2_with fail;refine(aP false (V 0) (W.out 0 (by omega)) _ 4 _ _ h.uid w5 J.out.2.1 (by show 4<9;decide) rfl).mono ?_;rw[X.out];rintro e w6 ⟨rfl,A,hk⟩;have O:=Qh (J.out.put (h':={h with name:=aE (V 4) h.name,link:=aE (V 5) h.link,uid:=0}) hk A);clear A hk J;have B:=O.out.2.2;have d:=B.cell 0;have f:=B.cell 1;have l:=B.cell 2;have m:=B.cell 3;have q:=B.cell 4;have r:=B.cell 5;have y:=B.cell 6;have r7:=B.cell 7;have r8:=B.cell 8;have f0:=B.frozen 0;have f1:=B.frozen 1;have f2:=B.frozen 2;have f3:=B.frozen 3;have f4:=B.frozen 4;have f5:=B.frozen 5;have f6:=B.frozen 6;have f7:=B.frozen 7;have f8:=B.frozen 8;simp only[aa,bG,Qc,Qa,Qb]at d f l m q r y r7 r8;clear B;have E:Hid (U=(bG,4)):=Qh (by rw[←HU.out];unfold eT;simp only[X.out]);go_wp2;refine bodyPost_ret (km rfl _ _ (w.heap.size+1) _ rfl rfl bG (lG O.out.2.2 _ _ _ _ _ _ _ _ _)) rfl ?_;exact⟨by rw[E.out];rfl,dC O.out.1 (by omega) _ _ _ _ _ _ _ _ _⟩
 |some u=>
  have X:=Qh VD;clear VD;obtain⟨o1,GZ⟩:∃o,eh false (V 1) h.gid=o:=⟨_,rfl⟩
  cases o1 with
  |none=>
   have b:=Qh GZ;clear GZ
   go_enter Tryz.func112,Tryz.ntmps112
   go_wp2_with fail
   have L:Hid (rz w ((w.alloc (.cells (aa h) 66)).alloc (.cells (aa bG) 66)) h):=by
    have D:=ao.new (w.alloc (.cells (aa h) 66)) 66 (aa bG);rw[World.size_alloc]at D;exact Qh ⟨((Below.refl _ w).alloc (Qk _) _).alloc (by simp) _,(ao.new w 66 (aa h)).alloc _,D⟩
   refine(G.out 4 _ L.out.1).mono ?_;rintro e w1 ⟨rfl,A⟩;have M:=Qh (L.out.below A);clear A L;go_wp2_with fail;refine(bV (V 4) _ 0 _ (aa h) h.name w1 M.out.2.1 (by show 0<9;decide) rfl).mono ?_;rintro e w2 ⟨rfl,A,hk⟩;have H:=Qh (M.out.put (h':={h with name:=aE (V 4) h.name}) hk A);clear A hk M;go_wp2_with fail;refine(G.out 5 _ H.out.1).mono ?_;rintro e w3 ⟨rfl,A⟩;have I:=Qh (H.out.below A);clear A H;go_wp2_with fail;refine(bV (V 5) _ 1 _ _ h.link w3 I.out.2.1 (by show 1<9;decide) rfl).mono ?_;rintro e w4 ⟨rfl,A,hk⟩;have N:=Qh (I.out.put (h':={h with name:=aE (V 4) h.name,link:=aE (V 5) h.link}) hk A);clear A hk I;go_wp2_with fail;refine(G.out 0 _ N.out.1).mono ?_;rintro e w5 ⟨rfl,A⟩;have J:=Qh (N.out.below A);clear A N;go_wp2_with fail;refine(aP false (V 0) (W.out 0 (by omega)) _ 4 _ _ h.uid w5 J.out.2.1 (by show 4<9;decide) rfl).mono ?_;rw[X.out];rintro e w6 ⟨rfl,A,hk⟩;have O:=Qh (J.out.put (h':={h with name:=aE (V 4) h.name,link:=aE (V 5) h.link,uid:=u}) hk A);clear A hk J;go_wp2_with fail;refine(G.out 1 _ O.out.1).mono ?_;rintro e w7 ⟨rfl,A⟩;have R:=Qh (O.out.below A);clear A O;go_wp2_with fail;refine(aP false (V 1) (W.out 1 (by omega)) _ 5 _ _ h.gid w7 R.out.2.1 (by show 5<9;decide) rfl).mono ?_;rw[b.out];rintro e w8 ⟨rfl,A,hk⟩;have T:=Qh (R.out.put (h':={h with name:=aE (V 4) h.name,link:=aE (V 5) h.link,uid:=u,gid:=0}) hk A);clear A hk R;have B:=T.out.2.2;have d:=B.cell 0;have f:=B.cell 1;have l:=B.cell 2;have m:=B.cell 3;have q:=B.cell 4;have r:=B.cell 5;have y:=B.cell 6;have r7:=B.cell 7;have r8:=B.cell 8;have f0:=B.frozen 0;have f1:=B.frozen 1;have f2:=B.frozen 2;have f3:=B.frozen 3;have f4:=B.frozen 4;have f5:=B.frozen 5;have f6:=B.frozen 6;have f7:=B.frozen 7;have f8:=B.frozen 8;simp only[aa,bG,Qc,Qa,Qb]at d f l m q r y r7 r8;clear B;have E:Hid (U=(bG,4)):=Qh (by rw[←HU.out];unfold eT;simp only[X.out,b.out]);go_wp2;refine bodyPost_ret (km rfl _ _ (w.heap.size+1) _ rfl rfl bG (lG T.out.2.2 _ _ _ _ _ _ _ _ _)) rfl ?_;exact⟨by rw[E.out];rfl,dC T.out.1 (by omega) _ _ _ _ _ _ _ _ _⟩
  |some g=>
   have b:=Qh GZ;clear GZ;obtain⟨o2,Kx⟩:∃o,eh true (V 2) h.time=o:=⟨_,rfl⟩
   cases o2 with
   |none=>
    have N2:=Qh Kx;clear Kx
    go_enter Tryz.func112,Tryz.ntmps112
    go_wp2_with fail
    have L:Hid (rz w ((w.alloc (.cells (aa h) 66)).alloc (.cells (aa bG) 66)) h):=by
     have D:=ao.new (w.alloc (.cells (aa h) 66)) 66 (aa bG);rw[World.size_alloc]at D;exact Qh ⟨((Below.refl _ w).alloc (Qk _) _).alloc (by simp) _,(ao.new w 66 (aa h)).alloc _,D⟩
    refine(G.out 4 _ L.out.1).mono ?_;rintro e w1 ⟨rfl,A⟩;have M:=Qh (L.out.below A);clear A L;go_wp2_with fail;refine(bV (V 4) _ 0 _ (aa h) h.name w1 M.out.2.1 (by show 0<9;decide) rfl).mono ?_;rintro e w2 ⟨rfl,A,hk⟩;have H:=Qh (M.out.put (h':={h with name:=aE (V 4) h.name}) hk A);clear A hk M;go_wp2_with fail;refine(G.out 5 _ H.out.1).mono ?_;rintro e w3 ⟨rfl,A⟩;have I:=Qh (H.out.below A);clear A H;go_wp2_with fail;refine(bV (V 5) _ 1 _ _ h.link w3 I.out.2.1 (by show 1<9;decide) rfl).mono ?_;rintro e w4 ⟨rfl,A,hk⟩;have N:=Qh (I.out.put (h':={h with name:=aE (V 4) h.name,link:=aE (V 5) h.link}) hk A);clear A hk I;go_wp2_with fail;refine(G.out 0 _ N.out.1).mono ?_;rintro e w5 ⟨rfl,A⟩;have J:=Qh (N.out.below A);clear A N;go_wp2_with fail;refine(aP false (V 0) (W.out 0 (by omega)) _ 4 _ _ h.uid w5 J.out.2.1 (by show 4<9;decide) rfl).mono ?_;rw[X.out];rintro e w6 ⟨rfl,A,hk⟩;have O:=Qh (J.out.put (h':={h with name:=aE (V 4) h.name,link:=aE (V 5) h.link,uid:=u}) hk A);clear A hk J;go_wp2_with fail;refine(G.out 1 _ O.out.1).mono ?_;rintro e w7 ⟨rfl,A⟩;have R:=Qh (O.out.below A);clear A O;go_wp2_with fail;refine(aP false (V 1) (W.out 1 (by omega)) _ 5 _ _ h.gid w7 R.out.2.1 (by show 5<9;decide) rfl).mono ?_;rw[b.out];rintro e w8 ⟨rfl,A,hk⟩;have T:=Qh (R.out.put (h':={h with name:=aE (V 4) h.name,link:=aE (V 5) h.link,uid:=u,gid:=g}) hk A);clear A hk R;go_wp2_with fail;refine(G.out 2 _ T.out.1).mono ?_;rintro e w9 ⟨rfl,A⟩;have Z:=Qh (T.out.below A);clear A T;go_wp2_with fail
    refine(aP true (V 2) (W.out 2 (by omega)) _ 6 _ _ h.time w9 Z.out.2.1 (by show 6<9;decide) rfl).mono ?_;rw[N2.out];rintro e RB ⟨rfl,A,hk⟩;have Y:=Qh (Z.out.put (h':={h with name:=aE (V 4) h.name,link:=aE (V 5) h.link,uid:=u,gid:=g,time:=0}) hk A);clear A hk Z;have B:=Y.out.2.2;have d:=B.cell 0;have f:=B.cell 1;have l:=B.cell 2;have m:=B.cell 3;have q:=B.cell 4;have r:=B.cell 5;have y:=B.cell 6;have r7:=B.cell 7;have r8:=B.cell 8;have f0:=B.frozen 0;have f1:=B.frozen 1;have f2:=B.frozen 2;have f3:=B.frozen 3;have f4:=B.frozen 4;have f5:=B.frozen 5;have f6:=B.frozen 6;have f7:=B.frozen 7;have f8:=B.frozen 8;simp only[aa,bG,Qc,Qa,Qb]at d f l m q r y r7 r8;clear B;have E:Hid (U=(bG,4)):=Qh (by rw[←HU.out];unfold eT;simp only[X.out,b.out,N2.out]);go_wp2;refine bodyPost_ret (km rfl _ _ (w.heap.size+1) _ rfl rfl bG (lG Y.out.2.2 _ _ _ _ _ _ _ _ _)) rfl ?_;exact⟨by rw[E.out];rfl,dC Y.out.1 (by omega) _ _ _ _ _ _ _ _ _⟩
   |some t=>
    have N2:=Qh Kx;clear Kx;obtain⟨o3,VE⟩:∃o,eh false (V 3) h.size=o:=⟨_,rfl⟩
    cases o3 with
    |none=>
     have N3:=Qh VE;clear VE
     go_enter Tryz.func112,Tryz.ntmps112
     go_wp2_with fail
     have L:Hid (rz w ((w.alloc (.cells (aa h) 66)).alloc (.cells (aa bG) 66)) h):=by
      have D:=ao.new (w.alloc (.cells (aa h) 66)) 66 (aa bG);rw[World.size_alloc]at D;exact Qh ⟨((Below.refl _ w).alloc (Qk _) _).alloc (by simp) _,(ao.new w 66 (aa h)).alloc _,D⟩
     refine(G.out 4 _ L.out.1).mono ?_;rintro e w1 ⟨rfl,A⟩;have M:=Qh (L.out.below A);clear A L;go_wp2_with fail;refine(bV (V 4) _ 0 _ (aa h) h.name w1 M.out.2.1 (by show 0<9;decide) rfl).mono ?_;rintro e w2 ⟨rfl,A,hk⟩;have H:=Qh (M.out.put (h':={h with name:=aE (V 4) h.name}) hk A);clear A hk M;go_wp2_with fail;refine(G.out 5 _ H.out.1).mono ?_;rintro e w3 ⟨rfl,A⟩;have I:=Qh (H.out.below A);clear A H;go_wp2_with fail;refine(bV (V 5) _ 1 _ _ h.link w3 I.out.2.1 (by show 1<9;decide) rfl).mono ?_;rintro e w4 ⟨rfl,A,hk⟩;have N:=Qh (I.out.put (h':={h with name:=aE (V 4) h.name,link:=aE (V 5) h.link}) hk A);clear A hk I;go_wp2_with fail;refine(G.out 0 _ N.out.1).mono ?_;rintro e w5 ⟨rfl,A⟩;have J:=Qh (N.out.below A);clear A N;go_wp2_with fail;refine(aP false (V 0) (W.out 0 (by omega)) _ 4 _ _ h.uid w5 J.out.2.1 (by show 4<9;decide) rfl).mono ?_;rw[X.out];rintro e w6 ⟨rfl,A,hk⟩;have O:=Qh (J.out.put (h':={h with name:=aE (V 4) h.name,link:=aE (V 5) h.link,uid:=u}) hk A);clear A hk J;go_wp2_with fail;refine(G.out 1 _ O.out.1).mono ?_;rintro e w7 ⟨rfl,A⟩;have R:=Qh (O.out.below A);clear A O;go_wp2_with fail;refine(aP false (V 1) (W.out 1 (by omega)) _ 5 _ _ h.gid w7 R.out.2.1 (by show 5<9;decide) rfl).mono ?_;rw[b.out];rintro e w8 ⟨rfl,A,hk⟩;have T:=Qh (R.out.put (h':={h with name:=aE (V 4) h.name,link:=aE (V 5) h.link,uid:=u,gid:=g}) hk A);clear A hk R;go_wp2_with fail;refine(G.out 2 _ T.out.1).mono ?_;rintro e w9 ⟨rfl,A⟩;have Z:=Qh (T.out.below A);clear A T;go_wp2_with fail
     refine(aP true (V 2) (W.out 2 (by omega)) _ 6 _ _ h.time w9 Z.out.2.1 (by show 6<9;decide) rfl).mono ?_;rw[N2.out];rintro e RB ⟨rfl,A,hk⟩;have Y:=Qh (Z.out.put (h':={h with name:=aE (V 4) h.name,link:=aE (V 5) h.link,uid:=u,gid:=g,time:=t}) hk A);clear A hk Z;go_wp2_with fail;refine(G.out 3 _ Y.out.1).mono ?_;rintro e Sq ⟨rfl,A⟩;have Bf:=Qh (Y.out.below A);clear A Y;go_wp2_with fail;refine(aP false (V 3) (W.out 3 (by omega)) _ 7 _ _ h.size Sq Bf.out.2.1 (by show 7<9;decide) rfl).mono ?_;rw[N3.out];rintro e w12 ⟨rfl,A,hk⟩;have yF:=Qh (Bf.out.put (h':={h with name:=aE (V 4) h.name,link:=aE (V 5) h.link,uid:=u,gid:=g,time:=t,size:=0}) hk A);clear A hk Bf;have B:=yF.out.2.2;have d:=B.cell 0;have f:=B.cell 1;have l:=B.cell 2;have m:=B.cell 3;have q:=B.cell 4;have r:=B.cell 5;have y:=B.cell 6;have r7:=B.cell 7;have r8:=B.cell 8;have f0:=B.frozen 0;have f1:=B.frozen 1;have f2:=B.frozen 2;have f3:=B.frozen 3;have f4:=B.frozen 4;have f5:=B.frozen 5;have f6:=B.frozen 6;have f7:=B.frozen 7;have f8:=B.frozen 8;simp only[aa,bG,Qc,Qa,Qb]at d f l m q r y r7 r8;clear B;have E:Hid (U=(bG,4)):=Qh (by rw[←HU.out];unfold eT;simp only[X.out,b.out,N2.out,N3.out]);go_wp2;refine bodyPost_ret (km rfl _ _ (w.heap.size+1) _ rfl rfl bG (lG yF.out.2.2 _ _ _ _ _ _ _ _ _)) rfl ?_;exact⟨by rw[E.out];rfl,dC yF.out.1 (by omega) _ _ _ _ _ _ _ _ _⟩
    |some z=>
     have N3:=Qh VE;clear VE
     go_enter Tryz.func112,Tryz.ntmps112
     go_wp2_with fail
     have L:Hid (rz w ((w.alloc (.cells (aa h) 66)).alloc (.cells (aa bG) 66)) h):=by
      have D:=ao.new (w.alloc (.cells (aa h) 66)) 66 (aa bG);rw[World.size_alloc]at D;exact Qh ⟨((Below.refl _ w).alloc (Qk _) _).alloc (by simp) _,(ao.new w 66 (aa h)).alloc _,D⟩
     refine(G.out 4 _ L.out.1).mono ?_;rintro e w1 ⟨rfl,A⟩;have M:=Qh (L.out.below A);clear A L;go_wp2_with fail;refine(bV (V 4) _ 0 _ (aa h) h.name w1 M.out.2.1 (by show 0<9;decide) rfl).mono ?_;rintro e w2 ⟨rfl,A,hk⟩;have H:=Qh (M.out.put (h':={h with name:=aE (V 4) h.name}) hk A);clear A hk M;go_wp2_with fail;refine(G.out 5 _ H.out.1).mono ?_;rintro e w3 ⟨rfl,A⟩;have I:=Qh (H.out.below A);clear A H;go_wp2_with fail;refine(bV (V 5) _ 1 _ _ h.link w3 I.out.2.1 (by show 1<9;decide) rfl).mono ?_;rintro e w4 ⟨rfl,A,hk⟩;have N:=Qh (I.out.put (h':={h with name:=aE (V 4) h.name,link:=aE (V 5) h.link}) hk A);clear A hk I;go_wp2_with fail;refine(G.out 0 _ N.out.1).mono ?_;rintro e w5 ⟨rfl,A⟩;have J:=Qh (N.out.below A);clear A N;go_wp2_with fail;refine(aP false (V 0) (W.out 0 (by omega)) _ 4 _ _ h.uid w5 J.out.2.1 (by show 4<9;decide) rfl).mono ?_;rw[X.out];rintro e w6 ⟨rfl,A,hk⟩;have O:=Qh (J.out.put (h':={h with name:=aE (V 4) h.name,link:=aE (V 5) h.link,uid:=u}) hk A);clear A hk J;go_wp2_with fail;refine(G.out 1 _ O.out.1).mono ?_;rintro e w7 ⟨rfl,A⟩;have R:=Qh (O.out.below A);clear A O;go_wp2_with fail;refine(aP false (V 1) (W.out 1 (by omega)) _ 5 _ _ h.gid w7 R.out.2.1 (by show 5<9;decide) rfl).mono ?_;rw[b.out];rintro e w8 ⟨rfl,A,hk⟩;have T:=Qh (R.out.put (h':={h with name:=aE (V 4) h.name,link:=aE (V 5) h.link,uid:=u,gid:=g}) hk A);clear A hk R;go_wp2_with fail;refine(G.out 2 _ T.out.1).mono ?_;rintro e w9 ⟨rfl,A⟩;have Z:=Qh (T.out.below A);clear A T;go_wp2_with fail
     refine(aP true (V 2) (W.out 2 (by omega)) _ 6 _ _ h.time w9 Z.out.2.1 (by show 6<9;decide) rfl).mono ?_;rw[N2.out];rintro e RB ⟨rfl,A,hk⟩;have Y:=Qh (Z.out.put (h':={h with name:=aE (V 4) h.name,link:=aE (V 5) h.link,uid:=u,gid:=g,time:=t}) hk A);clear A hk Z;go_wp2_with fail;refine(G.out 3 _ Y.out.1).mono ?_;rintro e Sq ⟨rfl,A⟩;have Bf:=Qh (Y.out.below A);clear A Y;go_wp2_with fail;refine(aP false (V 3) (W.out 3 (by omega)) _ 7 _ _ h.size Sq Bf.out.2.1 (by show 7<9;decide) rfl).mono ?_;rw[N3.out];rintro e w12 ⟨rfl,A,hk⟩;have yF:=Qh (Bf.out.put (h':={h with name:=aE (V 4) h.name,link:=aE (V 5) h.link,uid:=u,gid:=g,time:=t,size:=z}) hk A);clear A hk Bf;have B:=yF.out.2.2;have d:=B.cell 0;have f:=B.cell 1;have l:=B.cell 2;have m:=B.cell 3;have q:=B.cell 4;have r:=B.cell 5;have y:=B.cell 6;have r7:=B.cell 7;have r8:=B.cell 8;have f0:=B.frozen 0;have f1:=B.frozen 1;have f2:=B.frozen 2;have f3:=B.frozen 3;have f4:=B.frozen 4;have f5:=B.frozen 5;have f6:=B.frozen 6;have f7:=B.frozen 7;have f8:=B.frozen 8;simp only[aa,bG,Qc,Qa,Qb]at d f l m q r y r7 r8;clear B;have D:=yF.out.2.1;have c0:=D.cell 0;have c1:=D.cell 1;have c2:=D.cell 2;have c3:=D.cell 3;have c4:=D.cell 4;have c5:=D.cell 5;have c6:=D.cell 6;have c7:=D.cell 7;have c8:=D.cell 8;simp only[aa,Qc,Qa,Qb]at c0 c1 c2 c3 c4 c5 c6 c7 c8;clear D;have E:Hid (U=({h with name:=aE (V 4) h.name,link:=aE (V 5) h.link,uid:=u,gid:=g,time:=t,size:=z},0)):=Qh (by rw[←HU.out];unfold eT;simp only[X.out,b.out,N2.out,N3.out]);go_wp2;refine bodyPost_ret (km rfl _ _ (w.heap.size+1) _ rfl rfl {h with name:=aE (V 4) h.name,link:=aE (V 5) h.link,uid:=u,gid:=g,time:=t,size:=z} (lG yF.out.2.2 _ _ _ _ _ _ _ _ _)) rfl ?_
     exact⟨by rw[E.out];rfl,dC yF.out.1 (by omega) _ _ _ _ _ _ _ _ _⟩
end Attr
namespace Mem
open Mk Block Attr
theorem En (w:World):(zeroValue 178).run Tryz.prog w=.ok (.agg #[.string ⟨#[]⟩,.slice none 0 0]) w:=Tryz.zeroValue178 w
section
variable {w0 w w':World} {K:RK} {a:Nat} {s:RS} {mb:Option Nat} {v:Value} {xs:List MP} {q:Option Addr} {n c:Nat}
theorem Rd.c0 (h:Rd w0 w K a s mb v xs q n c):w.cell? ⟨K.r,0,none⟩=some (.pointer (some ⟨K.g,0,none⟩)):=h.ei.cell 0
theorem Rd.c1 (h:Rd w0 w K a s mb v xs q n c):w.cell? ⟨K.r,1,none⟩=some (.pointer (some ⟨K.gs,0,none⟩)):=h.ei.cell 1
theorem Rd.c2 (h:Rd w0 w K a s mb v xs q n c):w.cell? ⟨K.r,2,none⟩=some (.map (some K.mw)):=h.ei.cell 2
theorem Rd.c3 (h:Rd w0 w K a s mb v xs q n c):w.cell? ⟨K.r,3,none⟩=some v:=h.ei.cell 3
theorem cz (h:cF MD w K.mw (bY s q n c)) (k:UInt8) (m:Int) (hk:(k.toNat:Int)=m):
 (Instr.lookup 89 (.map (some K.mw)) (.int .u8 m) true).run Tryz.prog w=.ok (.tuple #[(bY s q n c k).getD (.agg #[.string ⟨#[]⟩,.slice none 0 0]),.bool (bY s q n c k).isSome]) w:=by
 subst hk;exact h.look_ok Tryz.underlying89 Tryz.underlying5 En k
theorem Rd.Ri (h:Rd w0 w K a s mb v xs q n c):
 (Instr.lookup 89 (.map (some K.mw)) (.int .u8 76) true).run Tryz.prog w=.ok (.tuple #[.agg #[.string (str (s.name.getD [])),.slice none 0 0],.bool s.name.isSome]) w:=by
 rw[cz h.map 76 76 rfl];have e:bY s q n c 76=s.name.map (fun t=>.agg #[.string (str t),.slice none 0 0]):=by unfold bY;rw[if_neg (by decide),if_pos rfl]
 rw[e]
 cases s.name<;>rfl
theorem Rd.xZ (h:Rd w0 w K a s mb v xs q n c):
 (Instr.lookup 89 (.map (some K.mw)) (.int .u8 75) true).run Tryz.prog w=.ok (.tuple #[.agg #[.string (str (s.link.getD [])),.slice none 0 0],.bool s.link.isSome]) w:=by
 rw[cz h.map 75 75 rfl];have e:bY s q n c 75=s.link.map (fun t=>.agg #[.string (str t),.slice none 0 0]):=by unfold bY;rw[if_neg (by decide),if_neg (by decide),if_pos rfl]
 rw[e]
 cases s.link<;>rfl
theorem mT {fn:Func} (hf:fn.results=#[.cell 4 66]) (tmps:Array Value) (w:World) (g:Nat) (ht:tmps.getD 4 undef=.pointer (some ⟨g,0,none⟩))
 (h:ak) (hb:ao w g 66 (aa h)):(results fn tmps).run Tryz.prog w=.ok (.agg (aa h)) w:=by
 have hl:=mP w g _ _ _ _ _ _ _ _ _ hb;have A:tmps[4]?.getD undef=.pointer (some ⟨g,0,none⟩):=by simpa using ht
 simp only[results,hf];simp[A,asAddr];rw[hl];rfl
theorem jH (h:ak) (hr:Rd w0 w K a s mb v xs q n c):
 Calls Tryz.prog 113 #[.pointer (some ⟨K.r,0,none⟩),.agg (aa h)] w fun e w'=>e=.returned (.agg (aa (ey h s)))∧Below w.heap.size w w':=by
 have p:Hid (rz w ((w.alloc (.cells (aa h) 66)).alloc (.cells (aa bG) 66)) h):=by
  have B:=ao.new (w.alloc (.cells (aa h) 66)) 66 (aa bG);rw[World.size_alloc]at B;exact Qh ⟨((Below.refl _ w).alloc (Qk _) _).alloc (by simp) _,(ao.new w 66 (aa h)).alloc _,B⟩
 have V:=Qh hr;clear hr;obtain⟨sn,u⟩:∃x,s.name=x:=⟨_,rfl⟩
 obtain⟨sl,KF⟩:∃x,s.link=x:=⟨_,rfl⟩
 have Zb:=Qh u;have t:=Qh KF;clear u KF;obtain⟨U,hU⟩:∃U,ey h s=U:=⟨_,rfl⟩
 rw[hU];have HU:Hid (U={h with name:=sn.getD h.name,link:=sl.getD h.link}):=Qh (by rw[←hU,←Zb.out,←t.out];rfl);clear hU;obtain⟨W1,dH⟩:∃W1,(w.alloc (.cells (aa h) 66)).alloc (.cells (aa bG) 66)=W1:=⟨_,rfl⟩
 rw[dH]at p
 go_enter Tryz.func113,Tryz.ntmps113
 go_upto_region 1 with fail
 rw[show(w.alloc (.cells (aa h) 66)).alloc (.cells #[.string ⟨#[]⟩,.string ⟨#[]⟩,.int .u8 0,.int .i64 0,.int .i64 0,.int .i64 0,.int .i64 0,.int .i64 0,.bool false] 66)=W1 from dH];have R1:=Qh (V.out.below p.out.1);have N:=R1.out.c2;have W:=R1.out.Ri;rw[Zb.out]at W;clear dH
 cases sn with
 |none=>
  simp only[Option.getD_none,Option.isSome_none]at W
  cases sl with
  |none=>
   go_upto_region 2 with fail
   clear N W;obtain⟨W2,G⟩:∃W2,W1.alloc (.cells #[.string (str []),.slice none 0 0] 178)=W2:=⟨_,rfl⟩
   have J:W2.cell? ⟨W1.heap.size,0,none⟩=some (.string (str [])):=by rw[←G];exact(ao.new W1 178 _).cell 0
   have L:Hid (rz w W2 h):=Qh (by rw[←G];exact p.out.below ((Below.refl _ W1).alloc (Qk _) _));have R2:=Qh (V.out.below L.out.1);rw[show W1.alloc (.cells #[.string (str []),.slice none 0 0] 178)=W2 from G];clear G;go_upto_region 4 with fail;clear J;obtain⟨W3,T⟩:∃W3,W2=W3:=⟨_,rfl⟩
   have M:=L;rw[T]at M⊢;clear T;have O:=Qh (V.out.below M.out.1);have N:=O.out.c2;have I:=O.out.xZ;rw[t.out]at I;simp only[Option.getD_none,Option.isSome_none]at I;go_upto_region 5 with fail;clear N I;obtain⟨W4,H⟩:∃W4,W3.alloc (.cells #[.string (str []),.slice none 0 0] 178)=W4:=⟨_,rfl⟩
   have J:W4.cell? ⟨W3.heap.size,0,none⟩=some (.string (str [])):=by rw[←H];exact(ao.new W3 178 _).cell 0
   have R:Hid (rz w W4 h):=Qh (by rw[←H];exact M.out.below ((Below.refl _ W3).alloc (Qk _) _));rw[show W3.alloc (.cells #[.string (str []),.slice none 0 0] 178)=W4 from H];clear H;go_upto_region 7 with fail;clear J;have D:=R;have A:=D.out.2.2;have Y:=A.cell 0;have f0:=A.frozen 0;have Z:=A.cell 1;have f1:=A.frozen 1;have b:=A.cell 2;have f2:=A.frozen 2;have d:=A.cell 3;have f3:=A.frozen 3;have f:=A.cell 4;have f4:=A.frozen 4;have g:=A.cell 5;have f5:=A.frozen 5;have l:=A.cell 6;have f6:=A.frozen 6;have m:=A.cell 7;have f7:=A.frozen 7;have o:=A.cell 8;have f8:=A.frozen 8;simp only[aa,bG,Qc,Qa,Qb]at Y Z b d f g l m o;clear A;have B:=D.out.2.1;have c0:=B.cell 0;have c1:=B.cell 1;have c2:=B.cell 2;have c3:=B.cell 3;have c4:=B.cell 4;have c5:=B.cell 5;have c6:=B.cell 6;have c7:=B.cell 7;have X:=B.cell 8;simp only[aa,Qc,Qa,Qb]at c0 c1 c2 c3 c4 c5 c6 c7 X;clear B;have E:Hid (U=h):=Qh (by rw[HU.out];rfl);go_wp2;refine bodyPost_ret (mT rfl _ _ (w.heap.size+1) rfl h (lG D.out.2.2 _ _ _ _ _ _ _ _ _)) rfl ?_;exact⟨by rw[E.out],dC D.out.1 (by omega) _ _ _ _ _ _ _ _ _⟩
  |some lk=>
   go_upto_region 2 with fail
   clear N W;obtain⟨W2,G⟩:∃W2,W1.alloc (.cells #[.string (str []),.slice none 0 0] 178)=W2:=⟨_,rfl⟩
   have J:W2.cell? ⟨W1.heap.size,0,none⟩=some (.string (str [])):=by rw[←G];exact(ao.new W1 178 _).cell 0
   have L:Hid (rz w W2 h):=Qh (by rw[←G];exact p.out.below ((Below.refl _ W1).alloc (Qk _) _));have R2:=Qh (V.out.below L.out.1);rw[show W1.alloc (.cells #[.string (str []),.slice none 0 0] 178)=W2 from G];clear G;go_upto_region 4 with fail;clear J;obtain⟨W3,T⟩:∃W3,W2=W3:=⟨_,rfl⟩
   have M:=L;rw[T]at M⊢;clear T;have O:=Qh (V.out.below M.out.1);have N:=O.out.c2;have I:=O.out.xZ;rw[t.out]at I;simp only[Option.getD_some,Option.isSome_some]at I;go_upto_region 5 with fail;clear N I;obtain⟨W4,H⟩:∃W4,W3.alloc (.cells #[.string (str lk),.slice none 0 0] 178)=W4:=⟨_,rfl⟩
   have J:W4.cell? ⟨W3.heap.size,0,none⟩=some (.string (str lk)):=by rw[←H];exact(ao.new W3 178 _).cell 0
   have R:Hid (rz w W4 h):=Qh (by rw[←H];exact M.out.below ((Below.refl _ W3).alloc (Qk _) _));rw[show W3.alloc (.cells #[.string (str lk),.slice none 0 0] 178)=W4 from H];clear H;have B:=R.out.2.1;have y1:=B.cell 1;have g1:=B.frozen 1;simp only[aa,Qc,Qa,Qb]at y1;clear B;go_upto_region 7 with fail;have D:Hid (rz w (W4.setCell ⟨w.heap.size,1,none⟩ (.string (str lk))) {h with link:=lk}):=Qh (R.out.put (h':={h with link:=lk}) ((Kept.refl (aA w.heap.size) W4).setCell (a:=⟨w.heap.size,1,none⟩) (.inr rfl) _) (R.out.2.1.set 1 _ (by show 1<9;decide)));clear y1 g1 J;obtain⟨W5,y⟩:∃W5,W4.setCell ⟨w.heap.size,1,none⟩ (.string (str lk))=W5:=⟨_,rfl⟩
   rw[y]at D⊢;clear y;have A:=D.out.2.2;have Y:=A.cell 0;have f0:=A.frozen 0;have Z:=A.cell 1;have f1:=A.frozen 1;have b:=A.cell 2;have f2:=A.frozen 2;have d:=A.cell 3;have f3:=A.frozen 3;have f:=A.cell 4;have f4:=A.frozen 4;have g:=A.cell 5;have f5:=A.frozen 5;have l:=A.cell 6;have f6:=A.frozen 6;have m:=A.cell 7;have f7:=A.frozen 7;have o:=A.cell 8;have f8:=A.frozen 8;simp only[aa,bG,Qc,Qa,Qb]at Y Z b d f g l m o;clear A;have B:=D.out.2.1;have c0:=B.cell 0;have c1:=B.cell 1;have c2:=B.cell 2;have c3:=B.cell 3;have c4:=B.cell 4;have c5:=B.cell 5;have c6:=B.cell 6;have c7:=B.cell 7;have X:=B.cell 8;simp only[aa,Qc,Qa,Qb]at c0 c1 c2 c3 c4 c5 c6 c7 X;clear B;have E:Hid (U={h with link:=lk}):=Qh (by rw[HU.out];rfl);go_wp2;refine bodyPost_ret (mT rfl _ _ (w.heap.size+1) rfl {h with link:=lk} (lG D.out.2.2 _ _ _ _ _ _ _ _ _)) rfl ?_;exact⟨by rw[E.out],dC D.out.1 (by omega) _ _ _ _ _ _ _ _ _⟩
 |some nm=>
  simp only[Option.getD_some,Option.isSome_some]at W
  cases sl with
  |none=>
   go_upto_region 2 with fail
   clear N W;obtain⟨W2,G⟩:∃W2,W1.alloc (.cells #[.string (str nm),.slice none 0 0] 178)=W2:=⟨_,rfl⟩
   have J:W2.cell? ⟨W1.heap.size,0,none⟩=some (.string (str nm)):=by rw[←G];exact(ao.new W1 178 _).cell 0
   have L:Hid (rz w W2 h):=Qh (by rw[←G];exact p.out.below ((Below.refl _ W1).alloc (Qk _) _));have R2:=Qh (V.out.below L.out.1);rw[show W1.alloc (.cells #[.string (str nm),.slice none 0 0] 178)=W2 from G];clear G;have B:=L.out.2.1;have z:=B.cell 0;have g0:=B.frozen 0;simp only[aa,Qc,Qa]at z;clear B;go_upto_region 4 with fail;have M:Hid (rz w (W2.setCell ⟨w.heap.size,0,none⟩ (.string (str nm))) {h with name:=nm}):=Qh (L.out.put (h':={h with name:=nm}) ((Kept.refl (aA w.heap.size) W2).setCell (a:=⟨w.heap.size,0,none⟩) (.inr rfl) _) (L.out.2.1.set 0 _ (by show 0<9;decide)));clear z g0 J;obtain⟨W3,T⟩:∃W3,W2.setCell ⟨w.heap.size,0,none⟩ (.string (str nm))=W3:=⟨_,rfl⟩
   rw[T]at M⊢;clear T;have O:=Qh (V.out.below M.out.1);have N:=O.out.c2;have I:=O.out.xZ;rw[t.out]at I;simp only[Option.getD_none,Option.isSome_none]at I;go_upto_region 5 with fail;clear N I;obtain⟨W4,H⟩:∃W4,W3.alloc (.cells #[.string (str []),.slice none 0 0] 178)=W4:=⟨_,rfl⟩
   have J:W4.cell? ⟨W3.heap.size,0,none⟩=some (.string (str [])):=by rw[←H];exact(ao.new W3 178 _).cell 0
   have R:Hid (rz w W4 {h with name:=nm}):=Qh (by rw[←H];exact M.out.below ((Below.refl _ W3).alloc (Qk _) _));rw[show W3.alloc (.cells #[.string (str []),.slice none 0 0] 178)=W4 from H];clear H;go_upto_region 7 with fail;clear J;have D:=R;have A:=D.out.2.2;have Y:=A.cell 0;have f0:=A.frozen 0;have Z:=A.cell 1;have f1:=A.frozen 1;have b:=A.cell 2;have f2:=A.frozen 2;have d:=A.cell 3;have f3:=A.frozen 3;have f:=A.cell 4;have f4:=A.frozen 4;have g:=A.cell 5;have f5:=A.frozen 5;have l:=A.cell 6;have f6:=A.frozen 6;have m:=A.cell 7;have f7:=A.frozen 7;have o:=A.cell 8;have f8:=A.frozen 8;simp only[aa,bG,Qc,Qa,Qb]at Y Z b d f g l m o;clear A;have B:=D.out.2.1;have c0:=B.cell 0;have c1:=B.cell 1;have c2:=B.cell 2;have c3:=B.cell 3;have c4:=B.cell 4;have c5:=B.cell 5;have c6:=B.cell 6;have c7:=B.cell 7;have X:=B.cell 8;simp only[aa,Qc,Qa,Qb]at c0 c1 c2 c3 c4 c5 c6 c7 X;clear B;have E:Hid (U={h with name:=nm}):=Qh (by rw[HU.out];rfl);go_wp2;refine bodyPost_ret (mT rfl _ _ (w.heap.size+1) rfl {h with name:=nm} (lG D.out.2.2 _ _ _ _ _ _ _ _ _)) rfl ?_;exact⟨by rw[E.out],dC D.out.1 (by omega) _ _ _ _ _ _ _ _ _⟩
  |some lk=>
   go_upto_region 2 with fail
   clear N W;obtain⟨W2,G⟩:∃W2,W1.alloc (.cells #[.string (str nm),.slice none 0 0] 178)=W2:=⟨_,rfl⟩
   have J:W2.cell? ⟨W1.heap.size,0,none⟩=some (.string (str nm)):=by rw[←G];exact(ao.new W1 178 _).cell 0
   have L:Hid (rz w W2 h):=Qh (by rw[←G];exact p.out.below ((Below.refl _ W1).alloc (Qk _) _));have R2:=Qh (V.out.below L.out.1);rw[show W1.alloc (.cells #[.string (str nm),.slice none 0 0] 178)=W2 from G];clear G;have B:=L.out.2.1;have z:=B.cell 0;have g0:=B.frozen 0;simp only[aa,Qc,Qa]at z;clear B;go_upto_region 4 with fail;have M:Hid (rz w (W2.setCell ⟨w.heap.size,0,none⟩ (.string (str nm))) {h with name:=nm}):=Qh (L.out.put (h':={h with name:=nm}) ((Kept.refl (aA w.heap.size) W2).setCell (a:=⟨w.heap.size,0,none⟩) (.inr rfl) _) (L.out.2.1.set 0 _ (by show 0<9;decide)));clear z g0 J;obtain⟨W3,T⟩:∃W3,W2.setCell ⟨w.heap.size,0,none⟩ (.string (str nm))=W3:=⟨_,rfl⟩
   rw[T]at M⊢;clear T;have O:=Qh (V.out.below M.out.1);have N:=O.out.c2;have I:=O.out.xZ;rw[t.out]at I;simp only[Option.getD_some,Option.isSome_some]at I;go_upto_region 5 with fail;clear N I;obtain⟨W4,H⟩:∃W4,W3.alloc (.cells #[.string (str lk),.slice none 0 0] 178)=W4:=⟨_,rfl⟩
   have J:W4.cell? ⟨W3.heap.size,0,none⟩=some (.string (str lk)):=by rw[←H];exact(ao.new W3 178 _).cell 0
   have R:Hid (rz w W4 {h with name:=nm}):=Qh (by rw[←H];exact M.out.below ((Below.refl _ W3).alloc (Qk _) _));rw[show W3.alloc (.cells #[.string (str lk),.slice none 0 0] 178)=W4 from H];clear H;have B:=R.out.2.1;have y1:=B.cell 1;have g1:=B.frozen 1;simp only[aa,Qc,Qa,Qb]at y1;clear B;go_upto_region 7 with fail;have D:Hid (rz w (W4.setCell ⟨w.heap.size,1,none⟩ (.string (str lk))) {h with name:=nm,link:=lk}):=Qh (R.out.put (h':={h with name:=nm,link:=lk}) ((Kept.refl (aA w.heap.size) W4).setCell (a:=⟨w.heap.size,1,none⟩) (.inr rfl) _) (R.out.2.1.set 1 _ (by show 1<9;decide)));clear y1 g1 J;obtain⟨W5,y⟩:∃W5,W4.setCell ⟨w.heap.size,1,none⟩ (.string (str lk))=W5:=⟨_,rfl⟩
   rw[y]at D⊢;clear y;have A:=D.out.2.2;have Y:=A.cell 0;have f0:=A.frozen 0;have Z:=A.cell 1;have f1:=A.frozen 1;have b:=A.cell 2;have f2:=A.frozen 2;have d:=A.cell 3;have f3:=A.frozen 3;have f:=A.cell 4;have f4:=A.frozen 4;have g:=A.cell 5;have f5:=A.frozen 5;have l:=A.cell 6;have f6:=A.frozen 6;have m:=A.cell 7;have f7:=A.frozen 7;have o:=A.cell 8;have f8:=A.frozen 8;simp only[aa,bG,Qc,Qa,Qb]at Y Z b d f g l m o;clear A;have B:=D.out.2.1;have c0:=B.cell 0;have c1:=B.cell 1;have c2:=B.cell 2;have c3:=B.cell 3;have c4:=B.cell 4;have c5:=B.cell 5;have c6:=B.cell 6;have c7:=B.cell 7;have X:=B.cell 8;simp only[aa,Qc,Qa,Qb]at c0 c1 c2 c3 c4 c5 c6 c7 X;clear B;have E:Hid (U={h with name:=nm,link:=lk}):=Qh (by rw[HU.out];rfl);go_wp2;refine bodyPost_ret (mT rfl _ _ (w.heap.size+1) rfl {h with name:=nm,link:=lk} (lG D.out.2.2 _ _ _ _ _ _ _ _ _)) rfl ?_;exact⟨by rw[E.out],dC D.out.1 (by omega) _ _ _ _ _ _ _ _ _⟩
end
theorem dW (p:Option Addr) (c:Nat) (X:List UInt8) (w:World) (hl:X.length=512) (h:cB w p 512 X):
 Calls Tryz.prog 72 #[.slice p 512 c] w fun e w'=>e=.returned (.bool (dy X))∧w=w':=by
 have:=Me p 512 c X w (by omega) h
 rwa [Ak hl]at this
def B9 (l2:List UInt8) (s:RS):Int:=if l2.length<512 then 2 else if dy l2=false then 9 else if s.eC=true∨s.name.isSome=true∨s.link.isSome=true then 5 else 0
theorem IY (l:List UInt8):dy l=(dy (l.take 512)&&dy (l.drop 512)):=by
 conv=>lhs;rw[←List.take_append_drop 512 l]
 unfold dy;rw[List.all_append]
section
variable {w0 w w':World} {K:RK} {a:Nat} {s:RS} {mb:Option Nat} {v:Value} {xs:List MP} {q:Option Addr} {n c:Nat}
theorem wY (s:RS) (q:Option Addr) (n c:Nat):(∀x,bY s q n c x=none)↔¬(s.eC=true∨s.name.isSome=true∨s.link.isSome=true):=by
 constructor
 ·intro h e
  have D:=h 120;have h1:=h 76;have B:=h 75;unfold bY at D h1 B;rw[if_pos rfl]at D;rw[if_neg (by decide),if_pos rfl]at h1;rw[if_neg (by decide),if_neg (by decide),if_pos rfl]at B;rcases e with e|e|e
  ·rw[if_pos e]at D
   cases D
  ·obtain⟨x,A⟩:=Option.isSome_iff_exists.1 e
   rw[A]at h1
   cases h1
  ·obtain⟨x,A⟩:=Option.isSome_iff_exists.1 e
   rw[A]at B
   cases B
 ·intro h k
  have h1:s.eC=false:=by
   cases A:s.eC with
   |false=>rfl
   |true=>exact absurd (.inl A) h
  have B:s.name=none:=by
   cases A:s.name with
   |none=>rfl
   |some t=>exact absurd (.inr (.inl (by rw[A];rfl))) h
  have E:s.link=none:=by
   cases A:s.link with
   |none=>rfl
   |some t=>exact absurd (.inr (.inr (by rw[A];rfl))) h
  unfold bY;rw[h1,B,E];simp
def D4 (w0:World) (K:RK) (a:Nat) (s:RS) (mb:Option Nat) (v:Value) (xs:List MP) (q:Option Addr) (n c:Nat) (r:Int) (e:Ending) (w':World):Prop:=
 e=.returned (.int .i64 r)∧∃a',Rd w0 w' K a' s mb v xs q n c
theorem xu (hr:Rd w0 w K a s mb v xs q n c):
 Calls Tryz.prog 73 #[.pointer (some ⟨K.r,0,none⟩)] w (D4 w0 K a s mb v xs q n c (B9 (K.S.bs.drop a) s)):=by
 obtain⟨t,hs⟩:=hr.src;have hlen:=hs.len;have hle:=hs.le;have R:=Qh hr;have HS:=Qh hs;have x0:=hr.c0;have T:(K.S.bs.drop a).length=K.S.n - a:=by rw[Qe,hlen]
 obtain⟨E,A⟩:∃E,B9 (K.S.bs.drop a) s=E:=⟨_,rfl⟩
 rw[A];unfold B9 at A
 by_cases h1:a=K.S.n
 ·rw[if_pos (by omega)]at A
  subst A;have B:=pw w K.g a t K.S hs hr.off;rw[show uz K.S.bs a=(14,[],a) by unfold uz;rw[if_pos (by omega)]]at B;clear hr hs hlen hle T h1
  go_enter Tryz.func73,Tryz.ntmps73
  go_wp2_with fail
  refine B.mono ?_;rintro e O ⟨p,m,U,I,rfl,h1,D,M,G,H⟩;have F:=Qh (R.out.fu H ⟨I,G⟩);clear h1 D M G H B x0;go_wp2;go_ret;exact⟨rfl,_,F.out⟩
 ·by_cases D:a+512≤K.S.n
  ·rw[if_neg (by omega),IY]at A
   have B:=pw w K.g a t K.S hs hr.off;rw[show uz K.S.bs a=(0,(K.S.bs.drop a).take 512,a+512) by unfold uz;rw[if_neg (by omega),if_pos (by omega)]]at B;obtain⟨X,W⟩:∃X,(K.S.bs.drop a).take 512=X:=⟨_,rfl⟩
   have u:X.length=512:=by rw[←W,Qg];omega
   rw[W]at A B;obtain⟨Z,b⟩:∃Z,dy X=Z:=⟨_,rfl⟩
   obtain⟨Y,N⟩:∃Y,dy ((K.S.bs.drop a).drop 512)=Y:=⟨_,rfl⟩
   rw[b,N]at A;rw[List.drop_drop]at N;have o:=Qh u;have z:=Qh b;have y:=Qh N;have J:=Qh A;clear hr hs hlen hle T h1 D W u b N A
   go_enter Tryz.func73,Tryz.ntmps73
   go_wp2_with fail
   refine B.mono ?_;rintro e O ⟨p,m,U,I,rfl,h1,D,M,G,H⟩;obtain rfl:m=512:=by rw[←h1];exact o.out
   have F:=Qh (R.out.fu H ⟨I,G⟩);have M0:=Qh G;have bI:=Qh D;clear h1 D M G H B x0;go_wp2_with fail;refine(dW p U X O o.out bI.out).mono ?_;rw[z.out];rintro e w2 ⟨rfl,rfl⟩
   cases Z with
   |false=>
    have A:=J.out;simp only[Bool.false_and,if_true]at A;subst A;go_wp2;go_ret;exact⟨rfl,_,F.out⟩
   |true=>
    have x0:=F.out.c0;go_wp2_with fail;refine(LC O K.g (a+512) I K.S M0.out).mono ?_;rw[show wH (K.S.bs.drop (a+512))=Y from y.out];rintro e w3 ⟨rfl,f,l⟩;have L:=Qh (F.out.fu (l.dZ _) ⟨I,f⟩);clear f l x0
    cases Y with
    |false=>
     have A:=J.out;simp only[Bool.and_false,if_true]at A;subst A;go_wp2;go_ret;exact⟨rfl,_,L.out⟩
    |true=>
     have x2:=L.out.c2;have A:=J.out;rw[if_neg (by decide)]at A;have J:=Qh A;clear A;obtain⟨k,dS,d⟩:=L.out.map.count Tryz.underlying89 3;have hk:=Qh d;clear d
     by_cases V:k=0
     ·have A:=J.out
      rw[if_neg ((wY _ _ _ _).1 (hk.out.1 V))]at A;subst A V;clear hk;go_wp2;go_ret;exact⟨rfl,_,L.out⟩
     ·have A:=J.out
      rw[if_pos (Classical.byContradiction fun hn=>V (hk.out.2 ((wY _ _ _ _).2 hn)))]at A;subst A;have vJ:(0:Int)<(k:Int):=by omega
      clear hk;go_wp2;go_ret;exact⟨rfl,_,L.out⟩
  ·rw[if_pos (by omega)]at A
   subst A;have B:=pw w K.g a t K.S hs hr.off;rw[show uz K.S.bs a=(2,[],K.S.bs.length) by unfold uz;rw[if_neg (by omega),if_neg (by omega)]]at B;clear hr hs hlen hle T h1 D
   go_enter Tryz.func73,Tryz.ntmps73
   go_wp2_with fail
   refine B.mono ?_;rintro e O ⟨p,m,U,I,rfl,h1,D,M,G,H⟩;have F:=Qh (R.out.fu H ⟨I,G⟩);clear h1 D M G H B x0;go_wp2;go_ret;exact⟨rfl,_,F.out⟩
end
end Mem
namespace Mem
open Mk Block Attr Go.Shelf
theorem zb (p:Option Addr) (n b2:Nat) (bs:List UInt8) (w:World) (hn:bs.length=n) (hm:n≤140737488351232) (h:cB w p n bs) (h2:w.cell? ⟨b2,0,none⟩=some (.int .u8 0)):
 Calls Tryz.prog 109 #[.slice p n n,.slice (some ⟨b2,0,none⟩) 1 1] w fun e w'=>∃v2 v3,e=.returned (.tuple #[.slice p (aF bs).length n,v2,v3])∧Kept ag w w':=by
 rcases Nat.eq_zero_or_pos n with h0|h0
 ·subst h0
  obtain rfl:bs=[]:=List.eq_nil_of_length_eq_zero hn;rcases p with _|x
  ·refine(Any.bytes_Cut_of Tryz.jz none (some ⟨b2,0,none⟩) 0 0 1 1 (-1) w (Qk _) (by omega) (by omega) (by omega) ((Any.bytes_Index_one_nil Tryz.jz.index b2 0 1 0 w h2).mono fun e w' he=>⟨he.1,0,he.2⟩)).mono ?_
   rintro e w' ⟨rfl,q,rfl⟩;unfold Lib.cutV;rw[if_neg (by omega)];exact⟨_,_,rfl,(Kept.refl _ _).drewN _⟩
  ·refine(Any.bytes_Cut_of Tryz.jz (some x) (some ⟨b2,0,none⟩) 0 0 1 1 (-1) w (Qk _) (by omega) (by omega) (by omega) ((Any.bytes_Index_one_at Tryz.jz.index x 0 0 b2 0 1 [] 0 w rfl (fun i hi=>absurd hi (by omega)) h2).mono fun e w' he=>⟨he.1,0,he.2⟩)).mono ?_
   rintro e w' ⟨rfl,q,rfl⟩;unfold Lib.cutV;rw[if_neg (by omega)];exact⟨_,_,rfl,(Kept.refl _ _).drewN _⟩
 ·obtain⟨b,o,rfl,_⟩:=h h0
  exact El b o n n b2 bs w hn (Qk _) hm h h2
section
variable {w0 w w':World} {K:RK} {a:Nat} {s:RS} {mb:Option Nat} {v:Value} {xs:List MP} {q:Option Addr} {n c:Nat}
theorem Mb (s:RS) (q:Option Addr) (n c:Nat) (k:UInt8):∃x p m d,(bY s q n c k).getD (.agg #[.string ⟨#[]⟩,.slice none 0 0])=.agg #[.string x,.slice p m d]:=by
 unfold bY
 by_cases h1:k=120
 ·rw[if_pos h1]
  by_cases A:s.eC=true
  ·rw[if_pos A];exact⟨_,_,_,_,rfl⟩
  ·rw[if_neg A];exact⟨_,_,_,_,rfl⟩
 ·rw[if_neg h1]
  by_cases A:k=76
  ·rw[if_pos A]
   cases s.name<;>exact⟨_,_,_,_,rfl⟩
  ·rw[if_neg A]
   by_cases B:k=75
   ·rw[if_pos B]
    cases s.link<;>exact⟨_,_,_,_,rfl⟩
   ·rw[if_neg B];exact⟨_,_,_,_,rfl⟩
theorem mG (w:World) (g a t:Nat) (S:Sv) (h:Block.Src w g S a t) (ho:S.off g) (k:Nat) (hk:k≤1048576) (X:List UInt8) (hX:(S.bs.drop a).take k=X) (hl:a+eK k≤S.n):
 Calls Tryz.prog 108 #[.pointer (some ⟨g,0,none⟩),.int .i64 (k:Int)] w fun e w'=>∃p t',e=.returned (.tuple #[.slice p k k,.int .i64 0])∧cB w' p k X∧(∀x,p=some x→w.heap.size≤x.block)∧Block.Src w' g S (a+eK k) t'∧Kept (aA g) w w':=by
 refine(yY w g a t S h ho k (by omega)).mono ?_;rintro e w' (⟨_,p,rfl,A,B,⟨t',D⟩,E⟩|⟨h1,_⟩)
 ·exact⟨p,t',rfl,by rw[←hX];exact A,B,D,E⟩
 ·omega
theorem Ei (w:World) (g a t:Nat) (S:Sv) (h:Block.Src w g S a t) (ho:S.off g) (k:Nat) (hk:k≤1048576) (hl:S.n<a+eK k):
 Calls Tryz.prog 108 #[.pointer (some ⟨g,0,none⟩),.int .i64 (k:Int)] w fun e w'=>∃t',e=.returned (.tuple #[.slice none 0 0,.int .i64 2])∧Block.Src w' g S S.n t'∧Kept (aA g) w w':=by
 refine(yY w g a t S h ho k (by omega)).mono ?_;rintro e w' (⟨h1,_⟩|⟨_,rfl,⟨t',A⟩,B⟩)
 ·omega
 ·exact⟨t',rfl,A,B⟩
def Left (w0:World) (K:RK) (a:Nat) (s:RS) (w':World):Prop:=∃mb v xs q n c,Rd w0 w' K a s mb v xs q n c
theorem Gx (hr:Rd w0 w K a s mb v xs q n c) (h:ak) (hw:(bY s q n c h.kind).isSome=true):
 Calls Tryz.prog 75 #[.pointer (some ⟨K.r,0,none⟩),.agg (aa h)] w fun e w'=>e=.returned (.int .i64 5)∧Below w.heap.size w w':=by
 have X:=Qh hr;obtain⟨kn,B⟩:∃kn:Int,(h.kind.toNat:Int)=kn:=⟨_,rfl⟩
 obtain⟨W1,M⟩:∃W1,w.alloc (.cells (aa h) 66)=W1:=⟨_,rfl⟩
 have D:Below w.heap.size w W1:=by rw[←M];exact(Below.refl _ w).alloc (Qk _) _
 have E:ao W1 w.heap.size 66 (aa h):=by rw[←M];exact ao.new w _ _
 have I:=hr.below D;have A:Below w.heap.size w (W1.alloc (.cells #[.string ⟨#[]⟩,.slice none 0 0] 178)):=D.alloc D.size _;have J:=hr.below A;have V:=cz (I.idle ((Kept.refl ag _).drew)).map h.kind kn B;have W:=cz (J.idle ((Kept.refl ag _).drew)).map h.kind kn B;obtain⟨ex,H,em,G,O⟩:=Mb s q n c h.kind;rw[O,hw]at V W;have g:=I.c2;have U:=E.cell 2;simp only[aa,Qc,Qa,Qb,B]at U;have l:=J.c2;have R:=(E.alloc (.cells #[.string ⟨#[]⟩,.slice none 0 0] 178)).cell 2;simp only[aa,Qc,Qa,Qb,B]at R;have L:=Qh D;have N:=Qh E;have m:=Qh B;clear hr hw B O I J E D A
 go_enter Tryz.func75,Tryz.ntmps75
 go_upto_region 1 with fail
 clear M
 go_cut [5,6]from 13 to 22 (fun b d f=>b=.pointer (some ⟨W1.heap.size,0,none⟩)∧d=.bool true∧f=(W1.alloc (.cells #[.string ex,.slice H em G] 178)).drew)
 case first=>
  go_region
  all_goals (go_wp2;go_meet;exact⟨rfl,rfl,rfl⟩)
 case rest=>
  obtain⟨rfl,rfl,rfl⟩:=hcut;clear V W g U l R;have A:Below w.heap.size w (W1.alloc (.cells #[.string ex,.slice H em G] 178)).drew:=((L.out.alloc L.out.size _)).drew;have Z:Hid (ao (W1.alloc (.cells #[.string ex,.slice H em G] 178)).drew w.heap.size 66 (aa h)):=Qh ((N.out.alloc _).drew);obtain⟨W2,T⟩:∃W2,(W1.alloc (.cells #[.string ex,.slice H em G] 178)).drew=W2:=⟨_,rfl⟩
  rw[T]at A Z⊢;clear T;have Y:=Qh A;have o:=Qh (X.out.below A);clear A L N;go_wp2;go_ret;exact⟨rfl,Y.out⟩
theorem Gv (hr:Rd w0 w K a s mb v xs q n c) (h:ak) (hw:bY s q n c h.kind=none) (hz:1048576<h.size):
 Calls Tryz.prog 75 #[.pointer (some ⟨K.r,0,none⟩),.agg (aa h)] w fun e w'=>e=.returned (.int .i64 10)∧Below w.heap.size w w':=by
 have V:=Qh hr;obtain⟨kn,B⟩:∃kn:Int,(h.kind.toNat:Int)=kn:=⟨_,rfl⟩
 obtain⟨W1,J⟩:∃W1,w.alloc (.cells (aa h) 66)=W1:=⟨_,rfl⟩
 have D:Below w.heap.size w W1:=by rw[←J];exact(Below.refl _ w).alloc (Qk _) _
 have E:ao W1 w.heap.size 66 (aa h):=by rw[←J];exact ao.new w _ _
 have G:=hr.below D;have A:Below w.heap.size w (W1.alloc (.cells #[.string ⟨#[]⟩,.slice none 0 0] 178)):=D.alloc D.size _;have H:=hr.below A;have L:=cz (G.idle ((Kept.refl ag _).drew)).map h.kind kn B;have M:=cz (H.idle ((Kept.refl ag _).drew)).map h.kind kn B;rw[hw]at L M;simp only[Option.getD_none,Option.isSome_none]at L M;have b:=G.c2;have U:=E.cell 2;simp only[aa,Qc,Qa,Qb,B]at U;have d:=H.c2;have R:=(E.alloc (.cells #[.string ⟨#[]⟩,.slice none 0 0] 178)).cell 2;simp only[aa,Qc,Qa,Qb,B]at R;have I:=Qh D;have N:=Qh E;have g:=Qh B;clear hr hw B G H E D A
 go_enter Tryz.func75,Tryz.ntmps75
 go_upto_region 1 with fail
 clear J
 go_cut [5,6]from 13 to 22 (fun X Y Z=>X=.pointer (some ⟨W1.heap.size,0,none⟩)∧Y=.bool false∧Z=(W1.alloc (.cells #[.string ⟨#[]⟩,.slice none 0 0] 178)).drew)
 case first=>
  go_region
  all_goals (go_wp2;go_meet;exact⟨rfl,rfl,rfl⟩)
 case rest=>
  obtain⟨rfl,rfl,rfl⟩:=hcut;clear L M b U d R;have A:Below w.heap.size w (W1.alloc (.cells #[.string ⟨#[]⟩,.slice none 0 0] 178)).drew:=((I.out.alloc I.out.size _)).drew;have O:Hid (ao (W1.alloc (.cells #[.string ⟨#[]⟩,.slice none 0 0] 178)).drew w.heap.size 66 (aa h)):=Qh ((N.out.alloc _).drew);obtain⟨W2,T⟩:∃W2,(W1.alloc (.cells #[.string ⟨#[]⟩,.slice none 0 0] 178)).drew=W2:=⟨_,rfl⟩
  rw[T]at A O⊢;clear T;have W:=Qh A;have l:=Qh (V.out.below A);clear A I N;have f:=O.out.cell 7;simp only[aa,Qc,Qa,Qb]at f;go_wp2;go_ret;exact⟨rfl,W.out⟩
theorem Gw (hr:Rd w0 w K a s mb v xs q n c) (h:ak) (hw:bY s q n c h.kind=none) (k:Nat) (eA:h.size=(k:Int)) (hz:k≤1048576) (hl:K.S.n<a+eK k):
 Calls Tryz.prog 75 #[.pointer (some ⟨K.r,0,none⟩),.agg (aa h)] w fun e w'=>e=.returned (.int .i64 2)∧Below w0.heap.size w0 w':=by
 have uw:=Qh hl;have y:=Qh hz;have Y:=Qh eA;have sN:¬(1048576:Int)<(k:Int):=by omega
 clear hl hz eA;have V:=Qh hr;obtain⟨kn,B⟩:∃kn:Int,(h.kind.toNat:Int)=kn:=⟨_,rfl⟩
 obtain⟨W1,M⟩:∃W1,w.alloc (.cells (aa h) 66)=W1:=⟨_,rfl⟩
 have D:Below w.heap.size w W1:=by rw[←M];exact(Below.refl _ w).alloc (Qk _) _
 have E:ao W1 w.heap.size 66 (aa h):=by rw[←M];exact ao.new w _ _
 have I:=hr.below D;have A:Below w.heap.size w (W1.alloc (.cells #[.string ⟨#[]⟩,.slice none 0 0] 178)):=D.alloc D.size _;have J:=hr.below A;have O:=cz (I.idle ((Kept.refl ag _).drew)).map h.kind kn B;have R:=cz (J.idle ((Kept.refl ag _).drew)).map h.kind kn B;rw[hw]at O R;simp only[Option.getD_none,Option.isSome_none]at O R;have x2:=I.c2;have l:=E.cell 2;simp only[aa,Qc,Qa,Qb,B]at l;have y2:=J.c2;have d:=(E.alloc (.cells #[.string ⟨#[]⟩,.slice none 0 0] 178)).cell 2;simp only[aa,Qc,Qa,Qb,B]at d;have L:=Qh D;have W:=Qh E;have fR:=Qh B;clear hr hw B I J E D A
 go_enter Tryz.func75,Tryz.ntmps75
 go_upto_region 1 with fail
 clear M
 go_cut [5,6]from 13 to 22 (fun s5 s6 wx=>s5=.pointer (some ⟨W1.heap.size,0,none⟩)∧s6=.bool false∧wx=(W1.alloc (.cells #[.string ⟨#[]⟩,.slice none 0 0] 178)).drew)
 case first=>
  go_region
  all_goals (go_wp2;go_meet;exact⟨rfl,rfl,rfl⟩)
 case rest=>
  obtain⟨rfl,rfl,rfl⟩:=hcut;clear O R x2 l y2 d;have A:Below w.heap.size w (W1.alloc (.cells #[.string ⟨#[]⟩,.slice none 0 0] 178)).drew:=((L.out.alloc L.out.size _)).drew;have N:Hid (ao (W1.alloc (.cells #[.string ⟨#[]⟩,.slice none 0 0] 178)).drew w.heap.size 66 (aa h)):=Qh ((W.out.alloc _).drew);obtain⟨W2,f⟩:∃W2,(W1.alloc (.cells #[.string ⟨#[]⟩,.slice none 0 0] 178)).drew=W2:=⟨_,rfl⟩
  rw[f]at A N⊢;clear f;have bI:=Qh A;have m:=Qh (V.out.below A);clear A L W;have x0:=m.out.c0;have T:=N.out.cell 7;simp only[aa,Qc,Qa,Qb,Y.out]at T;have H:=m.out.idle ((Kept.refl ag W2).drew);obtain⟨t,hs⟩:=H.src
  have X:w.heap.size≠K.g:=by
   obtain⟨o,u⟩:=V.out.src;have:=u.lt;omega
  have yG:=Qh H;have rZ:=Qh X;have b:=Ei W2.drew K.g a t K.S hs H.off k y.out uw.out;clear hs H X;go_upto_region 6 with fail
  go_region_held_law (fun w'=>w'.cell? ⟨K.r,0,none⟩=some (.pointer (some ⟨K.g,0,none⟩))∧w'.cell? ⟨w.heap.size,7,none⟩=some (.int .i64 (k:Int))) (first|exact⟨x0,T⟩|exact p)
   (first
    |(go_at_call 108
      refine b.mono ?_;rintro e w3 ⟨o,rfl,Z,G⟩;have U:=Qh (yG.out.fu G ⟨o,Z⟩);have z:Hid (ao w3 w.heap.size 66 (aa h)):=Qh ((N.out.drew).bW G rZ.out);have ff:=Qh G;have p:w3.cell? ⟨K.r,0,none⟩=some (.pointer (some ⟨K.g,0,none⟩))∧w3.cell? ⟨w.heap.size,7,none⟩=some (.int .i64 (k:Int)):=⟨U.out.c0,by have:=z.out.cell 7;simp only[aa,Qc,Qa,Qb,Y.out]at this;exact this⟩
      clear Z G))
  clear b p x0 T;go_wp2;go_ret;exact⟨rfl,U.out.bel⟩
theorem Lw (s:RS) (q:Option Addr) (n c:Nat) (T:List UInt8):(fun y=>if y=76 then some (Value.agg #[.string (str T),.slice none 0 0])else bY s q n c y)=bY {s with name:=some T} q n c:=by
 funext y
 unfold bY
 by_cases h:y=76
 ·subst h;rfl
 ·simp[h]
theorem Lv (s:RS) (q:Option Addr) (n c:Nat) (T:List UInt8):(fun y=>if y=75 then some (Value.agg #[.string (str T),.slice none 0 0])else bY s q n c y)=bY {s with link:=some T} q n c:=by
 funext y
 unfold bY
 by_cases h:y=75
 ·subst h;rfl
 ·simp[h]
theorem Of (s:RS) (q q':Option Addr) (n c n' c':Nat) (rs:ca):(fun y=>if y=120 then some (Value.agg #[.string ⟨#[]⟩,.slice q' n' c'])else bY s q n c y)=bY {s with eC:=true,own:=rs} q' n' c':=by
 funext y
 unfold bY
 by_cases h:y=120
 ·subst h;rfl
 ·simp[h]
theorem J2 (hr:Rd w0 w K a s mb v xs q n c) (h:ak) (hw:bY s q n c h.kind=none) (k:Nat) (eA:h.size=(k:Int)) (hz:k≤1048576) (X:List UInt8) (hX:(K.S.bs.drop a).take k=X) (hl:a+eK k≤K.S.n) (lN:h.kind=76):
 Calls Tryz.prog 75 #[.pointer (some ⟨K.r,0,none⟩),.agg (aa h)] w fun e w'=>e=.returned (.int .i64 0)∧Left w0 K (a+eK k) {s with name:=some (aF X)} w':=by
 have V:Hid (X.length=k):=Qh (by
  obtain⟨t,hs⟩:=hr.src;have:=jE k;have:=hs.len
  rw[←hX,Qg,Qe];omega)
 have uw:=Qh (And.intro hX hl);have Z:=Qh hz;have y:=Qh eA;have sN:¬(1048576:Int)<(k:Int):=by omega
 clear hl hX eA hz;have MQ:=Qh lN;clear lN;have l:=Qh hr;obtain⟨kn,D⟩:∃kn:Int,(h.kind.toNat:Int)=kn:=⟨_,rfl⟩
 obtain⟨W1,O⟩:∃W1,w.alloc (.cells (aa h) 66)=W1:=⟨_,rfl⟩
 have E:Below w.heap.size w W1:=by rw[←O];exact(Below.refl _ w).alloc (Qk _) _
 have G:ao W1 w.heap.size 66 (aa h):=by rw[←O];exact ao.new w _ _
 have L:=hr.below E;have B:Below w.heap.size w (W1.alloc (.cells #[.string ⟨#[]⟩,.slice none 0 0] 178)):=E.alloc E.size _;have M:=hr.below B;have W:=cz (L.idle ((Kept.refl ag _).drew)).map h.kind kn D;have Y:=cz (M.idle ((Kept.refl ag _).drew)).map h.kind kn D;rw[hw]at W Y;simp only[Option.getD_none,Option.isSome_none]at W Y;have x2:=L.c2;have k2:=G.cell 2;simp only[aa,Qc,Qa,Qb,D]at k2;have y2:=M.c2;have j2:=(G.alloc (.cells #[.string ⟨#[]⟩,.slice none 0 0] 178)).cell 2;simp only[aa,Qc,Qa,Qb,D]at j2;have N:=Qh E;have m:=Qh G;have R:=Qh D;clear hr hw D L M G E B
 go_enter Tryz.func75,Tryz.ntmps75
 go_upto_region 1 with fail
 clear O
 go_cut [5,6]from 13 to 22 (fun s5 s6 wx=>s5=.pointer (some ⟨W1.heap.size,0,none⟩)∧s6=.bool false∧wx=(W1.alloc (.cells #[.string ⟨#[]⟩,.slice none 0 0] 178)).drew)
 case first=>
  go_region
  all_goals (go_wp2;go_meet;exact⟨rfl,rfl,rfl⟩)
 case rest=>
  obtain⟨rfl,rfl,rfl⟩:=hcut;clear W Y x2 k2 y2 j2;have B:Below w.heap.size w (W1.alloc (.cells #[.string ⟨#[]⟩,.slice none 0 0] 178)).drew:=((N.out.alloc N.out.size _)).drew;have T:Hid (ao (W1.alloc (.cells #[.string ⟨#[]⟩,.slice none 0 0] 178)).drew w.heap.size 66 (aa h)):=Qh ((m.out.alloc _).drew);obtain⟨W2,jr⟩:∃W2,(W1.alloc (.cells #[.string ⟨#[]⟩,.slice none 0 0] 178)).drew=W2:=⟨_,rfl⟩
  rw[jr]at B T⊢;clear jr;have bI:=Qh B;have po:=Qh (l.out.below B);clear B N m;have x0:=po.out.c0;have b:=T.out.cell 7;simp only[aa,Qc,Qa,Qb,y.out]at b;have I:=po.out.idle ((Kept.refl ag W2).drew);obtain⟨t,hs⟩:=I.src
  have u:w.heap.size≠K.g:=by
   obtain⟨t',nJ⟩:=l.out.src;have:=nJ.lt;omega
  have yG:=Qh I;have rZ:=Qh u;have hB:=mG W2.drew K.g a t K.S hs I.off k Z.out X uw.out.1 uw.out.2;clear hs I u;go_upto_region 6 with fail
  go_region_held_law (fun w'=>w'.cell? ⟨K.r,0,none⟩=some (.pointer (some ⟨K.g,0,none⟩))∧w'.cell? ⟨w.heap.size,7,none⟩=some (.int .i64 (k:Int))) (first|exact⟨x0,b⟩|exact uq)
   (first
    |(go_at_call 108
      refine hB.mono ?_;rintro e w3 ⟨p,t',rfl,h2,h3,h4,U⟩;have d:=Qh (yG.out.fu U ⟨t',h4⟩);have J:Hid (ao w3 w.heap.size 66 (aa h)):=Qh ((T.out.drew).bW U rZ.out);have z:=Qh (And.intro h2 h3);have uq:w3.cell? ⟨K.r,0,none⟩=some (.pointer (some ⟨K.g,0,none⟩))∧w3.cell? ⟨w.heap.size,7,none⟩=some (.int .i64 (k:Int)):=⟨d.out.c0,by have:=J.out.cell 7;simp only[aa,Qc,Qa,Qb,y.out]at this;exact this⟩
      clear h2 h3 h4 U))
  clear hB uq x0 b;have k3:=J.out.cell 2;simp only[aa,Qc,Qa,Qb,R.out]at k3;obtain rfl:kn=76:=by rw[←R.out,MQ.out];rfl
  go_upto_region 10 with fail
  go_wp2_with fail
  refine(zb p k w3.heap.size X _ V.out (by have:=Z.out;omega) (z.out.1.alloc _) (ao.cell (ao.new w3 5 #[.int .u8 0]) 0)).mono ?_;rintro e w4 ⟨v2,v3,rfl,kI⟩;have H:Below w3.heap.size w3 w4:=(Kept.trans ((Kept.refl ag w3).alloc _) kI).below (Qk _) (fun _ h=>h.elim);have A:=Qh (d.out.below H);have AX:Hid (ao w4 w.heap.size 66 (aa h)):=Qh (J.out.below H J.out.lt)
  have o:cB w4 p (aF X).length (aF X):=by
   have h1:=(z.out.1.below H).take (k:=(aF X).length) (by rw[←V.out];exact(fP X).1)
   rwa [(fP X).2]at h1
  have nW:=Qh o;clear kI H o k3;go_upto_region 11 with fail;have k4:=AX.out.cell 2;simp only[aa,Qc,Qa,Qb,R.out]at k4;have x4:=A.out.c2;have cv4:(convert 26 9 (.slice p (aF X).length k)).run Tryz.prog w4=.ok (.string (str (aF X))) w4:=cD nW.out rfl _ _ _ Tryz.underlying26 Tryz.underlying5 Tryz.underlying9 _;have WH:(convert 26 9 (.slice p (aF X).length k)).run Tryz.prog w4.drew=.ok (.string (str (aF X))) w4.drew:=cD (nW.out.below ((Below.refl _ _).drew)) rfl _ _ _ Tryz.underlying26 Tryz.underlying5 Tryz.underlying9 _
  go_still_tail 9,(by kernel_rfl)
  refine cQ (K:=MD) rfl (.tmp 58) (.tmp 60) (.tmp 63) rfl Tryz.underlying89 Tryz.underlying5 K.mw (A.out.idle ((Kept.refl ag w4).drew)).map rfl 76 rfl (.agg #[.string (str (aF X)),.slice none 0 0]) rfl ?_;intro w5 vK ig qy;have f:=Qh (And.intro vK (And.intro ig qy));clear vK ig qy;go_wp2;go_ret;exact⟨rfl,mb,v,xs,q,n,c,(A.out.idle ((Kept.refl ag w4).drew)).waits f.out.2.1.out (by rw[←Lw];exact f.out.1.out) (A.out.idle ((Kept.refl ag w4).drew)).own rfl rfl A.out.oV A.out.ol (fun t ht=>by cases ht;have:=(fP X).1;rw[V.out]at this;have:=Z.out;omega) A.out.ll⟩
theorem J1 (hr:Rd w0 w K a s mb v xs q n c) (h:ak) (hw:bY s q n c h.kind=none) (k:Nat) (eA:h.size=(k:Int)) (hz:k≤1048576) (X:List UInt8) (hX:(K.S.bs.drop a).take k=X) (hl:a+eK k≤K.S.n) (lN:h.kind=75):
 Calls Tryz.prog 75 #[.pointer (some ⟨K.r,0,none⟩),.agg (aa h)] w fun e w'=>e=.returned (.int .i64 0)∧Left w0 K (a+eK k) {s with link:=some (aF X)} w':=by
 have V:Hid (X.length=k):=Qh (by
  obtain⟨t,hs⟩:=hr.src;have:=jE k;have:=hs.len
  rw[←hX,Qg,Qe];omega)
 have uw:=Qh (And.intro hX hl);have Z:=Qh hz;have y:=Qh eA;have sN:¬(1048576:Int)<(k:Int):=by omega
 clear hl hX eA hz;have MQ:=Qh lN;clear lN;have l:=Qh hr;obtain⟨kn,D⟩:∃kn:Int,(h.kind.toNat:Int)=kn:=⟨_,rfl⟩
 obtain⟨W1,O⟩:∃W1,w.alloc (.cells (aa h) 66)=W1:=⟨_,rfl⟩
 have E:Below w.heap.size w W1:=by rw[←O];exact(Below.refl _ w).alloc (Qk _) _
 have G:ao W1 w.heap.size 66 (aa h):=by rw[←O];exact ao.new w _ _
 have L:=hr.below E;have B:Below w.heap.size w (W1.alloc (.cells #[.string ⟨#[]⟩,.slice none 0 0] 178)):=E.alloc E.size _;have M:=hr.below B;have W:=cz (L.idle ((Kept.refl ag _).drew)).map h.kind kn D;have Y:=cz (M.idle ((Kept.refl ag _).drew)).map h.kind kn D;rw[hw]at W Y;simp only[Option.getD_none,Option.isSome_none]at W Y;have x2:=L.c2;have k2:=G.cell 2;simp only[aa,Qc,Qa,Qb,D]at k2;have y2:=M.c2;have j2:=(G.alloc (.cells #[.string ⟨#[]⟩,.slice none 0 0] 178)).cell 2;simp only[aa,Qc,Qa,Qb,D]at j2;have N:=Qh E;have m:=Qh G;have R:=Qh D;clear hr hw D L M G E B
 go_enter Tryz.func75,Tryz.ntmps75
 go_upto_region 1 with fail
 clear O
 go_cut [5,6]from 13 to 22 (fun s5 s6 wx=>s5=.pointer (some ⟨W1.heap.size,0,none⟩)∧s6=.bool false∧wx=(W1.alloc (.cells #[.string ⟨#[]⟩,.slice none 0 0] 178)).drew)
 case first=>
  go_region
  all_goals (go_wp2;go_meet;exact⟨rfl,rfl,rfl⟩)
 case rest=>
  obtain⟨rfl,rfl,rfl⟩:=hcut;clear W Y x2 k2 y2 j2;have B:Below w.heap.size w (W1.alloc (.cells #[.string ⟨#[]⟩,.slice none 0 0] 178)).drew:=((N.out.alloc N.out.size _)).drew;have T:Hid (ao (W1.alloc (.cells #[.string ⟨#[]⟩,.slice none 0 0] 178)).drew w.heap.size 66 (aa h)):=Qh ((m.out.alloc _).drew);obtain⟨W2,jr⟩:∃W2,(W1.alloc (.cells #[.string ⟨#[]⟩,.slice none 0 0] 178)).drew=W2:=⟨_,rfl⟩
  rw[jr]at B T⊢;clear jr;have bI:=Qh B;have po:=Qh (l.out.below B);clear B N m;have x0:=po.out.c0;have b:=T.out.cell 7;simp only[aa,Qc,Qa,Qb,y.out]at b;have I:=po.out.idle ((Kept.refl ag W2).drew);obtain⟨t,hs⟩:=I.src
  have u:w.heap.size≠K.g:=by
   obtain⟨t',nJ⟩:=l.out.src;have:=nJ.lt;omega
  have yG:=Qh I;have rZ:=Qh u;have hB:=mG W2.drew K.g a t K.S hs I.off k Z.out X uw.out.1 uw.out.2;clear hs I u;go_upto_region 6 with fail
  go_region_held_law (fun w'=>w'.cell? ⟨K.r,0,none⟩=some (.pointer (some ⟨K.g,0,none⟩))∧w'.cell? ⟨w.heap.size,7,none⟩=some (.int .i64 (k:Int))) (first|exact⟨x0,b⟩|exact uq)
   (first
    |(go_at_call 108
      refine hB.mono ?_;rintro e w3 ⟨p,t',rfl,h2,h3,h4,U⟩;have d:=Qh (yG.out.fu U ⟨t',h4⟩);have J:Hid (ao w3 w.heap.size 66 (aa h)):=Qh ((T.out.drew).bW U rZ.out);have z:=Qh (And.intro h2 h3);have uq:w3.cell? ⟨K.r,0,none⟩=some (.pointer (some ⟨K.g,0,none⟩))∧w3.cell? ⟨w.heap.size,7,none⟩=some (.int .i64 (k:Int)):=⟨d.out.c0,by have:=J.out.cell 7;simp only[aa,Qc,Qa,Qb,y.out]at this;exact this⟩
      clear h2 h3 h4 U))
  clear hB uq x0 b;have k3:=J.out.cell 2;simp only[aa,Qc,Qa,Qb,R.out]at k3;obtain rfl:kn=75:=by rw[←R.out,MQ.out];rfl
  go_upto_region 10 with fail
  go_wp2_with fail
  refine(zb p k w3.heap.size X _ V.out (by have:=Z.out;omega) (z.out.1.alloc _) (ao.cell (ao.new w3 5 #[.int .u8 0]) 0)).mono ?_;rintro e w4 ⟨v2,v3,rfl,kI⟩;have H:Below w3.heap.size w3 w4:=(Kept.trans ((Kept.refl ag w3).alloc _) kI).below (Qk _) (fun _ h=>h.elim);have A:=Qh (d.out.below H);have AX:Hid (ao w4 w.heap.size 66 (aa h)):=Qh (J.out.below H J.out.lt)
  have o:cB w4 p (aF X).length (aF X):=by
   have h1:=(z.out.1.below H).take (k:=(aF X).length) (by rw[←V.out];exact(fP X).1)
   rwa [(fP X).2]at h1
  have nW:=Qh o;clear kI H o k3;go_upto_region 11 with fail;have k4:=AX.out.cell 2;simp only[aa,Qc,Qa,Qb,R.out]at k4;have x4:=A.out.c2;have cv4:(convert 26 9 (.slice p (aF X).length k)).run Tryz.prog w4=.ok (.string (str (aF X))) w4:=cD nW.out rfl _ _ _ Tryz.underlying26 Tryz.underlying5 Tryz.underlying9 _;have WH:(convert 26 9 (.slice p (aF X).length k)).run Tryz.prog w4.drew=.ok (.string (str (aF X))) w4.drew:=cD (nW.out.below ((Below.refl _ _).drew)) rfl _ _ _ Tryz.underlying26 Tryz.underlying5 Tryz.underlying9 _
  go_still_tail 9,(by kernel_rfl)
  refine cQ (K:=MD) rfl (.tmp 58) (.tmp 60) (.tmp 63) rfl Tryz.underlying89 Tryz.underlying5 K.mw (A.out.idle ((Kept.refl ag w4).drew)).map rfl 75 rfl (.agg #[.string (str (aF X)),.slice none 0 0]) rfl ?_;intro w5 vK ig qy;have f:=Qh (And.intro vK (And.intro ig qy));clear vK ig qy;go_wp2;go_ret;exact⟨rfl,mb,v,xs,q,n,c,(A.out.idle ((Kept.refl ag w4).drew)).waits f.out.2.1.out (by rw[←Lv];exact f.out.1.out) (A.out.idle ((Kept.refl ag w4).drew)).own rfl rfl A.out.oV A.out.ol A.out.nl (fun t ht=>by cases ht;have:=(fP X).1;rw[V.out]at this;have:=Z.out;omega)⟩
end
section
variable {w0 w w':World} {K:RK} {a:Nat} {s:RS} {mb:Option Nat} {v:Value} {xs:List MP} {q:Option Addr} {n c:Nat}
theorem Cb (hr:Rd w0 w K a s mb v xs q n c) (h:ak) (hw:bY s q n c h.kind=none) (k:Nat) (eA:h.size=(k:Int)) (hz:k≤1048576) (X:List UInt8) (hX:(K.S.bs.drop a).take k=X) (hl:a+eK k≤K.S.n) (E:Int) (hE:(cG 5 9 X).2=E) (Th:E≠0) (hnk:(h.kind.toNat:Int)≠76∧(h.kind.toNat:Int)≠75) (hN:Need w0):
 Calls Tryz.prog 75 #[.pointer (some ⟨K.r,0,none⟩),.agg (aa h)] w fun e w'=>e=.returned (.int .i64 E)∧Below w0.heap.size w0 w':=by
 have jM:Hid (X.length=k):=Qh (by
  obtain⟨t,hs⟩:=hr.src;have:=jE k;have:=hs.len
  rw[←hX,Qg,Qe];omega)
 have uw:=Qh (And.intro hX hl);have nY:=Qh hz;have fZ:=Qh eA;have sN:¬(1048576:Int)<(k:Int):=by omega
 clear hl hX eA hz;have MJ:=Qh hE;have N:=Qh Th;have y:=Qh hnk;have mE:=Qh hN;clear hE Th hnk hN;have o:=Qh hr;obtain⟨kn,B⟩:∃kn:Int,(h.kind.toNat:Int)=kn:=⟨_,rfl⟩
 obtain⟨W1,U⟩:∃W1,w.alloc (.cells (aa h) 66)=W1:=⟨_,rfl⟩
 have D:Below w.heap.size w W1:=by rw[←U];exact(Below.refl _ w).alloc (Qk _) _
 have G:ao W1 w.heap.size 66 (aa h):=by rw[←U];exact ao.new w _ _
 have O:=hr.below D;have A:Below w.heap.size w (W1.alloc (.cells #[.string ⟨#[]⟩,.slice none 0 0] 178)):=D.alloc D.size _;have R:=hr.below A;have d:=cz (O.idle ((Kept.refl ag _).drew)).map h.kind kn B;have f:=cz (R.idle ((Kept.refl ag _).drew)).map h.kind kn B;rw[hw]at d f;simp only[Option.getD_none,Option.isSome_none]at d f;have x2:=O.c2;have k2:=G.cell 2;simp only[aa,Qc,Qa,Qb,B]at k2;have y2:=R.c2;have j2:=(G.alloc (.cells #[.string ⟨#[]⟩,.slice none 0 0] 178)).cell 2;simp only[aa,Qc,Qa,Qb,B]at j2;have T:=Qh D;have u:=Qh G;have W:=Qh B;clear hr hw B O R G D A
 go_enter Tryz.func75,Tryz.ntmps75
 go_upto_region 1 with fail
 clear U
 go_cut [5,6]from 13 to 22 (fun s5 s6 wx=>s5=.pointer (some ⟨W1.heap.size,0,none⟩)∧s6=.bool false∧wx=(W1.alloc (.cells #[.string ⟨#[]⟩,.slice none 0 0] 178)).drew)
 case first=>
  go_region
  all_goals (go_wp2;go_meet;exact⟨rfl,rfl,rfl⟩)
 case rest=>
  obtain⟨rfl,rfl,rfl⟩:=hcut;clear d f x2 k2 y2 j2;have A:Below w.heap.size w (W1.alloc (.cells #[.string ⟨#[]⟩,.slice none 0 0] 178)).drew:=((T.out.alloc T.out.size _)).drew;have Z:Hid (ao (W1.alloc (.cells #[.string ⟨#[]⟩,.slice none 0 0] 178)).drew w.heap.size 66 (aa h)):=Qh ((u.out.alloc _).drew);obtain⟨W2,jr⟩:∃W2,(W1.alloc (.cells #[.string ⟨#[]⟩,.slice none 0 0] 178)).drew=W2:=⟨_,rfl⟩
  rw[jr]at A Z⊢;clear jr;have bI:=Qh A;have po:=Qh (o.out.below A);clear A T u;have x0:=po.out.c0;have m:=Z.out.cell 7;simp only[aa,Qc,Qa,Qb,fZ.out]at m;have I:=po.out.idle ((Kept.refl ag W2).drew);obtain⟨t,hs⟩:=I.src
  have z:w.heap.size≠K.g:=by
   obtain⟨t',nJ⟩:=o.out.src;have:=nJ.lt;omega
  have yG:=Qh I;have rZ:=Qh z;have hB:=mG W2.drew K.g a t K.S hs I.off k nY.out X uw.out.1 uw.out.2;clear hs I z;go_upto_region 6 with fail
  go_region_held_law (fun w'=>w'.cell? ⟨K.r,0,none⟩=some (.pointer (some ⟨K.g,0,none⟩))∧w'.cell? ⟨w.heap.size,7,none⟩=some (.int .i64 (k:Int))) (first|exact⟨x0,m⟩|exact uq)
   (first
    |(go_at_call 108
      refine hB.mono ?_;rintro e w3 ⟨p,t',rfl,h2,h3,h4,b⟩;have M:=Qh (yG.out.fu b ⟨t',h4⟩);have J:Hid (ao w3 w.heap.size 66 (aa h)):=Qh ((Z.out.drew).bW b rZ.out);have ff:=Qh (And.intro h2 h3);have uq:w3.cell? ⟨K.r,0,none⟩=some (.pointer (some ⟨K.g,0,none⟩))∧w3.cell? ⟨w.heap.size,7,none⟩=some (.int .i64 (k:Int)):=⟨M.out.c0,by have:=J.out.cell 7;simp only[aa,Qc,Qa,Qb,fZ.out]at this;exact this⟩
      clear h2 h3 h4 b))
  clear hB uq x0 m;have k3:=J.out.cell 2;simp only[aa,Qc,Qa,Qb,W.out]at k3;have e1:(kn==76)=false:=by have:=y.out.1;rw[W.out]at this;simpa using this
  have e2:(kn==75)=false:=by have:=y.out.2;rw[W.out]at this;simpa using this
  go_upto_region 13 with fail
  go_wp2_with fail
  refine(kS p k k X w3 jM.out (Qk _) (by have:=nY.out;omega) ff.out.1 (M.out.Hr mE.out)).mono ?_;rintro e w4 ⟨p4,c4,rfl,_,_,L,Y⟩;obtain⟨⟨rs,V⟩,H⟩:∃x,cG 5 9 X=x:=⟨_,rfl⟩
  have hlen:=pU 5 9 X;rw[H]at L hlen;simp only[H];rw[jM.out]at hlen;have qW:Hid (cG 5 9 X=(rs,V)):=Qh H;obtain⟨rl,l⟩:∃rl,rs.length=rl:=⟨_,rfl⟩
  simp only[l]at L⊢;have H4:=Qh (M.out.below Y);have AX:Hid (ao w4 w.heap.size 66 (aa h)):=Qh (J.out.below Y J.out.lt);have Bg:=Qh L;have yy:=Qh hlen;have PO:=Qh l;clear L hlen Y H l k3;obtain rfl:V=E:=by have:=MJ.out;rw[qW.out]at this;exact this
  have ab6:(V != 0)=true:=by simpa using N.out
  go_wp2;go_ret;exact⟨rfl,H4.out.bel⟩
theorem J0 (hr:Rd w0 w K a s mb v xs q n c) (h:ak) (hw:bY s q n c h.kind=none) (k:Nat) (eA:h.size=(k:Int)) (hz:k≤1048576) (X:List UInt8) (hX:(K.S.bs.drop a).take k=X) (hl:a+eK k≤K.S.n) (R:ca) (hR:cG 5 9 X=(R,0)) (lN:h.kind=103) (hN:Need w0):
 Calls Tryz.prog 75 #[.pointer (some ⟨K.r,0,none⟩),.agg (aa h)] w fun e w'=>e=.returned (.int .i64 0)∧Left w0 K (a+eK k) {s with cU:=s.cU++R} w':=by
 have jM:Hid (X.length=k):=Qh (by
  obtain⟨t,hs⟩:=hr.src;have:=jE k;have:=hs.len
  rw[←hX,Qg,Qe];omega)
 have uw:=Qh (And.intro hX hl);have J:=Qh hz;have fZ:=Qh eA;have sN:¬(1048576:Int)<(k:Int):=by omega
 clear hl hX eA hz;have z:=Qh hR;have MQ:=Qh lN;have mE:=Qh hN;clear hR lN hN;have u:=Qh hr;obtain⟨kn,D⟩:∃kn:Int,(h.kind.toNat:Int)=kn:=⟨_,rfl⟩
 obtain⟨W1,W⟩:∃W1,w.alloc (.cells (aa h) 66)=W1:=⟨_,rfl⟩
 have E:Below w.heap.size w W1:=by rw[←W];exact(Below.refl _ w).alloc (Qk _) _
 have G:ao W1 w.heap.size 66 (aa h):=by rw[←W];exact ao.new w _ _
 have T:=hr.below E;have A:Below w.heap.size w (W1.alloc (.cells #[.string ⟨#[]⟩,.slice none 0 0] 178)):=E.alloc E.size _;have U:=hr.below A;have f:=cz (T.idle ((Kept.refl ag _).drew)).map h.kind kn D;have l:=cz (U.idle ((Kept.refl ag _).drew)).map h.kind kn D;rw[hw]at f l;simp only[Option.getD_none,Option.isSome_none]at f l;have x2:=T.c2;have k2:=G.cell 2;simp only[aa,Qc,Qa,Qb,D]at k2;have y2:=U.c2;have j2:=(G.alloc (.cells #[.string ⟨#[]⟩,.slice none 0 0] 178)).cell 2;simp only[aa,Qc,Qa,Qb,D]at j2;have V:=Qh E;have y:=Qh G;have Y:=Qh D;clear hr hw D T U G E A
 go_enter Tryz.func75,Tryz.ntmps75
 go_upto_region 1 with fail
 clear W
 go_cut [5,6]from 13 to 22 (fun s5 s6 wx=>s5=.pointer (some ⟨W1.heap.size,0,none⟩)∧s6=.bool false∧wx=(W1.alloc (.cells #[.string ⟨#[]⟩,.slice none 0 0] 178)).drew)
 case first=>
  go_region
  all_goals (go_wp2;go_meet;exact⟨rfl,rfl,rfl⟩)
 case rest=>
  obtain⟨rfl,rfl,rfl⟩:=hcut;clear f l x2 k2 y2 j2;have A:Below w.heap.size w (W1.alloc (.cells #[.string ⟨#[]⟩,.slice none 0 0] 178)).drew:=((V.out.alloc V.out.size _)).drew;have b:Hid (ao (W1.alloc (.cells #[.string ⟨#[]⟩,.slice none 0 0] 178)).drew w.heap.size 66 (aa h)):=Qh ((y.out.alloc _).drew);obtain⟨W2,jr⟩:∃W2,(W1.alloc (.cells #[.string ⟨#[]⟩,.slice none 0 0] 178)).drew=W2:=⟨_,rfl⟩
  rw[jr]at A b⊢;clear jr;have bI:=Qh A;have po:=Qh (u.out.below A);clear A V y;have x0:=po.out.c0;have o:=b.out.cell 7;simp only[aa,Qc,Qa,Qb,fZ.out]at o;have I:=po.out.idle ((Kept.refl ag W2).drew);obtain⟨t,hs⟩:=I.src
  have cV:w.heap.size≠K.g:=by
   obtain⟨t',nJ⟩:=u.out.src;have:=nJ.lt;omega
  have yG:=Qh I;have rZ:=Qh cV;have hB:=mG W2.drew K.g a t K.S hs I.off k J.out X uw.out.1 uw.out.2;clear hs I cV;go_upto_region 6 with fail
  go_region_held_law (fun w'=>w'.cell? ⟨K.r,0,none⟩=some (.pointer (some ⟨K.g,0,none⟩))∧w'.cell? ⟨w.heap.size,7,none⟩=some (.int .i64 (k:Int))) (first|exact⟨x0,o⟩|exact uq)
   (first
    |(go_at_call 108
      refine hB.mono ?_;rintro e w3 ⟨p,t',rfl,h2,h3,h4,d⟩;have N:=Qh (yG.out.fu d ⟨t',h4⟩);have L:Hid (ao w3 w.heap.size 66 (aa h)):=Qh ((b.out.drew).bW d rZ.out);have ff:=Qh (And.intro h2 h3);have uq:w3.cell? ⟨K.r,0,none⟩=some (.pointer (some ⟨K.g,0,none⟩))∧w3.cell? ⟨w.heap.size,7,none⟩=some (.int .i64 (k:Int)):=⟨N.out.c0,by have:=L.out.cell 7;simp only[aa,Qc,Qa,Qb,fZ.out]at this;exact this⟩
      clear h2 h3 h4 d))
  clear hB uq x0 o;have k3:=L.out.cell 2;simp only[aa,Qc,Qa,Qb,Y.out]at k3;obtain rfl:kn=103:=by rw[←Y.out,MQ.out];rfl
  go_upto_region 13 with fail
  go_wp2_with fail
  refine(kS p k k X w3 jM.out (Qk _) (by have:=J.out;omega) ff.out.1 (N.out.Hr mE.out)).mono ?_;rintro e w4 ⟨p4,c4,rfl,_,_,M,Z⟩;obtain⟨⟨rs,er⟩,H⟩:∃x,cG 5 9 X=x:=⟨_,rfl⟩
  have hlen:=pU 5 9 X;rw[H]at M hlen;simp only[H];rw[jM.out]at hlen;have qW:Hid (cG 5 9 X=(rs,er)):=Qh H;obtain⟨rl,m⟩:∃rl,rs.length=rl:=⟨_,rfl⟩
  simp only[m]at M⊢;have O:=Qh (N.out.below Z);have AX:Hid (ao w4 w.heap.size 66 (aa h)):=Qh (L.out.below Z L.out.lt);have Bg:=Qh M;have yy:=Qh hlen;have PO:=Qh m;clear M hlen Z H m k3;obtain rfl:er=0:=by have:=z.out;rw[qW.out]at this;exact congrArg Prod.snd this
  obtain rfl:rs=R:=by have:=z.out;rw[qW.out]at this;exact congrArg Prod.fst this
  have k4:=AX.out.cell 2;simp only[aa,Qc,Qa,Qb,Y.out]at k4;have x1:=O.out.c1;go_wp2_with fail;refine(show Calls _ _ _ _ (nV _ K.gs mb (aH s.cU) rs)from Cj K.gs mb (aH s.cU) p4 rl _ rs _ O.out.st (by have:=yy.out.2;rw[PO.out]at this;have:=J.out;omega) Bg.out).mono ?_;rintro e w5 ⟨rfl,B,qy,ig,uo⟩;have F:=Qh (O.out.Td qy ig uo (fun r hr=>by have:=yy.out.1 r hr;have:=J.out;omega));clear qy ig uo k4 x1;go_wp2;go_ret;exact⟨rfl,some B,v,xs,q,n,c,F.out⟩
theorem Nk (hr:Rd w0 w K a s mb v xs q n c) (h:ak) (hw:bY s q n c h.kind=none) (k:Nat) (eA:h.size=(k:Int)) (hz:k≤1048576) (X:List UInt8) (hX:(K.S.bs.drop a).take k=X) (hl:a+eK k≤K.S.n) (R:ca) (hR:cG 5 9 X=(R,0)) (lN:h.kind=120) (hN:Need w0):
 Calls Tryz.prog 75 #[.pointer (some ⟨K.r,0,none⟩),.agg (aa h)] w fun e w'=>e=.returned (.int .i64 0)∧Left w0 K (a+eK k) {s with eC:=true,own:=R} w':=by
 have jM:Hid (X.length=k):=Qh (by
  obtain⟨t,hs⟩:=hr.src;have:=jE k;have:=hs.len
  rw[←hX,Qg,Qe];omega)
 have uw:=Qh (And.intro hX hl);have J:=Qh hz;have fZ:=Qh eA;have sN:¬(1048576:Int)<(k:Int):=by omega
 clear hl hX eA hz;have MJ:=Qh hR;have MQ:=Qh lN;have mE:=Qh hN;clear hR lN hN;have z:=Qh hr;obtain⟨kn,B⟩:∃kn:Int,(h.kind.toNat:Int)=kn:=⟨_,rfl⟩
 obtain⟨W1,W⟩:∃W1,w.alloc (.cells (aa h) 66)=W1:=⟨_,rfl⟩
 have E:Below w.heap.size w W1:=by rw[←W];exact(Below.refl _ w).alloc (Qk _) _
 have G:ao W1 w.heap.size 66 (aa h):=by rw[←W];exact ao.new w _ _
 have T:=hr.below E;have A:Below w.heap.size w (W1.alloc (.cells #[.string ⟨#[]⟩,.slice none 0 0] 178)):=E.alloc E.size _;have U:=hr.below A;have f:=cz (T.idle ((Kept.refl ag _).drew)).map h.kind kn B;have l:=cz (U.idle ((Kept.refl ag _).drew)).map h.kind kn B;rw[hw]at f l;simp only[Option.getD_none,Option.isSome_none]at f l;have x2:=T.c2;have k2:=G.cell 2;simp only[aa,Qc,Qa,Qb,B]at k2;have y2:=U.c2;have j2:=(G.alloc (.cells #[.string ⟨#[]⟩,.slice none 0 0] 178)).cell 2;simp only[aa,Qc,Qa,Qb,B]at j2;have V:=Qh E;have HX:=Qh G;have Y:=Qh B;clear hr hw B T U G E A
 go_enter Tryz.func75,Tryz.ntmps75
 go_upto_region 1 with fail
 clear W
 go_cut [5,6]from 13 to 22 (fun s5 s6 wx=>s5=.pointer (some ⟨W1.heap.size,0,none⟩)∧s6=.bool false∧wx=(W1.alloc (.cells #[.string ⟨#[]⟩,.slice none 0 0] 178)).drew)
 case first=>
  go_region
  all_goals (go_wp2;go_meet;exact⟨rfl,rfl,rfl⟩)
 case rest=>
  obtain⟨rfl,rfl,rfl⟩:=hcut;clear f l x2 k2 y2 j2;have A:Below w.heap.size w (W1.alloc (.cells #[.string ⟨#[]⟩,.slice none 0 0] 178)).drew:=((V.out.alloc V.out.size _)).drew;have b:Hid (ao (W1.alloc (.cells #[.string ⟨#[]⟩,.slice none 0 0] 178)).drew w.heap.size 66 (aa h)):=Qh ((HX.out.alloc _).drew);obtain⟨W2,jr⟩:∃W2,(W1.alloc (.cells #[.string ⟨#[]⟩,.slice none 0 0] 178)).drew=W2:=⟨_,rfl⟩
  rw[jr]at A b⊢;clear jr;have bI:=Qh A;have po:=Qh (z.out.below A);clear A V HX;have x0:=po.out.c0;have u:=b.out.cell 7;simp only[aa,Qc,Qa,Qb,fZ.out]at u;have I:=po.out.idle ((Kept.refl ag W2).drew);obtain⟨t,hs⟩:=I.src
  have cV:w.heap.size≠K.g:=by
   obtain⟨t',nJ⟩:=z.out.src;have:=nJ.lt;omega
  have yG:=Qh I;have rZ:=Qh cV;have hB:=mG W2.drew K.g a t K.S hs I.off k J.out X uw.out.1 uw.out.2;clear hs I cV;go_upto_region 6 with fail
  go_region_held_law (fun w'=>w'.cell? ⟨K.r,0,none⟩=some (.pointer (some ⟨K.g,0,none⟩))∧w'.cell? ⟨w.heap.size,7,none⟩=some (.int .i64 (k:Int))) (first|exact⟨x0,u⟩|exact uq)
   (first
    |(go_at_call 108
      refine hB.mono ?_;rintro e w3 ⟨p,t',rfl,h2,h3,h4,d⟩;have O:=Qh (yG.out.fu d ⟨t',h4⟩);have L:Hid (ao w3 w.heap.size 66 (aa h)):=Qh ((b.out.drew).bW d rZ.out);have ff:=Qh (And.intro h2 h3);have uq:w3.cell? ⟨K.r,0,none⟩=some (.pointer (some ⟨K.g,0,none⟩))∧w3.cell? ⟨w.heap.size,7,none⟩=some (.int .i64 (k:Int)):=⟨O.out.c0,by have:=L.out.cell 7;simp only[aa,Qc,Qa,Qb,fZ.out]at this;exact this⟩
      clear h2 h3 h4 d))
  clear hB uq x0 u;have k3:=L.out.cell 2;simp only[aa,Qc,Qa,Qb,Y.out]at k3;obtain rfl:kn=120:=by rw[←Y.out,MQ.out];rfl
  go_upto_region 13 with fail
  go_wp2_with fail
  refine(kS p k k X w3 jM.out (Qk _) (by have:=J.out;omega) ff.out.1 (O.out.Hr mE.out)).mono ?_;rintro e M ⟨m,c4,rfl,_,_,N,Z⟩;obtain⟨⟨rs,er⟩,H⟩:∃x,cG 5 9 X=x:=⟨_,rfl⟩
  have hlen:=pU 5 9 X;rw[H]at N hlen;simp only[H];rw[jM.out]at hlen;have qW:Hid (cG 5 9 X=(rs,er)):=Qh H;obtain⟨rl,o⟩:∃rl,rs.length=rl:=⟨_,rfl⟩
  simp only[o]at N⊢;have D:=Qh (O.out.below Z);have AX:Hid (ao M w.heap.size 66 (aa h)):=Qh (L.out.below Z L.out.lt);have Bg:=Qh N;have yy:=Qh hlen;have PO:=Qh o;clear N hlen Z H o k3;obtain rfl:er=0:=by have:=MJ.out;rw[qW.out]at this;exact congrArg Prod.snd this
  obtain rfl:rs=R:=by have:=MJ.out;rw[qW.out]at this;exact congrArg Prod.fst this
  have k4:=AX.out.cell 2;simp only[aa,Qc,Qa,Qb,Y.out]at k4;go_upto_region 19 with fail;have x4:=D.out.c2
  go_still_tail 8,(by kernel_rfl)
  refine cQ (K:=MD) rfl (.tmp 84) (.tmp 86) (.tmp 88) rfl Tryz.underlying89 Tryz.underlying5 K.mw (D.out.idle ((Kept.refl ag M).drew)).map rfl 120 rfl (.agg #[.string ⟨#[]⟩,.slice m rl c4]) rfl ?_;intro w5 vK ig qy;have y:=Qh (And.intro vK (And.intro ig qy));clear vK ig qy;go_wp2;go_ret;exact⟨rfl,mb,v,xs,m,rl,c4,(D.out.idle ((Kept.refl ag M).drew)).waits y.out.2.1.out (by rw[←Of s q m n c rl c4 rs];exact y.out.1.out) (dn Bg.out ((Kept.refl ag M).drew) (fun _ _ _=>id)) rfl rfl (fun h=>by cases h) ⟨fun r hr=>by have:=yy.out.1 r hr;have:=J.out;omega,by show rs.length≤1048576;have:=yy.out.2;have:=J.out;omega⟩ D.out.nl D.out.ll⟩
end
section
variable {w0 w w':World} {K:RK} {a:Nat} {s:RS} {mb:Option Nat} {v:Value} {xs:List MP} {q:Option Addr} {n c:Nat}
def dB (w0:World) (K:RK) (a:Nat) (st:Step) (e:Ending) (w':World):Prop:=
 match st with
 |.fault er=>e=.returned (.int .i64 er)∧Below w0.heap.size w0 w'
 |.done=>False
 |.next k s'=>e=.returned (.int .i64 0)∧Left w0 K (a+k) s' w'
theorem wZ (s:RS) (q:Option Addr) (n c:Nat) (k:UInt8):(bY s q n c k).isSome=true↔(k=120∧s.eC=true)∨(k=76∧s.name.isSome=true)∨(k=75∧s.link.isSome=true):=by
 unfold bY
 by_cases h1:k=120
 ·subst h1
  cases s.eC<;>simp
 ·by_cases A:k=76
  ·subst A
   cases s.name<;>simp
  ·by_cases B:k=75
   ·subst B
    cases s.link<;>simp
   ·simp[h1,A,B]
theorem rD (hr:Rd w0 w K (a+512) s mb v xs q n c) (h:ak) (h0:0≤h.size) (hk:oH h.kind=true) (hN:Need w0):
 Calls Tryz.prog 75 #[.pointer (some ⟨K.r,0,none⟩),.agg (aa h)] w (dB w0 K a (iY (K.S.bs.drop a) h s)):=by
 obtain⟨t,hs⟩:=hr.src;have hlen:=hs.len;have hle:=hs.le;have O:(K.S.bs.drop a).length=K.S.n - a:=by rw[Qe,hlen]
 unfold iY
 by_cases h1:(h.kind=120∧s.eC=true)∨(h.kind=76∧s.name.isSome=true)∨(h.kind=75∧s.link.isSome=true)
 ·rw[if_pos h1]
  refine(Gx hr h ((wZ s q n c h.kind).2 h1)).mono ?_;rintro e w' ⟨rfl,A⟩;exact⟨rfl,hr.bel.trans (A.mono hr.bel.size)⟩
 ·rw[if_neg h1]
  have hw:bY s q n c h.kind=none:=by
   cases T:bY s q n c h.kind with
   |none=>rfl
   |some y=>exact absurd ((wZ s q n c h.kind).1 (by rw[T];rfl)) h1
  by_cases M:1048576<h.size
  ·rw[if_pos M]
   refine(Gv hr h hw M).mono ?_;rintro e w' ⟨rfl,A⟩;exact⟨rfl,hr.bel.trans (A.mono hr.bel.size)⟩
  ·rw[if_neg M]
   obtain⟨k,B⟩:∃k:Nat,h.size=(k:Int):=⟨h.size.toNat,by omega⟩
   have E:k≤1048576:=by omega
   have L:aR k=eK k:=rfl;unfold qj;rw[B,Int.toNat_natCast,O]
   by_cases R:K.S.n<a+512+eK k
   ·rw[if_pos (by rw[L];omega)]
    refine(Gw hr h hw k B E R).mono ?_;rintro e w' ⟨rfl,A⟩;exact⟨rfl,A⟩
   ·rw[if_neg (by rw[L];omega)]
    simp only;obtain⟨X,D⟩:∃X,(K.S.bs.drop (a+512)).take k=X:=⟨_,rfl⟩
    rw[List.drop_drop,D,L];have hl:a+512+eK k≤K.S.n:=by omega
    by_cases G:h.kind=76
    ·rw[if_pos G]
     refine(J2 hr h hw k B E X D hl G).mono ?_;rintro e w' ⟨rfl,A⟩;rw[Nat.add_assoc]at A;exact⟨rfl,A⟩
    ·rw[if_neg G]
     by_cases H:h.kind=75
     ·rw[if_pos H]
      refine(J1 hr h hw k B E X D hl H).mono ?_;rintro e w' ⟨rfl,A⟩;rw[Nat.add_assoc]at A;exact⟨rfl,A⟩
     ·rw[if_neg H]
      by_cases I:(cG 5 9 X).2≠0
      ·rw[if_pos I]
       refine(Cb hr h hw k B E X D hl _ rfl I ⟨fun e=>G ((jq h.kind 76 (by decide)).1 e),fun e=>H ((jq h.kind 75 (by decide)).1 e)⟩ hN).mono ?_;rintro e w' ⟨rfl,A⟩;exact⟨rfl,A⟩
      ·rw[if_neg I]
       have N:cG 5 9 X=((cG 5 9 X).1,0):=Prod.ext rfl (Classical.byContradiction I)
       by_cases J:h.kind=103
       ·rw[if_pos J]
        refine(J0 hr h hw k B E X D hl _ N J hN).mono ?_;rintro e w' ⟨rfl,A⟩;rw[Nat.add_assoc]at A;exact⟨rfl,A⟩
       ·rw[if_neg J]
        have U:h.kind=120:=by
         unfold oH at hk
         simpa [G,H,J]using hk
        refine(Nk hr h hw k B E X D hl _ N U hN).mono ?_;rintro e w' ⟨rfl,A⟩;rw[Nat.add_assoc]at A;exact⟨rfl,A⟩
end
end Mem
namespace Mem
open Mk Block Attr Path Go.Shelf
variable {c' n':Nat} {q':Option Addr}
section
variable {w0 w w':World} {K:RK} {a:Nat} {s:RS} {mb:Option Nat} {v:Value} {xs:List MP} {q:Option Addr} {n c:Nat}
def ye (s:RS) (q:Option Addr) (n c:Nat):Option Addr × Nat × Nat:=if s.eC=true then(q,n,c)else(none,0,0)
theorem rL (h:cF MD w K.mw (bY s q n c)) (ho:ye s q n c=(q',n',c')):
 (Instr.lookup 89 (.map (some K.mw)) (.int .u8 120) false).run Tryz.prog w=.ok (.agg #[.string ⟨#[]⟩,.slice q' n' c']) w:=by
 have:=h.look Tryz.underlying89 Tryz.underlying5 En 120;have e:bY s q n c 120=if s.eC=true then some (.agg #[.string ⟨#[]⟩,.slice q n c])else none:=by unfold bY;rw[if_pos rfl]
 rw[e]at this;unfold ye at ho
 cases A:s.eC with
 |true=>
  rw[A,if_pos rfl]at ho this
  cases ho
  exact this
 |false=>
  rw[A,if_neg (by decide)]at ho this
  cases ho
  exact this
theorem Rd.UC (h:Rd w0 w K a s mb v xs q n c) (ho:ye s q n c=(q',n',c')):cd w q' n' s.own∧n'≤1048576:=by
 unfold ye at ho
 cases A:s.eC with
 |true=>
  rw[A,if_pos rfl]at ho
  cases ho
  refine⟨h.own,?_⟩;have h1:=h.own.1;have B:=h.ol.2;omega
 |false=>
  rw[A,if_neg (by decide)]at ho
  cases ho
  rw[h.oV A];exact⟨⟨rfl,fun h=>absurd h (by omega)⟩,by omega⟩
theorem Gu (w:World) (x:ByteArray) (p:Option Addr) (m d:Nat):(Instr.field 178 (.agg #[.string x,.slice p m d]) 1).run Tryz.prog w=.ok (.slice p m d) w:=by
 kernel_rfl
theorem Fi (h:ak) (hr:Rd w0 w K a s mb v xs q n c) (h1:h.name.length≤1048576) (h2:h.link.length≤1048576):(ey h s).name.length≤1048576∧(ey h s).link.length≤1048576:=by
 unfold ey;constructor
 ·show(s.name.getD h.name).length≤_
  cases A:s.name with
  |none=>exact h1
  |some t=>exact hr.nl t A
 ·show(s.link.getD h.link).length≤_
  cases A:s.link with
  |none=>exact h2
  |some t=>exact hr.ll t A
theorem og (h:ak) (hr:Rd w0 w K a s mb v xs q n c) (h0:0≤h.size) (h1:h.name.length≤1048576) (h2:h.link.length≤1048576):
 0≤(cA (aH s.cU) s.own (ey h s)).1.size∧(cA (aH s.cU) s.own (ey h s)).1.name.length≤1048576∧(cA (aH s.cU) s.own (ey h s)).1.link.length≤1048576:=
 Gc 1048576 (fun i _=>zm hr.gl hr.ol.1 _) h0 (Fi h hr h1 h2).1 (Fi h hr h1 h2).2
theorem oh (h:ak) (hr:Rd w0 w K a s mb v xs q n c) (ho:ye s q n c=(q',n',c')) (H:ak):
 Calls Tryz.prog 112 #[.pointer (some ⟨K.gs,0,none⟩),.agg (aa H),.slice q' n' c'] w fun e w'=>e=.returned (j8 (cA (aH s.cU) s.own H))∧Below w.heap.size w w':=by
 obtain⟨h1,A⟩:=hr.UC ho;exact Gd _ _ _ _ _ _ _ _ hr.st.ptr (by omega) h1 (fun i _=>Nat.le_trans (zm hr.gl hr.ol.1 _) (by decide))
theorem Ch {h:ak} (h0:(dG h).2=0):h.size≤1048576:=by
 unfold dG at h0;split at h0
 ·rename_i h1;exact absurd h0 h1
 ·split at h0
  ·exact absurd h0 (by decide)
  ·split at h0
   ·rename_i h1;exact absurd h0 h1
   ·split at h0
    ·rename_i h1;exact absurd h0 h1
    ·rename_i h1
     unfold o8 at h1;split at h1
     ·exact absurd (by decide) h1
     ·split at h1
      ·exact absurd (by decide) h1
      ·omega
end
end Mem
namespace Mem
open Go.Shelf Mk Attr Go.Proofs.YtdhibldkldlfpaaGreatDoor.Mp
variable {bx:Nat} {h ah:ak}
theorem NQ (w:World) (g:Nat) (h:ak) (hb:ao w g 66 (aa h)):(Instr.loadAt 66 (.pointer (some ⟨g,0,none⟩))).run Tryz.prog w=.ok (.agg (aa h)) w:=by
 have c0:=hb.cell;unfold aa at c0⊢
 go_simp
theorem D0 {o:Oper} {a:Act} {K:Act→World→Prop} {Q:Exit→Act→World→Prop} (p x:Operand) (ho:o.op=.store 66 p x) (g:Nat) (hp:a.eval p=.pointer (some ⟨g,0,none⟩)) (h z:ak) (hx:a.eval x=.agg (aa h)) (hz:ao w g 66 (aa z))
 (hK:∀w',ao w' g 66 (aa h)→Kept (aA g) w w'→K (a.put o.dst undef) w'):Oper.wp Tryz.prog o a w K Q:=by
 have A:=lG hz;have f0:=hz.frozen;have c0:=hz.cell;unfold aa at c0
 have D:Kept (aA g) w (((((((((w.setCell ⟨g,0,none⟩ (.string (str h.name))).setCell ⟨g,1,none⟩ (.string (str h.link))).setCell ⟨g,2,none⟩ (.int .u8 (h.kind.toNat:Int))).setCell ⟨g,3,none⟩ (.int .i64 h.mode)).setCell ⟨g,4,none⟩ (.int .i64 h.uid)).setCell ⟨g,5,none⟩ (.int .i64 h.gid)).setCell ⟨g,6,none⟩ (.int .i64 h.time)).setCell ⟨g,7,none⟩ (.int .i64 h.size)).setCell ⟨g,8,none⟩ (.bool h.fh)):=
  (((((((((Kept.refl (aA g) w).setCell (a:=⟨g,0,none⟩) (.inr rfl) _).setCell (a:=⟨g,1,none⟩) (.inr rfl) _).setCell (a:=⟨g,2,none⟩) (.inr rfl) _).setCell (a:=⟨g,3,none⟩) (.inr rfl) _).setCell (a:=⟨g,4,none⟩) (.inr rfl) _).setCell (a:=⟨g,5,none⟩) (.inr rfl) _).setCell (a:=⟨g,6,none⟩) (.inr rfl) _).setCell (a:=⟨g,7,none⟩) (.inr rfl) _).setCell (a:=⟨g,8,none⟩) (.inr rfl) _
 clear hz
 have B:(execOp a.eval o).run Tryz.prog w=.ok .skip (((((((((w.setCell ⟨g,0,none⟩ (.string (str h.name))).setCell ⟨g,1,none⟩ (.string (str h.link))).setCell ⟨g,2,none⟩ (.int .u8 (h.kind.toNat:Int))).setCell ⟨g,3,none⟩ (.int .i64 h.mode)).setCell ⟨g,4,none⟩ (.int .i64 h.uid)).setCell ⟨g,5,none⟩ (.int .i64 h.gid)).setCell ⟨g,6,none⟩ (.int .i64 h.time)).setCell ⟨g,7,none⟩ (.int .i64 h.size)).setCell ⟨g,8,none⟩ (.bool h.fh)):=by
  unfold aa at hx;generalize a.eval=ev at hp hx;simp[go_sem,execOp,ho,hp,hx,c0,f0,Result.andThen]
 unfold Oper.wp;rw[B,Oper.upon_skip];exact hK _ (A _ _ _ _ _ _ _ _ _) D
noncomputable def aL:Array Oper:=tO Tryz.f76 5
def kY (r gs mw bx:Nat) (h h':ak) (oq:Option Addr) (on oc:Nat) (ah:ak) (ae:Int):Nat→Value
 |0=>.pointer (some ⟨r,0,none⟩)|1=>.pointer (some ⟨r,0,none⟩)|2=>.pointer (some ⟨r,1,none⟩)|3=>.pointer (some ⟨gs,0,none⟩)|4=>.pointer (some ⟨r,0,none⟩)|5=>.agg (aa h)|6=>.agg (aa h')|7=>.pointer (some ⟨r,0,none⟩)|8=>.pointer (some ⟨r,0,none⟩)|9=>.pointer (some ⟨r,2,none⟩)|10=>.map (some mw)|11=>.agg #[.string ⟨#[]⟩,.slice oq on oc]|12=>.slice oq on oc|13=>.tuple #[.agg (aa ah),.int .i64 ae]|14=>.tuple #[.agg (aa ah),.int .i64 ae]|15=>.agg (aa ah)|16=>.int .i64 ae|18=>.int .i64 ae|_=>undef
theorem pq:aL.size=19:=rfl
theorem sd:nz aL 73=true:=by kernel_rfl
theorem FO:ch aL 0=some 18:=rfl
theorem JA:∃o,aL[0]? =some o∧o.op=.move (.tmp 0)∧o.dst=some 18:=⟨_,rfl,rfl,rfl⟩
theorem FP:ch aL 1=some 19:=rfl
theorem JB:∃o,aL[1]? =some o∧o.op=.nilCheck (.tmp 18)∧o.dst=some 19:=⟨_,rfl,rfl,rfl⟩
theorem FQ:ch aL 2=some 20:=rfl
theorem JC:∃o,aL[2]? =some o∧o.op=.fieldAddr 91 (.tmp 19) 1∧o.dst=some 20:=⟨_,rfl,rfl,rfl⟩
theorem FR:ch aL 3=some 21:=rfl
theorem JD:∃o,aL[3]? =some o∧o.op=.load 88 (.tmp 20)∧o.dst=some 21:=⟨_,rfl,rfl,rfl⟩
theorem FT:ch aL 4=some 22:=rfl
theorem JE:∃o,aL[4]? =some o∧o.op=.move (.tmp 0)∧o.dst=some 22:=⟨_,rfl,rfl,rfl⟩
theorem FU:ch aL 5=some 23:=rfl
theorem JF:∃o,aL[5]? =some o∧o.op=.load 66 (.tmp 3)∧o.dst=some 23:=⟨_,rfl,rfl,rfl⟩
theorem FV:ch aL 6=some 24:=rfl
theorem JG:∃o,aL[6]? =some o∧o.op=.call {callee:=.value (.func 113),args:=#[.tmp 22,.tmp 23],argTypes:=#[84,66]}∧o.dst=some 24:=⟨_,rfl,rfl,rfl⟩
theorem FW:ch aL 7=some 25:=rfl
theorem JH:∃o,aL[7]? =some o∧o.op=.move (.tmp 0)∧o.dst=some 25:=⟨_,rfl,rfl,rfl⟩
theorem FX:ch aL 8=some 26:=rfl
theorem JI:∃o,aL[8]? =some o∧o.op=.nilCheck (.tmp 25)∧o.dst=some 26:=⟨_,rfl,rfl,rfl⟩
theorem FY:ch aL 9=some 27:=rfl
theorem JJ:∃o,aL[9]? =some o∧o.op=.fieldAddr 91 (.tmp 26) 2∧o.dst=some 27:=⟨_,rfl,rfl,rfl⟩
theorem BC:ch aL 10=some 28:=rfl
theorem FZ:∃o,aL[10]? =some o∧o.op=.load 89 (.tmp 27)∧o.dst=some 28:=⟨_,rfl,rfl,rfl⟩
theorem BD:ch aL 11=some 29:=rfl
theorem F0:∃o,aL[11]? =some o∧o.op=.lookup 89 (.tmp 28) (.const (.int .u8 120)) false∧o.dst=some 29:=⟨_,rfl,rfl,rfl⟩
theorem BF:ch aL 12=some 30:=rfl
theorem F1:∃o,aL[12]? =some o∧o.op=.field 178 (.tmp 29) 1∧o.dst=some 30:=⟨_,rfl,rfl,rfl⟩
theorem BG:ch aL 13=some 31:=rfl
theorem F2:∃o,aL[13]? =some o∧o.op=.call {callee:=.value (.func 112),args:=#[.tmp 21,.tmp 24,.tmp 30],argTypes:=#[88,66,64]}∧o.dst=some 31:=⟨_,rfl,rfl,rfl⟩
theorem BH:ch aL 14=some 17:=rfl
theorem F4:∃o,aL[14]? =some o∧o.op=.move (.tmp 31)∧o.dst=some 17:=⟨_,rfl,rfl,rfl⟩
theorem BJ:ch aL 15=some 32:=rfl
theorem F5:∃o,aL[15]? =some o∧o.op=.extract (.tmp 17) 0∧o.dst=some 32:=⟨_,rfl,rfl,rfl⟩
theorem BK:ch aL 16=some 33:=rfl
theorem F6:∃o,aL[16]? =some o∧o.op=.extract (.tmp 17) 1∧o.dst=some 33:=⟨_,rfl,rfl,rfl⟩
theorem BL:ch aL 17=none:=rfl
theorem F7:∃o,aL[17]? =some o∧o.op=.store 66 (.tmp 3) (.tmp 32)∧o.dst=none:=⟨_,rfl,rfl,rfl⟩
theorem BM:ch aL 18=some 5:=rfl
theorem F8:∃o,aL[18]? =some o∧o.op=.assign (.tmp 33)∧o.dst=some 5:=⟨_,rfl,rfl,rfl⟩
structure W5 (w:World) (bx:Nat) (h ah:ak) (listed:Array Bool) (w':World):Prop where
 bel:Below w.heap.size w w'
 bf:listed.getD 17 false=false→ao w' bx 66 (aa h)
 Vc:listed.getD 17 false=true→ao w' bx 66 (aa ah)∧∀j,j<16→listed.getD j false=true
theorem W5.cI (hW:W5 w bx h ah listed w') (ax:j<listed.size) (hj:j≠17):W5 w bx h ah (listed.setIfInBounds j true) w':=by
 have e:(listed.setIfInBounds j true).getD 17 false=listed.getD 17 false:=by rw[ai ax,if_neg (Ne.symm hj)]
 refine⟨hW.bel,fun A=>hW.bf (by rw[←e];exact A),fun A=>⟨(hW.Vc (by rw[←e];exact A)).1,fun i hi=>?_⟩⟩;rw[ai ax];split
 ·rfl
 ·exact(hW.Vc (by rw[←e];exact A)).2 i hi
theorem W5.not (hW:W5 w bx h ah listed w') (hj:j<16) (qw:listed.getD j false=false):listed.getD 17 false=false:=by
 cases A:listed.getD 17 false with
 |false=>rfl
 |true=>rw[(hW.Vc A).2 j hj]at qw;cases qw
theorem W5.call {w2:World} (hW:W5 w bx h ah listed w') (ax:j<listed.size) (hj:j<16) (qw:listed.getD j false=false) (hb:Below w'.heap.size w' w2):W5 w bx h ah (listed.setIfInBounds j true) w2:=by
 have A:=hW.not hj qw;have e:(listed.setIfInBounds j true).getD 17 false=false:=by rw[ai ax,if_neg (by omega)];exact A
 refine⟨hW.bel.trans (hb.mono hW.bel.size),fun _=>(hW.bf A).below hb (hW.bf A).lt,fun B=>?_⟩;rw[e]at B
 cases B
theorem jv {Q':Exit→Act→World→Prop} {a0:Act} (r gs mw bx:Nat) (h h':ak) (oq:Option Addr) (on oc:Nat) (ah:ak) (ae:Int)
 (hsz:73≤a0.tmps.size) (h0:a0.eval (.tmp 0)=.pointer (some ⟨r,0,none⟩)) (h3:a0.eval (.tmp 3)=.pointer (some ⟨bx,0,none⟩)) (hbx:w.heap.size≤bx) (cf:Below w.heap.size w w1) (Xs:ao w1 bx 66 (aa h))
 (hS:∀wi,Below w.heap.size w wi→(wi.cell? ⟨r,1,none⟩=some (.pointer (some ⟨gs,0,none⟩))∧wi.cell? ⟨r,2,none⟩=some (.map (some mw)))∧(Instr.lookup 89 (.map (some mw)) (.int .u8 120) false).run Tryz.prog wi=.ok (.agg #[.string ⟨#[]⟩,.slice oq on oc]) wi)
 (Yf:∀wi,Below w.heap.size w wi→Calls Tryz.prog 113 #[.pointer (some ⟨r,0,none⟩),.agg (aa h)] wi fun e w'=>e=.returned (.agg (aa h'))∧Below wi.heap.size wi w')
 (Xn:∀wi,Below w.heap.size w wi→Calls Tryz.prog 112 #[.pointer (some ⟨gs,0,none⟩),.agg (aa h'),.slice oq on oc] wi fun e w'=>e=.returned (.tuple #[.agg (aa ah),.int .i64 ae])∧Below wi.heap.size wi w')
 (hQ:∀w',Below w.heap.size w w'→ao w' bx 66 (aa ah)→Q' .normal ((((((((((((((((((a0.put (some 18) (.pointer (some ⟨r,0,none⟩))).put (some 19) (.pointer (some ⟨r,0,none⟩))).put (some 20) (.pointer (some ⟨r,1,none⟩))).put (some 21) (.pointer (some ⟨gs,0,none⟩))).put (some 22) (.pointer (some ⟨r,0,none⟩))).put (some 23) (.agg (aa h))).put (some 24) (.agg (aa h'))).put (some 25) (.pointer (some ⟨r,0,none⟩))).put (some 26) (.pointer (some ⟨r,0,none⟩))).put (some 27) (.pointer (some ⟨r,2,none⟩))).put (some 28) (.map (some mw))).put (some 29) (.agg #[.string ⟨#[]⟩,.slice oq on oc])).put (some 30) (.slice oq on oc)).put (some 31) (.tuple #[.agg (aa ah),.int .i64 ae])).put (some 17) (.tuple #[.agg (aa ah),.int .i64 ae])).put (some 32) (.agg (aa ah))).put (some 33) (.int .i64 ae)).put (some 5) (.int .i64 ae)) w'):
 wpAny Tryz.prog .any aL Q' aL.size (Array.replicate aL.size false) a0 w1.drew:=by
 have no:∀j,(Array.replicate aL.size false).getD j false=false:=fun j=>by
  rw[Array.getD_eq_getD_getElem?,Array.getElem?_replicate];split<;>rfl
 refine qU (Γ:=Unit) (fun _=>kY r gs mw bx h h' oq on oc ah ae) () a0 (fun _ listed w'=>W5 w bx h ah listed w') 73 sd hsz ?_ ?_ ?_
 ·intro γ listed a w' j o G I W L
  have J:=bA W;have E:=G.wd
  have R:j<19:=by
   have:=(Array.getElem?_eq_some_iff.1 I).1
   rwa [pq]at this
  have same:∀{j':Nat} {H:Oper},aL[j']? =some H→j=j'→H=o:=fun {j' H} h' e=>by subst e;exact Option.some.inj (h'.symm.trans I)
  have U:=fq W;have b:∀i,listed.getD i false=true→i≠j:=fun i hi e=>by rw[e,U]at hi;cases hi
  rcases(show j=0∨j=1∨j=2∨j=3∨j=4∨j=5∨j=6∨j=7∨j=8∨j=9∨j=10∨j=11∨j=12∨j=13∨j=14∨j=15∨j=16∨j=17∨j=18 by omega)with rfl|rfl|rfl|rfl|rfl|rfl|rfl|rfl|rfl|rfl|rfl|rfl|rfl|rfl|rfl|rfl|rfl|rfl|rfl
  ·obtain⟨H,D,B,M⟩:=JA
   obtain rfl:=same D rfl;have A:a.eval (.tmp 0)=.pointer (some ⟨r,0,none⟩):=(G.old (t:=0) (by kernel_rfl)).trans h0;exact wp_move _ _ (Or.inl B) A ⟨γ,fun _ _=>rfl,rfl,E.cI J (by decide)⟩
  ·obtain⟨H,D,B,M⟩:=JB
   obtain rfl:=same D rfl;have A:a.eval (.tmp 18)=.pointer (some ⟨r,0,none⟩):=(G.get I L (i:=0) (d:=18) (by kernel_rfl) rfl)
   refine dQ _ ?_ ⟨γ,fun _ _=>rfl,rfl,E.cI J (by decide)⟩;generalize a.eval=ev at A⊢;simp[go_sem,execOp,B,A,kY]
  ·obtain⟨H,D,B,M⟩:=JC
   obtain rfl:=same D rfl;have A:a.eval (.tmp 19)=.pointer (some ⟨r,0,none⟩):=(G.get I L (i:=1) (d:=19) (by kernel_rfl) rfl)
   refine dQ _ ?_ ⟨γ,fun _ _=>rfl,rfl,E.cI J (by decide)⟩;generalize a.eval=ev at A⊢;simp[go_sem,execOp,B,A,kY]
  ·obtain⟨H,D,B,M⟩:=JD
   obtain rfl:=same D rfl;have A:a.eval (.tmp 20)=.pointer (some ⟨r,1,none⟩):=(G.get I L (i:=2) (d:=20) (by kernel_rfl) rfl)
   have q:=(hS w' E.bel).1.1;refine dQ _ ?_ ⟨γ,fun _ _=>rfl,rfl,E.cI J (by decide)⟩;generalize a.eval=ev at A⊢;simp[go_sem,execOp,B,A,q,kY]
  ·obtain⟨H,D,B,M⟩:=JE
   obtain rfl:=same D rfl;have A:a.eval (.tmp 0)=.pointer (some ⟨r,0,none⟩):=(G.old (t:=0) (by kernel_rfl)).trans h0;exact wp_move _ _ (Or.inl B) A ⟨γ,fun _ _=>rfl,rfl,E.cI J (by decide)⟩
  ·obtain⟨H,D,B,M⟩:=JF
   obtain rfl:=same D rfl;have A:a.eval (.tmp 3)=.pointer (some ⟨bx,0,none⟩):=(G.old (t:=3) (by kernel_rfl)).trans h3;refine dQ _ ?_ ⟨γ,fun _ _=>rfl,rfl,E.cI J (by decide)⟩;have q:=NQ w' bx h (E.bf (E.not (by omega) U));simp[execOp,B,A,q,Result.andThen,kY]
  ·obtain⟨H,D,B,M⟩:=JG
   obtain rfl:=same D rfl;have A:a.eval (.tmp 22)=.pointer (some ⟨r,0,none⟩):=(G.get I L (i:=4) (d:=22) (by kernel_rfl) rfl)
   have O:a.eval (.tmp 23)=.agg (aa h):=(G.get I L (i:=5) (d:=23) (by kernel_rfl) rfl)
   refine pe _ _ _ B #[.pointer (some ⟨r,0,none⟩),.agg (aa h)] (by simp[A,O]) (enters_of Tryz.func113 (by kernel_rfl) rfl) _ _ (Yf w' E.bel) (fun X V=>⟨γ,fun _ _=>rfl,rfl,E.call J (by omega) U V⟩)
  ·obtain⟨H,D,B,M⟩:=JH
   obtain rfl:=same D rfl;have A:a.eval (.tmp 0)=.pointer (some ⟨r,0,none⟩):=(G.old (t:=0) (by kernel_rfl)).trans h0;exact wp_move _ _ (Or.inl B) A ⟨γ,fun _ _=>rfl,rfl,E.cI J (by decide)⟩
  ·obtain⟨H,D,B,M⟩:=JI
   obtain rfl:=same D rfl;have A:a.eval (.tmp 25)=.pointer (some ⟨r,0,none⟩):=(G.get I L (i:=7) (d:=25) (by kernel_rfl) rfl)
   refine dQ _ ?_ ⟨γ,fun _ _=>rfl,rfl,E.cI J (by decide)⟩;generalize a.eval=ev at A⊢;simp[go_sem,execOp,B,A,kY]
  ·obtain⟨H,D,B,M⟩:=JJ
   obtain rfl:=same D rfl;have A:a.eval (.tmp 26)=.pointer (some ⟨r,0,none⟩):=(G.get I L (i:=8) (d:=26) (by kernel_rfl) rfl)
   refine dQ _ ?_ ⟨γ,fun _ _=>rfl,rfl,E.cI J (by decide)⟩;generalize a.eval=ev at A⊢;simp[go_sem,execOp,B,A,kY]
  ·obtain⟨H,D,B,M⟩:=FZ
   obtain rfl:=same D rfl;have A:a.eval (.tmp 27)=.pointer (some ⟨r,2,none⟩):=(G.get I L (i:=9) (d:=27) (by kernel_rfl) rfl)
   have q:=(hS w' E.bel).1.2;refine dQ _ ?_ ⟨γ,fun _ _=>rfl,rfl,E.cI J (by decide)⟩;generalize a.eval=ev at A⊢;simp[go_sem,execOp,B,A,q,kY]
  ·obtain⟨H,D,B,M⟩:=F0
   obtain rfl:=same D rfl;have A:a.eval (.tmp 28)=.map (some mw):=(G.get I L (i:=10) (d:=28) (by kernel_rfl) rfl)
   exact mW _ _ _ B _ _ _ A (JZ a _) (hS w' E.bel).2 ⟨γ,fun _ _=>rfl,rfl,E.cI J (by decide)⟩
  ·obtain⟨H,D,B,M⟩:=F1
   obtain rfl:=same D rfl;have A:a.eval (.tmp 29)=.agg #[.string ⟨#[]⟩,.slice oq on oc]:=(G.get I L (i:=11) (d:=29) (by kernel_rfl) rfl)
   refine dQ _ ?_ ⟨γ,fun _ _=>rfl,rfl,E.cI J (by decide)⟩;have q:=Gu w' ⟨#[]⟩ oq on oc;simp[execOp,B,A,q,Result.andThen,kY]
  ·obtain⟨H,D,B,M⟩:=F2
   obtain rfl:=same D rfl;have A:a.eval (.tmp 21)=.pointer (some ⟨gs,0,none⟩):=(G.get I L (i:=3) (d:=21) (by kernel_rfl) rfl)
   have O:a.eval (.tmp 24)=.agg (aa h'):=(G.get I L (i:=6) (d:=24) (by kernel_rfl) rfl)
   have Z:a.eval (.tmp 30)=.slice oq on oc:=(G.get I L (i:=12) (d:=30) (by kernel_rfl) rfl)
   refine pe _ _ _ B #[.pointer (some ⟨gs,0,none⟩),.agg (aa h'),.slice oq on oc] (by simp[A,O,Z]) (enters_of Tryz.func112 (by kernel_rfl) rfl) _ _ (Xn w' E.bel) (fun X V=>⟨γ,fun _ _=>rfl,rfl,E.call J (by omega) U V⟩)
  ·obtain⟨H,D,B,M⟩:=F4
   obtain rfl:=same D rfl;have A:a.eval (.tmp 31)=.tuple #[.agg (aa ah),.int .i64 ae]:=(G.get I L (i:=13) (d:=31) (by kernel_rfl) rfl)
   exact wp_move _ _ (Or.inl B) A ⟨γ,fun _ _=>rfl,rfl,E.cI J (by decide)⟩
  ·obtain⟨H,D,B,M⟩:=F5
   obtain rfl:=same D rfl;have A:a.eval (.tmp 17)=.tuple #[.agg (aa ah),.int .i64 ae]:=(G.get I L (i:=14) (d:=17) (by kernel_rfl) rfl)
   refine dQ _ ?_ ⟨γ,fun _ _=>rfl,rfl,E.cI J (by decide)⟩;generalize a.eval=ev at A⊢;simp[go_sem,execOp,B,A,kY]
  ·obtain⟨H,D,B,M⟩:=F6
   obtain rfl:=same D rfl;have A:a.eval (.tmp 17)=.tuple #[.agg (aa ah),.int .i64 ae]:=(G.get I L (i:=14) (d:=17) (by kernel_rfl) rfl)
   refine dQ _ ?_ ⟨γ,fun _ _=>rfl,rfl,E.cI J (by decide)⟩;generalize a.eval=ev at A⊢;simp[go_sem,execOp,B,A,kY]
  ·obtain⟨H,D,B,M⟩:=F7
   obtain rfl:=same D rfl;have A:a.eval (.tmp 3)=.pointer (some ⟨bx,0,none⟩):=(G.old (t:=3) (by kernel_rfl)).trans h3;have O:a.eval (.tmp 32)=.agg (aa ah):=(G.get I L (i:=15) (d:=32) (by kernel_rfl) rfl)
   have all:∀j,j<16→listed.getD j false=true:=fun j R=>by
    rcases(show j=0∨j=1∨j=2∨j=3∨j=4∨j=5∨j=6∨j=7∨j=8∨j=9∨j=10∨j=11∨j=12∨j=13∨j=14∨j=15 by omega)with rfl|rfl|rfl|rfl|rfl|rfl|rfl|rfl|rfl|rfl|rfl|rfl|rfl|rfl|rfl|rfl<;>exact iW I L (by kernel_rfl)
   refine D0 _ _ B bx A ah h O (E.bf U) (fun X Y hk=>⟨γ,fun _ _=>rfl,rfl,⟨E.bel.trans (hk.below E.bel.size (fun k hk=>by rw[show k=bx from hk];exact hbx)),fun T=>?_,fun _=>⟨Y,fun j R=>?_⟩⟩⟩)
   ·rw[ai J,if_pos rfl]at T
    cases T
   ·rw[ai J]
    split
    ·rfl
    ·exact all j R
  ·obtain⟨H,D,B,M⟩:=F8
   obtain rfl:=same D rfl;have A:a.eval (.tmp 33)=.int .i64 ae:=(G.get I L (i:=16) (d:=33) (by kernel_rfl) rfl)
   exact wp_move _ _ (Or.inr B) A ⟨γ,fun _ _=>rfl,rfl,E.cI J (by decide)⟩
 ·intro γ listed a w' G N
  have all:∀j,j<19→listed.getD j false=true:=fun j R=>N j (by rw[pq];exact R)
  have E:=G.wd;rw[oy 73 sd hsz G N,pq];simp only[ij,FO,FP,FQ,FR,FT,FU,FV,FW,FX,FY,BC,BD,BF,BG,BH,BJ,BK,BL,BM,Ap,kY];exact hQ w' E.bel (E.Vc (all 17 (by omega))).1
 ·exact⟨cf.drew,fun _=>Xs.drew,fun T=>by rw[no]at T;cases T⟩
end Mem
namespace Mem
open Go.Shelf Mk Block Attr Go.Proofs.YtdhibldkldlfpaaGreatDoor.Mp
variable {xs:List MP} {y:MP} {i r base:Nat} {v:Value}
theorem Rf (w:World) (g:Nat) (y:MP) (hb:ao w g 48 y.cs):(Instr.loadAt 48 (.pointer (some ⟨g,0,none⟩))).run Tryz.prog w=.ok (.agg y.cs) w:=by
 have c0:=hb.cell;unfold MP.cs cO at c0⊢
 go_simp
theorem P5 (w:World) (a b:ByteArray) (k m u i t:Int) (p:Option Addr) (n c:Nat):(Instr.buildSlice 38 1 #[(0,.agg #[.string a,.string b,.int .u8 k,.int .i64 m,.int .i64 u,.int .i64 i,.int .i64 t,.slice p n c])]).run Tryz.prog w=
 .ok (.slice (some ⟨w.heap.size,0,none⟩) 1 1) (w.alloc (.cells #[.string a,.string b,.int .u8 k,.int .i64 m,.int .i64 u,.int .i64 i,.int .i64 t,.slice p n c] 48)):=by kernel_rfl
theorem Nc (w:World) (y:MP):(Instr.buildSlice 38 1 #[(0,.agg y.cs)]).run Tryz.prog w=.ok (.slice (some ⟨w.heap.size,0,none⟩) 1 1) (w.alloc (.cells y.cs 48)):=P5 w _ _ _ _ _ _ _ _ _ _
theorem qb {o:Oper} {b:Act} {Kk:Act→World→Prop} {Q:Exit→Act→World→Prop} (x y:Operand)
 (ho:o.op=.call {callee:=.builtin .append,args:=#[x,y],argTypes:=#[38,38]})
 (base:Nat) (v:Value) (xs:List MP) (hs:b.eval x=v) (bh:w.ownsRow base 48 8 v xs.length (fH xs))
 (g:Nat) (d:Nat) (z:MP) (hx:b.eval y=.slice (some ⟨g,0,none⟩) 1 d) (hb:ao w g 48 z.cs) (lQ:xs.length≤1000000) (ft:base≤w.heap.size)
 (h:∀v' w',w'.ownsRow base 48 8 v' (xs++[z]).length (fH (xs++[z]))→w.grownBy w' v.ownBlock→eW w v v'→Kk (b.put o.dst v') w'):Oper.wp Tryz.prog o b w Kk Q:=by
 obtain⟨i0,hi,E,B,D⟩:=info_parts EL
 obtain⟨v',w',J,A,G,H⟩:=rq (P:=Tryz.prog) base 38 o.type 48 i0 _ 8 96 Tryz.underlying38 hi E B D rfl (by decide) v xs.length (fH xs) bh ⟨g,0,none⟩ 1 d z.cs.toList rfl (by
  intro j u I;rw[WideShapes.add_plain,Nat.zero_add,hb.cell,←Array.getElem?_toList]
  exact I) (fun u hu=>GB [z] u (by simpa [fH]using hu)) (by unfold maxLen;omega) (by omega) ft
 have L:(execOp b.eval o).run Tryz.prog w=.ok (.value v') w':=by simp[execOp,ho,resolve,invoke,builtin,hs,hx,J,Result.andThen]
 unfold Oper.wp;rw[L,Oper.upon_value];rw[←Ce,show xs.length+1=(xs++[z]).length by simp]at A;exact h v' w' A G H
def xa (base:Nat) (v:Value) (xs:List MP) (y:MP) (w1 wB:World) (va:Value):Prop:=
 ∃wA,Below w1.heap.size w1 wA∧wB.ownsRow base 48 8 va (xs++[y]).length (fH (xs++[y]))∧wA.grownBy wB v.ownBlock∧eW wA v va
noncomputable def aX:Array Oper:=tO Tryz.f76 14
structure lD where
 gb:Nat
 va:Value
def fD (r bm:Nat) (v:Value) (y:MP) (γ:lD):Nat→Value
 |0=>.pointer (some ⟨r,0,none⟩)|1=>.pointer (some ⟨r,0,none⟩)|2=>.pointer (some ⟨r,0,none⟩)|3=>.pointer (some ⟨r,3,none⟩)|4=>v|5=>.agg y.cs|6=>.slice (some ⟨γ.gb,0,none⟩) 1 1|7=>γ.va|8=>.pointer (some ⟨r,0,none⟩)|9=>.pointer (some ⟨r,3,none⟩)|_=>undef
theorem nx:aX.size=11:=rfl
theorem qf:nz aX 73=true:=by kernel_rfl
theorem Bo:ch aX 0=some 59:=rfl
theorem FD:∃o,aX[0]? =some o∧o.op=.move (.tmp 0)∧o.dst=some 59:=⟨_,rfl,rfl,rfl⟩
theorem Bp:ch aX 1=some 60:=rfl
theorem FE:∃o,aX[1]? =some o∧o.op=.move (.tmp 0)∧o.dst=some 60:=⟨_,rfl,rfl,rfl⟩
theorem Bq:ch aX 2=some 61:=rfl
theorem FF:∃o,aX[2]? =some o∧o.op=.nilCheck (.tmp 60)∧o.dst=some 61:=⟨_,rfl,rfl,rfl⟩
theorem Br:ch aX 3=some 62:=rfl
theorem FG:∃o,aX[3]? =some o∧o.op=.fieldAddr 91 (.tmp 61) 3∧o.dst=some 62:=⟨_,rfl,rfl,rfl⟩
theorem Bt:ch aX 4=some 63:=rfl
theorem FI:∃o,aX[4]? =some o∧o.op=.load 38 (.tmp 62)∧o.dst=some 63:=⟨_,rfl,rfl,rfl⟩
theorem Bu:ch aX 5=some 64:=rfl
theorem FJ:∃o,aX[5]? =some o∧o.op=.load 48 (.tmp 6)∧o.dst=some 64:=⟨_,rfl,rfl,rfl⟩
theorem Bv:ch aX 6=some 65:=rfl
theorem FK:∃o,aX[6]? =some o∧o.op=.buildSlice 38 1 #[(0,.tmp 64)]∧o.dst=some 65:=⟨_,rfl,rfl,rfl⟩
theorem Bw:ch aX 7=some 66:=rfl
theorem FL:∃o,aX[7]? =some o∧o.op=.call {callee:=.builtin .append,args:=#[.tmp 63,.tmp 65],argTypes:=#[38,38]}∧o.dst=some 66:=⟨_,rfl,rfl,rfl⟩
theorem Bz:ch aX 8=some 67:=rfl
theorem FM:∃o,aX[8]? =some o∧o.op=.nilCheck (.tmp 59)∧o.dst=some 67:=⟨_,rfl,rfl,rfl⟩
theorem BA:ch aX 9=some 68:=rfl
theorem FN:∃o,aX[9]? =some o∧o.op=.fieldAddr 91 (.tmp 67) 3∧o.dst=some 68:=⟨_,rfl,rfl,rfl⟩
theorem yN:ch aX 10=none:=rfl
theorem BB:∃o,aX[10]? =some o∧o.op=.store 38 (.tmp 68) (.tmp 66)∧o.dst=none:=⟨_,rfl,rfl,rfl⟩
theorem FB (r bm:Nat) (v:Value) (y:MP) (γ:lD) (x:Nat) (h:i≠6):fD r bm v y {γ with gb:=x} i=fD r bm v y γ i:=by
 unfold fD;split<;>first|rfl|(exfalso;omega)
theorem FC (r bm:Nat) (v:Value) (y:MP) (γ:lD) (x:Value) (h:i≠7):fD r bm v y {γ with va:=x} i=fD r bm v y γ i:=by
 unfold fD;split<;>first|rfl|(exfalso;omega)
structure Ml (base r:Nat) (v:Value) (xs:List MP) (y:MP) (w1:World) (γ:lD) (listed:Array Bool) (w':World):Prop where
 pre:listed.getD 7 false=false→Below w1.heap.size w1 w'
 bs:listed.getD 6 false=true→listed.getD 7 false=false→ao w' γ.gb 48 y.cs
 ap:listed.getD 7 false=true→listed.getD 10 false=false→xa base v xs y w1 w' γ.va
 st:listed.getD 10 false=true→∃wB,xa base v xs y w1 wB γ.va∧w'=wB.setCell ⟨r,3,none⟩ γ.va
 c7:listed.getD 7 false=true→listed.getD 4 false=true∧listed.getD 6 false=true
 c6:listed.getD 6 false=true→listed.getD 5 false=true
 Nd:listed.getD 10 false=true→listed.getD 7 false=true
theorem Ml.cI {γ:lD} (hW:Ml base r v xs y w1 γ listed w') (ax:j<listed.size) (hj:j≠6∧j≠7∧j≠10):Ml base r v xs y w1 γ (listed.setIfInBounds j true) w':=by
 have D:(listed.setIfInBounds j true).getD 6 false=listed.getD 6 false:=by rw[ai ax,if_neg (by omega)]
 have A:(listed.setIfInBounds j true).getD 7 false=listed.getD 7 false:=by rw[ai ax,if_neg (by omega)]
 have B:(listed.setIfInBounds j true).getD 10 false=listed.getD 10 false:=by rw[ai ax,if_neg (by omega)]
 have up:∀i,listed.getD i false=true→(listed.setIfInBounds j true).getD i false=true:=fun i hi=>by
  rw[ai ax];split
  ·rfl
  ·exact hi
 exact⟨by rw[A];exact hW.pre,by rw[D,A];exact hW.bs,by rw[A,B];exact hW.ap,by rw[B];exact hW.st,fun h=>⟨up _ (hW.c7 (by rw[←A];exact h)).1,up _ (hW.c7 (by rw[←A];exact h)).2⟩,fun h=>up _ (hW.c6 (by rw[←D];exact h)),by rw[A,B];exact hW.Nd⟩
theorem Ml.Rk {γ:lD} (hW:Ml base r v xs y w1 γ listed w') (hj:j=4∨j=5∨j=6) (qw:listed.getD j false=false):listed.getD 7 false=false:=by
 cases D:listed.getD 7 false with
 |false=>rfl
 |true=>
  obtain⟨B,A⟩:=hW.c7 D;rcases hj with rfl|rfl|rfl
  ·rw[B]at qw;cases qw
  ·rw[hW.c6 A]at qw;cases qw
  ·rw[A]at qw;cases qw
theorem xi {Q':Exit→Act→World→Prop} {a0:Act} (base r bm:Nat) (v:Value) (xs:List MP) (y:MP) (cs:Array Value)
 (hsz:73≤a0.tmps.size) (h0:a0.eval (.tmp 0)=.pointer (some ⟨r,0,none⟩)) (h6:a0.eval (.tmp 6)=.pointer (some ⟨bm,0,none⟩)) (OX:ao w1 bm 48 y.cs) (R7:ao w1 r 91 cs) (zp:cs[3]? =some v) (xL:v.ownBlock≠some r)
 (cN:w1.ownsRow base 48 8 v xs.length (fH xs)) (ft:base≤w1.heap.size) (KK:xs.length≤1000000)
 (hQ:∀(γ:lD) wB,xa base v xs y w1 wB γ.va→Q' .normal ((((((((((a0.put (some 59) (.pointer (some ⟨r,0,none⟩))).put (some 60) (.pointer (some ⟨r,0,none⟩))).put (some 61) (.pointer (some ⟨r,0,none⟩))).put (some 62) (.pointer (some ⟨r,3,none⟩))).put (some 63) (v)).put (some 64) (.agg y.cs)).put (some 65) (.slice (some ⟨γ.gb,0,none⟩) 1 1)).put (some 66) (γ.va)).put (some 67) (.pointer (some ⟨r,0,none⟩))).put (some 68) (.pointer (some ⟨r,3,none⟩))) (wB.setCell ⟨r,3,none⟩ γ.va)):
 wpAny Tryz.prog .any aX Q' aX.size (Array.replicate aX.size false) a0 w1.drew:=by
 have no:∀j,(Array.replicate aX.size false).getD j false=false:=fun j=>by
  rw[Array.getD_eq_getD_getElem?,Array.getElem?_replicate];split<;>rfl
 refine qU (Γ:=lD) (fD r bm v y) {gb:=0,va:=undef} a0 (fun γ listed w'=>Ml base r v xs y w1 γ listed w') 73 qf hsz ?_ ?_ ?_
 ·intro γ listed a w' j o I J z M
  have E:=bA z;have D:=I.wd
  have u:j<11:=by
   have:=(Array.getElem?_eq_some_iff.1 J).1
   rwa [nx]at this
  have same:∀{j':Nat} {L:Oper},aX[j']? =some L→j=j'→L=o:=fun {j' L} h' e=>by subst e;exact Option.some.inj (h'.symm.trans J)
  have U:=fq z;have m:∀i,listed.getD i false=true→i≠j:=fun i hi e=>by rw[e,U]at hi;cases hi
  rcases(show j=0∨j=1∨j=2∨j=3∨j=4∨j=5∨j=6∨j=7∨j=8∨j=9∨j=10 by omega)with rfl|rfl|rfl|rfl|rfl|rfl|rfl|rfl|rfl|rfl|rfl
  ·obtain⟨L,H,G,N⟩:=FD
   obtain rfl:=same H rfl;have B:a.eval (.tmp 0)=.pointer (some ⟨r,0,none⟩):=(I.old (t:=0) (by kernel_rfl)).trans h0;exact wp_move _ _ (Or.inl G) B ⟨γ,fun _ _=>rfl,rfl,D.cI E (by decide)⟩
  ·obtain⟨L,H,G,N⟩:=FE
   obtain rfl:=same H rfl;have B:a.eval (.tmp 0)=.pointer (some ⟨r,0,none⟩):=(I.old (t:=0) (by kernel_rfl)).trans h0;exact wp_move _ _ (Or.inl G) B ⟨γ,fun _ _=>rfl,rfl,D.cI E (by decide)⟩
  ·obtain⟨L,H,G,N⟩:=FF
   obtain rfl:=same H rfl;have B:a.eval (.tmp 60)=.pointer (some ⟨r,0,none⟩):=(I.get J M (i:=1) (d:=60) (by kernel_rfl) rfl)
   refine dQ _ ?_ ⟨γ,fun _ _=>rfl,rfl,D.cI E (by decide)⟩;generalize a.eval=ev at B⊢;simp[go_sem,execOp,G,B,fD]
  ·obtain⟨L,H,G,N⟩:=FG
   obtain rfl:=same H rfl;have B:a.eval (.tmp 61)=.pointer (some ⟨r,0,none⟩):=(I.get J M (i:=2) (d:=61) (by kernel_rfl) rfl)
   refine dQ _ ?_ ⟨γ,fun _ _=>rfl,rfl,D.cI E (by decide)⟩;generalize a.eval=ev at B⊢;simp[go_sem,execOp,G,B,fD]
  ·obtain⟨L,H,G,N⟩:=FI
   obtain rfl:=same H rfl;have B:a.eval (.tmp 62)=.pointer (some ⟨r,3,none⟩):=(I.get J M (i:=3) (d:=62) (by kernel_rfl) rfl)
   have O:=D.Rk (.inl rfl) U;have q:=(R7.below (D.pre O) R7.lt).cell 3;rw[zp]at q;refine dQ _ ?_ ⟨γ,fun _ _=>rfl,rfl,D.cI E (by decide)⟩;generalize a.eval=ev at B⊢;simp[go_sem,execOp,G,B,q,fD]
  ·obtain⟨L,H,G,N⟩:=FJ
   obtain rfl:=same H rfl;have B:a.eval (.tmp 6)=.pointer (some ⟨bm,0,none⟩):=(I.old (t:=6) (by kernel_rfl)).trans h6;have O:=D.Rk (.inr (.inl rfl)) U;refine dQ _ ?_ ⟨γ,fun _ _=>rfl,rfl,D.cI E (by decide)⟩;have q:=Rf w' bm y (OX.below (D.pre O) OX.lt);simp[execOp,G,B,q,Result.andThen,fD]
  ·obtain⟨L,H,G,N⟩:=FK
   obtain rfl:=same H rfl;have B:a.eval (.tmp 64)=.agg y.cs:=(I.get J M (i:=5) (d:=64) (by kernel_rfl) rfl)
   have O:=D.Rk (.inr (.inr rfl)) U;have q:=Nc w' y;have Y:(execOp a.eval L).run Tryz.prog w'=.ok (.value (.slice (some ⟨w'.heap.size,0,none⟩) 1 1)) (w'.alloc (.cells y.cs 48)):=by simp[execOp,G,B,q,Result.andThen]
   unfold Oper.wp;rw[Y,Oper.upon_value];have R:(listed.setIfInBounds 6 true).getD 7 false=listed.getD 7 false:=by rw[ai E,if_neg (by decide)]
   have V:(listed.setIfInBounds 6 true).getD 10 false=listed.getD 10 false:=by rw[ai E,if_neg (by decide)]
   refine⟨{γ with gb:=w'.heap.size},fun i hi=>FB _ _ _ _ _ _ (m i hi),rfl,⟨fun _=>(D.pre O).alloc (D.pre O).size _,fun _ _=>ao.new w' _ _,fun A=>?_,fun A=>?_,fun A=>?_,fun _=>(by rw[ai E,if_neg (by decide)];exact iW J M (by kernel_rfl)),fun A=>?_⟩⟩
   ·rw[R,O]at A;cases A
   ·rw[V]at A;have:=D.Nd A;rw[O]at this;cases this
   ·rw[R,O]at A;cases A
   ·rw[V]at A;have:=D.Nd A;rw[O]at this;cases this
  ·obtain⟨L,H,G,N⟩:=FL
   obtain rfl:=same H rfl;have B:a.eval (.tmp 63)=v:=(I.get J M (i:=4) (d:=63) (by kernel_rfl) rfl)
   have W:a.eval (.tmp 65)=.slice (some ⟨γ.gb,0,none⟩) 1 1:=(I.get J M (i:=6) (d:=65) (by kernel_rfl) rfl)
   have b:listed.getD 6 false=true:=iW J M (by kernel_rfl);have X:=D.pre U;have Kg:=D.bs b U;have l4:listed.getD 4 false=true:=iW J M (by kernel_rfl)
   have n10:listed.getD 10 false=false:=by
    cases A:listed.getD 10 false with
    |false=>rfl
    |true=>have:=D.Nd A;rw[U]at this;cases this
   have V:(listed.setIfInBounds 7 true).getD 10 false=false:=by rw[ai E,if_neg (by decide)];exact n10
   have R:(listed.setIfInBounds 7 true).getD 7 false=true:=by rw[ai E,if_pos rfl]
   refine qb _ _ G base v xs B (cR cN X) γ.gb 1 y W Kg KK (Nat.le_trans ft X.size) (fun v' w2 h1 h2 h3=>⟨{γ with va:=v'},fun i hi=>FC _ _ _ _ _ _ (m i hi),rfl,⟨fun A=>?_,fun _ A=>?_,fun _ _=>⟨w',X,h1,h2,h3⟩,fun A=>?_,fun _=>⟨?_,?_⟩,fun _=>?_,fun A=>?_⟩⟩)
   ·rw[R]at A;cases A
   ·rw[R]at A;cases A
   ·rw[V]at A;cases A
   ·rw[ai E,if_neg (by decide)];exact l4
   ·rw[ai E,if_neg (by decide)];exact b
   ·rw[ai E,if_neg (by decide)];exact D.c6 b
   ·rw[V]at A;cases A
  ·obtain⟨L,H,G,N⟩:=FM
   obtain rfl:=same H rfl;have B:a.eval (.tmp 59)=.pointer (some ⟨r,0,none⟩):=(I.get J M (i:=0) (d:=59) (by kernel_rfl) rfl)
   refine dQ _ ?_ ⟨γ,fun _ _=>rfl,rfl,D.cI E (by decide)⟩;generalize a.eval=ev at B⊢;simp[go_sem,execOp,G,B,fD]
  ·obtain⟨L,H,G,N⟩:=FN
   obtain rfl:=same H rfl;have B:a.eval (.tmp 67)=.pointer (some ⟨r,0,none⟩):=(I.get J M (i:=8) (d:=67) (by kernel_rfl) rfl)
   refine dQ _ ?_ ⟨γ,fun _ _=>rfl,rfl,D.cI E (by decide)⟩;generalize a.eval=ev at B⊢;simp[go_sem,execOp,G,B,fD]
  ·obtain⟨L,H,G,N⟩:=BB
   obtain rfl:=same H rfl;have B:a.eval (.tmp 68)=.pointer (some ⟨r,3,none⟩):=(I.get J M (i:=9) (d:=68) (by kernel_rfl) rfl)
   have W:a.eval (.tmp 66)=γ.va:=(I.get J M (i:=7) (d:=66) (by kernel_rfl) rfl)
   have f:listed.getD 7 false=true:=iW J M (by kernel_rfl);have hA:=D.ap f U;obtain⟨wA,g1,g2,g3,g4⟩:=hA;have g:ao w' r 91 cs:=(g3.block r (R7.below g1 R7.lt).lt (fun e=>xL e.symm)).trans (R7.below g1 R7.lt);have c0:=g.cell 3;rw[zp]at c0;have f0:=g.frozen 3
   obtain⟨pv,lv,cv,Z⟩:∃p l c,γ.va=.slice p l c:=by
    rcases g2.2 with⟨h,_⟩|⟨_,_,_,h,_⟩
    ·exact⟨_,_,_,h⟩
    ·exact⟨_,_,_,h⟩
   have Y:(execOp a.eval L).run Tryz.prog w'=.ok .skip (w'.setCell ⟨r,3,none⟩ γ.va):=by
    rw[Z]at W⊢;generalize a.eval=ev at B W⊢;simp[go_sem,execOp,G,B,W,c0,f0,Result.andThen]
   unfold Oper.wp;rw[Y,Oper.upon_skip];have R:(listed.setIfInBounds 10 true).getD 7 false=true:=by rw[ai E,if_neg (by decide)];exact f
   have V:(listed.setIfInBounds 10 true).getD 10 false=true:=by rw[ai E,if_pos rfl]
   refine⟨γ,fun _ _=>rfl,rfl,⟨fun A=>?_,fun _ A=>?_,fun _ A=>?_,fun _=>⟨w',⟨wA,g1,g2,g3,g4⟩,rfl⟩,fun _=>?_,fun A=>?_,fun _=>R⟩⟩
   ·rw[R]at A;cases A
   ·rw[R]at A;cases A
   ·rw[V]at A;cases A
   ·obtain⟨k4,k6⟩:=D.c7 f
    exact⟨by rw[ai E,if_neg (by decide)];exact k4,by rw[ai E,if_neg (by decide)];exact k6⟩
   ·rw[ai E,if_neg (by decide)]at A⊢;exact D.c6 A
 ·intro γ listed a w' I T
  have all:∀j,j<11→listed.getD j false=true:=fun j u=>T j (by rw[nx];exact u)
  obtain⟨wB,hA,rfl⟩:=I.wd.st (all 10 (by omega));rw[oy 73 qf hsz I T,nx];simp only[ij,Bo,Bp,Bq,Br,Bt,Bu,Bv,Bw,Bz,BA,yN,Ap,fD];exact hQ γ wB hA
 ·exact⟨fun _=>(Below.refl _ _).drew,fun A=>(by rw[no]at A;cases A),fun A=>(by rw[no]at A;cases A),fun A=>(by rw[no]at A;cases A),fun A=>(by rw[no]at A;cases A),fun A=>(by rw[no]at A;cases A),fun A=>(by rw[no]at A;cases A)⟩
end Mem
namespace Mem
open Mk Block Attr Path Go.Shelf
section
variable {w0 w w':World} {K:RK} {a:Nat} {s:RS} {mb:Option Nat} {v:Value} {xs:List MP} {q:Option Addr} {n c:Nat}
theorem JK (hr:Rd w0 w K a s mb v xs q n c) (h:ak) (hf:s.out.length=4096):
 Calls Tryz.prog 76 #[.pointer (some ⟨K.r,0,none⟩),.agg (aa h)] w fun e w'=>e=.returned (.int .i64 10)∧Below w0.heap.size w0 w':=by
 obtain⟨vp,R,I,_,_,_⟩:=jg hr.row hr.bodies;subst I;have A:xs.length=s.out.length:=by have:=congrArg List.length hr.out;simpa using this
 obtain⟨W1,D⟩:∃W1,w.alloc (.cells (aa h) 66)=W1:=⟨_,rfl⟩
 have B:Below w.heap.size w W1:=by rw[←D];exact(Below.refl _ w).alloc (Qk _) _
 have G:ao W1 w.heap.size 66 (aa h):=by rw[←D];exact ao.new w _ _
 have E:=hr.below B;have J:=E.c3;have L:=Qh hr;have N:=Qh B;have O:=Qh G;have H:=Qh E;have M:=Qh A;clear hr B G E;rw[hf]at A;rw[A]at J;clear A
 go_enter Tryz.func76,Tryz.ntmps76
 go_upto_region 1 with fail
 clear D;go_wp2;go_ret;exact⟨rfl,H.out.bel⟩
theorem M8 (hr:Rd w0 w K a s mb v xs q n c) (h:ak) (hf:s.out.length<4096) (hk:fL h.kind=false):
 Calls Tryz.prog 76 #[.pointer (some ⟨K.r,0,none⟩),.agg (aa h)] w fun e w'=>e=.returned (.int .i64 8)∧Below w0.heap.size w0 w':=by
 obtain⟨vp,U,J,_,_,_⟩:=jg hr.row hr.bodies;subst J;have D:xs.length=s.out.length:=by have:=congrArg List.length hr.out;simpa using this
 obtain⟨W1,B⟩:∃W1,w.alloc (.cells (aa h) 66)=W1:=⟨_,rfl⟩
 have A:Below w.heap.size w W1:=by rw[←B];exact(Below.refl _ w).alloc (Qk _) _
 have H:ao W1 w.heap.size 66 (aa h):=by rw[←B];exact ao.new w _ _
 have E:=hr.below A;have W:=E.c3;have N:=Qh hr;have T:=Qh A;have M:=Qh H;have I:=Qh E;have O:=Qh D;clear hr A H E;have R:((xs.length:Int)==4096)=false:=by rw[D];simpa using (by omega:¬(s.out.length:Int)=4096)
 clear D;have L:=M.out.cell 2;simp only[aa,Qc,Qa,Qb]at L;have G:=iQ h.kind W1;rw[hk]at G
 go_enter Tryz.func76,Tryz.ntmps76
 go_upto_region 1 with fail
 clear B;go_wp2_with fail;refine G.mono ?_;rintro e V ⟨rfl,rfl⟩;go_wp2;go_ret;exact⟨rfl,I.out.bel⟩
theorem yO (hr:Rd w0 w K a s mb v xs q n c) (h:ak) (hf:s.out.length<4096) (hk:fL h.kind=true) (A2:(cA (aH s.cU) s.own (ey h s)).2≠0):
 Calls Tryz.prog 76 #[.pointer (some ⟨K.r,0,none⟩),.agg (aa h)] w fun e w'=>e=.returned (.int .i64 (cA (aH s.cU) s.own (ey h s)).2)∧Below w0.heap.size w0 w':=by
 obtain⟨vp,Y,l,_,_,_⟩:=jg hr.row hr.bodies;subst l;have M:xs.length=s.out.length:=by have:=congrArg List.length hr.out;simpa using this
 obtain⟨W1,H⟩:∃W1,w.alloc (.cells (aa h) 66)=W1:=⟨_,rfl⟩
 have G:Below w.heap.size w W1:=by rw[←H];exact(Below.refl _ w).alloc (Qk _) _
 have X:ao W1 w.heap.size 66 (aa h):=by rw[←H];exact ao.new w _ _
 have N:=hr.below G;have m:=N.c3;have B:=Qh hr;have g:=Qh G;have W:=Qh X;have p:=Qh N;have t:=Qh M;clear hr G X N;have u:((xs.length:Int)==4096)=false:=by rw[M];simpa using (by omega:¬(s.out.length:Int)=4096)
 clear M;have V:=W.out.cell 2;simp only[aa,Qc,Qa,Qb]at V;have U:=iQ h.kind W1;rw[hk]at U;obtain⟨⟨J,on,I⟩,O⟩:∃x,ye s q n c=x:=⟨_,rfl⟩
 obtain⟨⟨T,E⟩,D⟩:∃x,cA (aH s.cU) s.own (ey h s)=x:=⟨_,rfl⟩
 have b:Hid (∀wi,Rd w0 wi K a s mb (.slice vp xs.length Y) xs q n c→((wi.cell? ⟨K.r,1,none⟩=some (.pointer (some ⟨K.gs,0,none⟩))∧wi.cell? ⟨K.r,2,none⟩=some (.map (some K.mw)))∧(Instr.lookup 89 (.map (some K.mw)) (.int .u8 120) false).run Tryz.prog wi=.ok (.agg #[.string ⟨#[]⟩,.slice J on I]) wi)):=
  Qh (fun wi hi=>⟨⟨hi.c1,hi.c2⟩,rL hi.map O⟩)
 have f:Hid (∀wi,Rd w0 wi K a s mb (.slice vp xs.length Y) xs q n c→Calls Tryz.prog 112 #[.pointer (some ⟨K.gs,0,none⟩),.agg (aa (ey h s)),.slice J on I] wi fun e w'=>e=.returned (.tuple #[.agg (aa T),.int .i64 E])∧Below wi.heap.size wi w'):=
  Qh (fun wi hi=>by have:=oh h hi O (ey h s);rw[D]at this;exact this)
 have d:=Qh D;clear O D;rw[d.out]at A2⊢;simp only at A2⊢;have y:(E != 0)=true:=by simpa using A2
 clear A2
 go_enter Tryz.func76,Tryz.ntmps76
 go_upto_region 1 with fail
 clear H;go_wp2_with fail;refine U.mono ?_;rintro e w1 ⟨rfl,rfl⟩;go_upto_region 5 with fail;refine wp_region_any (by kernel_rfl) (jv (w:=w) (w1:=W1) K.r K.gs K.mw w.heap.size h (ey h s) J on I T E (show 73≤73 from Qk 73) rfl rfl (Qk _) g.out W.out (fun wi A=>b.out wi (B.out.below A)) (fun wi A=>jH h (B.out.below A)) (fun wi A=>f.out wi (B.out.below A)) ?_);intro W5 L R;have z:=Qh L;have o:=Qh R;have Z:=Qh (B.out.below L);clear L R V m;simp only[Exit.then]
 apply_assumption
 go_wp2;go_ret;exact⟨rfl,Z.out.bel⟩
theorem BN (hr:Rd w0 w K a s mb v xs q n c) (h:ak) (hf:s.out.length<4096) (hk:fL h.kind=true) (hN:Need w0) (h0:0≤h.size) (h1:h.name.length≤1048576) (h2:h.link.length≤1048576) (ah:ak) (A2:cA (aH s.cU) s.own (ey h s)=(ah,0)) (rh:(dG ah).2≠0):
 Calls Tryz.prog 76 #[.pointer (some ⟨K.r,0,none⟩),.agg (aa h)] w fun e w'=>e=.returned (.int .i64 (dG ah).2)∧Below w0.heap.size w0 w':=by
 obtain⟨vp,p,hv,_,_,_⟩:=jg hr.row hr.bodies;subst hv;have U:xs.length=s.out.length:=by have:=congrArg List.length hr.out;simpa using this
 obtain⟨W1,N⟩:∃W1,w.alloc (.cells (aa h) 66)=W1:=⟨_,rfl⟩
 have M:Below w.heap.size w W1:=by rw[←N];exact(Below.refl _ w).alloc (Qk _) _
 have m:ao W1 w.heap.size 66 (aa h):=by rw[←N];exact ao.new w _ _
 have V:=hr.below M;have x3:=V.c3;have D:=Qh hr;have b8:=Qh M;have l:=Qh m;have I0:=Qh V;have I1:=Qh U;clear hr M m V;have Ja:((xs.length:Int)==4096)=false:=by rw[U];simpa using (by omega:¬(s.out.length:Int)=4096)
 clear U;have g:=l.out.cell 2;simp only[aa,Qc,Qa,Qb]at g;have b:=iQ h.kind W1;rw[hk]at b;obtain⟨⟨R,on,O⟩,W⟩:∃x,ye s q n c=x:=⟨_,rfl⟩
 have y:Hid (∀wi,Rd w0 wi K a s mb (.slice vp xs.length p) xs q n c→((wi.cell? ⟨K.r,1,none⟩=some (.pointer (some ⟨K.gs,0,none⟩))∧wi.cell? ⟨K.r,2,none⟩=some (.map (some K.mw)))∧(Instr.lookup 89 (.map (some K.mw)) (.int .u8 120) false).run Tryz.prog wi=.ok (.agg #[.string ⟨#[]⟩,.slice R on O]) wi)):=
  Qh (fun wi hi=>⟨⟨hi.c1,hi.c2⟩,rL hi.map W⟩)
 have Py:Hid (∀wi,Rd w0 wi K a s mb (.slice vp xs.length p) xs q n c→Calls Tryz.prog 112 #[.pointer (some ⟨K.gs,0,none⟩),.agg (aa (ey h s)),.slice R on O] wi fun e w'=>e=.returned (.tuple #[.agg (aa ah),.int .i64 0])∧Below wi.heap.size wi w'):=
  Qh (fun wi hi=>by have:=oh h hi W (ey h s);rw[A2]at this;exact this)
 have z:=Qh A2;clear W A2
 have qc:Hid (0≤ah.size∧ah.name.length≤1048576∧ah.link.length≤1048576):=Qh (by
  have:=og h D.out h0 h1 h2;rw[z.out]at this
  exact this)
 have mE:=Qh hN;clear hN h0 h1 h2;obtain⟨⟨A,f⟩,I⟩:∃x,dG ah=x:=⟨_,rfl⟩
 have J:A.body=[]:=by have:=kE ah;rw[I]at this;exact this
 have Sx:Hid (∀wi,Tabs wi→Calls Tryz.prog 80 #[.agg (aa ah)] wi fun e w'=>e=.returned (.tuple #[.agg #[.string (str A.path),.string (str A.target),.int .u8 (A.kind.toNat:Int),.int .i64 A.mode,.int .i64 A.uid,.int .i64 A.gid,.int .i64 A.time,.slice none 0 0],.int .i64 f])∧Below wi.heap.size wi w'):=
  Qh (fun wi hT=>by
   obtain⟨_,b1,b2⟩:=qc.out;have:=iD ah wi (by omega) (by omega) hT;rw[I]at this;unfold cO at this;simp only[J,List.length_nil]at this
   exact this)
 have RG:=Qh I;have YU:=Qh J;clear I J;rw[RG.out]at rh⊢;simp only at rh⊢;have X8:(f != 0)=true:=by simpa using rh
 clear rh
 go_enter Tryz.func76,Tryz.ntmps76
 go_upto_region 1 with fail
 clear N;go_wp2_with fail;refine b.mono ?_;rintro e w1 ⟨rfl,rfl⟩;go_upto_region 5 with fail;refine wp_region_any (by kernel_rfl) (jv (w:=w) (w1:=W1) K.r K.gs K.mw w.heap.size h (ey h s) R on O ah 0 (show 73≤73 from Qk 73) rfl rfl (Qk _) b8.out l.out (fun wi E=>y.out wi (D.out.below E)) (fun wi E=>jH h (D.out.below E)) (fun wi E=>Py.out wi (D.out.below E)) ?_);intro W5 T Y;have xb:=Qh T;have G:=Qh Y;have X:=Qh (D.out.below T);clear T Y g x3;simp only[Exit.then]
 apply_assumption
 have B:=G.out;have c0:=B.cell 0;have c1:=B.cell 1;have c2:=B.cell 2;have c3:=B.cell 3;have c4:=B.cell 4;have c5:=B.cell 5;have c6:=B.cell 6;have c7:=B.cell 7;have d:=B.cell 8;simp only[aa,Qc,Qa,Qb]at c0 c1 c2 c3 c4 c5 c6 c7 d;clear B;go_wp2_with fail;refine(Sx.out _ (X.out.Hr mE.out).yr).mono ?_;rintro e t ⟨rfl,H⟩;have L:=H.alloc H.size (.cells #[.string (str A.path),.string (str A.target),.int .u8 (A.kind.toNat:Int),.int .i64 A.mode,.int .i64 A.uid,.int .i64 A.gid,.int .i64 A.time,.slice none 0 0] 48);have o:=ao.new t 48 #[.string (str A.path),.string (str A.target),.int .u8 (A.kind.toNat:Int),.int .i64 A.mode,.int .i64 A.uid,.int .i64 A.gid,.int .i64 A.time,.slice none 0 0];have Z:w.heap.size<t.heap.size:=Nat.lt_of_lt_of_le G.out.lt H.size;have OH:=Qh (G.out.below L G.out.lt);have u:=Qh (X.out.below L);have rY:=Qh o;have Mi:=Qh Z;clear H L o Z c0 c1 c2 c3 c4 c5 c6 c7 d;go_wp2;go_ret;exact⟨rfl,u.out.bel⟩
end
section
variable {w0 w w':World} {K:RK} {a:Nat} {s:RS} {mb:Option Nat} {v:Value} {xs:List MP} {q:Option Addr} {n c:Nat}
theorem Rd.fresh (h:Rd w0 w K a s mb v xs q n c) {b:Nat} (hb:w.heap.size≤b):¬Ot K mb v b∧b≠K.g:=by
 obtain⟨t,hs⟩:=h.src;have h1:=h.ei.lt;have A:=hs.lt;have B:=h.st.lt;have D:=h.map.lt;refine⟨fun e=>?_,by omega⟩;rcases e with e|e|e|e|e
 ·omega
 ·omega
 ·omega
 ·have:=h.st.dI e;omega
 ·have:=(h.row.lt b e).2;omega
theorem Rd.Nn {wo:World} {a0:Nat} (ho:Rd w0 wo K a0 s mb v xs q n c) (h:Rd w0 w K a s mb v xs q n c) (hk:Kept (fun k=>wo.heap.size≤k) w w'):Rd w0 w' K a s mb v xs q n c:=by
 obtain⟨t0,B⟩:=ho.src;obtain⟨t,hs⟩:=h.src;have I:=ho.ei.lt;have J:=B.lt;have L:=ho.st.lt;have M:=ho.map.lt;have G:=ho.bel.size
 exact {
  bel:=h.bel.trans (hk.below h.bel.size (fun k hk=>Nat.le_trans G hk))
  ei:=h.ei.bW hk (by omega)
  src:=⟨t,hs.kept hk (by omega) (fun A y hy e=>by have:=ku B.gZ A hy;omega) (fun A y hy e=>by have:=xN B.NJ A hy;omega)⟩
  off:=h.off
  st:=h.st.kept hk (fun k ju e=>by
   rcases ju with rfl|ju
   ·omega
   ·have:=ho.st.dI ju;omega)
  map:=h.map.kept hk (by omega)
  own:=dn h.own hk (fun A y hy e=>by
   obtain⟨b',o,D,H,_⟩:=ho.own.2 A;rw[hy]at D
   cases D
   have e:wo.heap.size≤b':=e
   omega)
  oV:=h.oV
  row:=bN h.row hk (fun k ju e=>by have:=(ho.row.lt k ju).2;omega)
  out:=h.out
  bodies:=fun x E=>(h.bodies x E).kept hk (fun A y hy e=>by have:=ku (ho.bodies x E).gZ A hy;omega)
  apart:=h.apart
  sp:=h.sp
  sq:=h.sq
  ne:=h.ne
  uN:=h.uN
  rM:=h.rM
  base:=h.base
  many:=h.many
  gl:=h.gl
  ol:=h.ol
  nl:=h.nl
  ll:=h.ll}
theorem F9 (hr:Rd w0 w K (a+512) s mb v xs q n c) (h:ak) (hf:s.out.length<4096) (hk:fL h.kind=true) (hN:Need w0) (h0:0≤h.size) (h1:h.name.length≤1048576) (h2:h.link.length≤1048576) (ah:ak) (A2:cA (aH s.cU) s.own (ey h s)=(ah,0)) (rh:(dG ah).2=0) (k:Nat) (hsz:ah.size=(k:Int)) (kJ:k≤1048576) (hl:K.S.n<a+512+eK k):
 Calls Tryz.prog 76 #[.pointer (some ⟨K.r,0,none⟩),.agg (aa h)] w fun e w'=>e=.returned (.int .i64 2)∧Below w0.heap.size w0 w':=by
 obtain⟨vp,vc,hv,_,_,_⟩:=jg hr.row hr.bodies;subst hv;have m:xs.length=s.out.length:=by have:=congrArg List.length hr.out;simpa using this
 obtain⟨W1,Z⟩:∃W1,w.alloc (.cells (aa h) 66)=W1:=⟨_,rfl⟩
 have Y:Below w.heap.size w W1:=by rw[←Z];exact(Below.refl _ w).alloc (Qk _) _
 have pG:ao W1 w.heap.size 66 (aa h):=by rw[←Z];exact ao.new w _ _
 have o:=hr.below Y;have x3:=o.c3;have E:=Qh hr;have b8:=Qh Y;have mZ:=Qh pG;have I0:=Qh o;have I1:=Qh m;clear hr Y pG o;have Ja:((xs.length:Int)==4096)=false:=by rw[m];simpa using (by omega:¬(s.out.length:Int)=4096)
 clear m;have k2:=mZ.out.cell 2;simp only[aa,Qc,Qa,Qb]at k2;have bQ:=iQ h.kind W1;rw[hk]at bQ;obtain⟨⟨f,on,d⟩,u⟩:∃x,ye s q n c=x:=⟨_,rfl⟩
 have M0:Hid (∀wi,Rd w0 wi K (a+512) s mb (.slice vp xs.length vc) xs q n c→((wi.cell? ⟨K.r,1,none⟩=some (.pointer (some ⟨K.gs,0,none⟩))∧wi.cell? ⟨K.r,2,none⟩=some (.map (some K.mw)))∧(Instr.lookup 89 (.map (some K.mw)) (.int .u8 120) false).run Tryz.prog wi=.ok (.agg #[.string ⟨#[]⟩,.slice f on d]) wi)):=
  Qh (fun wi hi=>⟨⟨hi.c1,hi.c2⟩,rL hi.map u⟩)
 have Py:Hid (∀wi,Rd w0 wi K (a+512) s mb (.slice vp xs.length vc) xs q n c→Calls Tryz.prog 112 #[.pointer (some ⟨K.gs,0,none⟩),.agg (aa (ey h s)),.slice f on d] wi fun e w'=>e=.returned (.tuple #[.agg (aa ah),.int .i64 0])∧Below wi.heap.size wi w'):=
  Qh (fun wi hi=>by have:=oh h hi u (ey h s);rw[A2]at this;exact this)
 have MW:=Qh A2;clear u A2
 have qc:Hid (0≤ah.size∧ah.name.length≤1048576∧ah.link.length≤1048576):=Qh (by
  have:=og h E.out h0 h1 h2;rw[MW.out]at this
  exact this)
 have mE:=Qh hN;clear hN h0 h1 h2;obtain⟨⟨A,fe⟩,O⟩:∃x,dG ah=x:=⟨_,rfl⟩
 have R:A.body=[]:=by have:=kE ah;rw[O]at this;exact this
 have Sx:Hid (∀wi,Tabs wi→Calls Tryz.prog 80 #[.agg (aa ah)] wi fun e w'=>e=.returned (.tuple #[.agg #[.string (str A.path),.string (str A.target),.int .u8 (A.kind.toNat:Int),.int .i64 A.mode,.int .i64 A.uid,.int .i64 A.gid,.int .i64 A.time,.slice none 0 0],.int .i64 fe])∧Below wi.heap.size wi w'):=
  Qh (fun wi hT=>by
   obtain⟨_,b1,b2⟩:=qc.out;have:=iD ah wi (by omega) (by omega) hT;rw[O]at this;unfold cO at this;simp only[R,List.length_nil]at this
   exact this)
 have RG:=Qh O;have YU:=Qh R;clear O R;rw[RG.out]at rh;simp only at rh;subst rh;have uw:=Qh hl;have nY:=Qh kJ;have b:=Qh hsz;clear hl kJ hsz
 go_enter Tryz.func76,Tryz.ntmps76
 go_upto_region 1 with fail
 clear Z;go_wp2_with fail;refine bQ.mono ?_;rintro e w1 ⟨rfl,rfl⟩;go_upto_region 5 with fail;refine wp_region_any (by kernel_rfl) (jv (w:=w) (w1:=W1) K.r K.gs K.mw w.heap.size h (ey h s) f on d ah 0 (show 73≤73 from Qk 73) rfl rfl (Qk _) b8.out mZ.out (fun wi I=>M0.out wi (E.out.below I)) (fun wi I=>jH h (E.out.below I)) (fun wi I=>Py.out wi (E.out.below I)) ?_);intro W5 l KI;have xb:=Qh l;have J:=Qh KI;have z:=Qh (E.out.below l);clear l KI k2 x3;simp only[Exit.then]
 apply_assumption
 have B:=J.out;have c0:=B.cell 0;have c1:=B.cell 1;have c2:=B.cell 2;have c3:=B.cell 3;have c4:=B.cell 4;have c5:=B.cell 5;have c6:=B.cell 6;have c7:=B.cell 7;have c8:=B.cell 8;simp only[aa,Qc,Qa,Qb]at c0 c1 c2 c3 c4 c5 c6 c7 c8;clear B;go_wp2_with fail;refine(Sx.out _ (z.out.Hr mE.out).yr).mono ?_;rintro e D ⟨rfl,N⟩;have W:=N.alloc N.size (.cells #[.string (str A.path),.string (str A.target),.int .u8 (A.kind.toNat:Int),.int .i64 A.mode,.int .i64 A.uid,.int .i64 A.gid,.int .i64 A.time,.slice none 0 0] 48);have rJ:=ao.new D 48 #[.string (str A.path),.string (str A.target),.int .u8 (A.kind.toNat:Int),.int .i64 A.mode,.int .i64 A.uid,.int .i64 A.gid,.int .i64 A.time,.slice none 0 0];have Pg:w.heap.size<D.heap.size:=Nat.lt_of_lt_of_le J.out.lt N.size;have X:=Qh (J.out.below W J.out.lt);have V:=Qh (z.out.below W);have rY:=Qh rJ;have L:=Qh Pg;clear N W rJ Pg c0 c1 c2 c3 c4 c5 c6 c7 c8;obtain⟨W7,U⟩:∃W7,D.alloc (.cells #[.string (str A.path),.string (str A.target),.int .u8 (A.kind.toNat:Int),.int .i64 A.mode,.int .i64 A.uid,.int .i64 A.gid,.int .i64 A.time,.slice none 0 0] 48)=W7:=⟨_,rfl⟩
 rw[U]at X V rY;have Wt:=Qh U;clear U;have x0:=V.out.c0;have y:=X.out.cell 7;simp only[aa,Qc,Qa,Qb,b.out]at y;have M:=V.out.idle ((Kept.refl ag W7).drew);obtain⟨t,hs⟩:=M.src
 have cV:w.heap.size≠K.g∧D.heap.size≠K.g:=by
  obtain⟨t',nJ⟩:=E.out.src;have:=nJ.lt;have:=L.out;exact⟨by omega,by omega⟩
 have yG:=Qh M;have rZ:=Qh cV;have hB:=Ei W7.drew K.g (a+512) t K.S hs M.off k nY.out uw.out;clear hs M cV;go_upto_region 11 with fail;rw[Wt.out]
 go_region_held_law (fun w'=>w'.cell? ⟨K.r,0,none⟩=some (.pointer (some ⟨K.g,0,none⟩))∧w'.cell? ⟨w.heap.size,7,none⟩=some (.int .i64 (k:Int))) (first|exact⟨x0,y⟩|exact Ts|exact R4)
  (first
   |(go_at_call 108
     refine hB.mono ?_;rintro e G ⟨t',rfl,h4,H⟩;have T:=Qh (yG.out.fu H ⟨t',h4⟩);have S8:Hid (ao G w.heap.size 66 (aa ah)):=Qh ((X.out.drew).bW H rZ.out.1);have um:Hid (ao G D.heap.size 48 #[.string (str A.path),.string (str A.target),.int .u8 (A.kind.toNat:Int),.int .i64 A.mode,.int .i64 A.uid,.int .i64 A.gid,.int .i64 A.time,.slice none 0 0]):=Qh ((rY.out.drew).bW H rZ.out.2);have RE:=Qh H;have Ts:G.cell? ⟨K.r,0,none⟩=some (.pointer (some ⟨K.g,0,none⟩))∧G.cell? ⟨w.heap.size,7,none⟩=some (.int .i64 (k:Int)):=⟨T.out.c0,by have:=S8.out.cell 7;simp only[aa,Qc,Qa,Qb,b.out]at this;exact this⟩
     have R4:(G.setCell ⟨D.heap.size,7,none⟩ (.slice none 0 0)).cell? ⟨K.r,0,none⟩=some (.pointer (some ⟨K.g,0,none⟩))∧(G.setCell ⟨D.heap.size,7,none⟩ (.slice none 0 0)).cell? ⟨w.heap.size,7,none⟩=some (.int .i64 (k:Int)):=
      ⟨(T.out.ei.other (b':=D.heap.size) (i:=7) (by have:=E.out.ei.lt;have:=L.out;omega) _).cell 0,by have:=(S8.out.other (b':=D.heap.size) (i:=7) (by have:=L.out;omega) (.slice none 0 0)).cell 7;simp only[aa,Qc,Qa,Qb,b.out]at this;exact this⟩
     have m7:=um.out.cell 7;have Zk:=um.out.frozen 7;simp only[Qc,Qa,Qb]at m7
     clear h4 H))
 clear hB Ts x0 y;go_wp2;go_ret;exact⟨rfl,T.out.bel.setCell (p:=⟨D.heap.size,7,none⟩) (Nat.le_trans E.out.bel.size (Nat.le_of_lt L.out)) _⟩
theorem P3 (hr:Rd w0 w K (a+512) s mb v xs q n c) (h:ak) (hf:s.out.length<4096) (hk:fL h.kind=true) (hN:Need w0) (h0:0≤h.size) (h1:h.name.length≤1048576) (h2:h.link.length≤1048576) (ah:ak) (A2:cA (aH s.cU) s.own (ey h s)=(ah,0)) (rh:(dG ah).2=0) (k:Nat) (hsz:ah.size=(k:Int)) (kJ:k≤1048576) (X:List UInt8) (hX:(K.S.bs.drop (a+512)).take k=X) (hl:a+512+eK k≤K.S.n):
 Calls Tryz.prog 76 #[.pointer (some ⟨K.r,0,none⟩),.agg (aa h)] w fun e w'=>e=.returned (.int .i64 0)∧Left w0 K (a+512+eK k) {s with out:=s.out++[{(dG ah).1 with body:=X}],own:=[],name:=none,link:=none,eC:=false} w':=by
 have jM:Hid (X.length=k):=Qh (by
  obtain⟨t,hs⟩:=hr.src;have:=jE k;have:=hs.len
  rw[←hX,Qg,Qe];omega)
 obtain⟨vp,L,hv,_,_,_⟩:=jg hr.row hr.bodies;subst hv;have qA:xs.length=s.out.length:=by have:=congrArg List.length hr.out;simpa using this
 obtain⟨W1,dH⟩:∃W1,w.alloc (.cells (aa h) 66)=W1:=⟨_,rfl⟩
 have b6:Below w.heap.size w W1:=by rw[←dH];exact(Below.refl _ w).alloc (Qk _) _
 have pG:ao W1 w.heap.size 66 (aa h):=by rw[←dH];exact ao.new w _ _
 have sH:=hr.below b6;have x3:=sH.c3;have G:=Qh hr;have b8:=Qh b6;have mZ:=Qh pG;have I0:=Qh sH;have I1:=Qh qA;clear hr b6 pG sH;have Ja:((xs.length:Int)==4096)=false:=by rw[qA];simpa using (by omega:¬(s.out.length:Int)=4096)
 clear qA;have k2:=mZ.out.cell 2;simp only[aa,Qc,Qa,Qb]at k2;have bQ:=iQ h.kind W1;rw[hk]at bQ;obtain⟨⟨oq,on,oc⟩,yA⟩:∃x,ye s q n c=x:=⟨_,rfl⟩
 have M0:Hid (∀wi,Rd w0 wi K (a+512) s mb (.slice vp xs.length L) xs q n c→((wi.cell? ⟨K.r,1,none⟩=some (.pointer (some ⟨K.gs,0,none⟩))∧wi.cell? ⟨K.r,2,none⟩=some (.map (some K.mw)))∧(Instr.lookup 89 (.map (some K.mw)) (.int .u8 120) false).run Tryz.prog wi=.ok (.agg #[.string ⟨#[]⟩,.slice oq on oc]) wi)):=
  Qh (fun wi hi=>⟨⟨hi.c1,hi.c2⟩,rL hi.map yA⟩)
 have Py:Hid (∀wi,Rd w0 wi K (a+512) s mb (.slice vp xs.length L) xs q n c→Calls Tryz.prog 112 #[.pointer (some ⟨K.gs,0,none⟩),.agg (aa (ey h s)),.slice oq on oc] wi fun e w'=>e=.returned (.tuple #[.agg (aa ah),.int .i64 0])∧Below wi.heap.size wi w'):=
  Qh (fun wi hi=>by have:=oh h hi yA (ey h s);rw[A2]at this;exact this)
 have MW:=Qh A2;clear yA A2
 have qc:Hid (0≤ah.size∧ah.name.length≤1048576∧ah.link.length≤1048576):=Qh (by
  have:=og h G.out h0 h1 h2;rw[MW.out]at this
  exact this)
 have mE:=Qh hN;clear hN h0 h1 h2;obtain⟨⟨A,fe⟩,V⟩:∃x,dG ah=x:=⟨_,rfl⟩
 have W:A.body=[]:=by have:=kE ah;rw[V]at this;exact this
 have Sx:Hid (∀wi,Tabs wi→Calls Tryz.prog 80 #[.agg (aa ah)] wi fun e w'=>e=.returned (.tuple #[.agg #[.string (str A.path),.string (str A.target),.int .u8 (A.kind.toNat:Int),.int .i64 A.mode,.int .i64 A.uid,.int .i64 A.gid,.int .i64 A.time,.slice none 0 0],.int .i64 fe])∧Below wi.heap.size wi w'):=
  Qh (fun wi hT=>by
   obtain⟨_,b1,b2⟩:=qc.out;have:=iD ah wi (by omega) (by omega) hT;rw[V]at this;unfold cO at this;simp only[W,List.length_nil]at this
   exact this)
 have RG:=Qh V;have YU:=Qh W;clear V W;rw[RG.out]at rh;simp only at rh;subst rh;rw[RG.out];have HF:=Qh hf;have uw:=Qh (And.intro hX hl);have nY:=Qh kJ;have fZ:=Qh hsz;clear hl kJ hsz hX hf
 go_enter Tryz.func76,Tryz.ntmps76
 go_upto_region 1 with fail
 clear dH;go_wp2_with fail;refine bQ.mono ?_;rintro e w1 ⟨rfl,rfl⟩;go_upto_region 5 with fail;refine wp_region_any (by kernel_rfl) (jv (w:=w) (w1:=W1) K.r K.gs K.mw w.heap.size h (ey h s) oq on oc ah 0 (show 73≤73 from Qk 73) rfl rfl (Qk _) b8.out mZ.out (fun wi J=>M0.out wi (G.out.below J)) (fun wi J=>jH h (G.out.below J)) (fun wi J=>Py.out wi (G.out.below J)) ?_);intro W5 q7 KI;have xb:=Qh q7;have M:=Qh KI;have Bh:=Qh (G.out.below q7);clear q7 KI k2 x3;simp only[Exit.then]
 apply_assumption
 have E:=M.out;have c0:=E.cell 0;have c1:=E.cell 1;have c2:=E.cell 2;have c3:=E.cell 3;have c4:=E.cell 4;have c5:=E.cell 5;have c6:=E.cell 6;have c7:=E.cell 7;have c8:=E.cell 8;simp only[aa,Qc,Qa,Qb]at c0 c1 c2 c3 c4 c5 c6 c7 c8;clear E;go_wp2_with fail;refine(Sx.out _ (Bh.out.Hr mE.out).yr).mono ?_;rintro e B ⟨rfl,T⟩;have f:=T.alloc T.size (.cells #[.string (str A.path),.string (str A.target),.int .u8 (A.kind.toNat:Int),.int .i64 A.mode,.int .i64 A.uid,.int .i64 A.gid,.int .i64 A.time,.slice none 0 0] 48);have rJ:=ao.new B 48 #[.string (str A.path),.string (str A.target),.int .u8 (A.kind.toNat:Int),.int .i64 A.mode,.int .i64 A.uid,.int .i64 A.gid,.int .i64 A.time,.slice none 0 0];have Pg:w.heap.size<B.heap.size:=Nat.lt_of_lt_of_le M.out.lt T.size;have m:=Qh (M.out.below f M.out.lt);have d:=Qh (Bh.out.below f);have rY:=Qh rJ;have N:=Qh Pg;clear T f rJ Pg c0 c1 c2 c3 c4 c5 c6 c7 c8;obtain⟨W7,b⟩:∃W7,B.alloc (.cells #[.string (str A.path),.string (str A.target),.int .u8 (A.kind.toNat:Int),.int .i64 A.mode,.int .i64 A.uid,.int .i64 A.gid,.int .i64 A.time,.slice none 0 0] 48)=W7:=⟨_,rfl⟩
 rw[b]at m d rY;have Wt:=Qh b;clear b;have x0:=d.out.c0;have z7:=m.out.cell 7;simp only[aa,Qc,Qa,Qb,fZ.out]at z7;have R:=d.out.idle ((Kept.refl ag W7).drew);obtain⟨t,hs⟩:=R.src
 have cV:w.heap.size≠K.g∧B.heap.size≠K.g:=by
  obtain⟨t',nJ⟩:=G.out.src;have:=nJ.lt;have:=N.out;exact⟨by omega,by omega⟩
 have yG:=Qh R;have rZ:=Qh cV;have hB:=mG W7.drew K.g (a+512) t K.S hs R.off k nY.out X uw.out.1 uw.out.2;clear hs R cV;go_upto_region 11 with fail;rw[Wt.out]
 go_region_held_law (fun w'=>w'.cell? ⟨K.r,0,none⟩=some (.pointer (some ⟨K.g,0,none⟩))∧w'.cell? ⟨w.heap.size,7,none⟩=some (.int .i64 (k:Int))) (first|exact⟨x0,z7⟩|exact Ts|exact R4)
  (first
   |(go_at_call 108
     refine hB.mono ?_;rintro e D ⟨p,t',rfl,h2,h3,h4,O⟩;have Y:=Qh (yG.out.fu O ⟨t',h4⟩);have S8:Hid (ao D w.heap.size 66 (aa ah)):=Qh ((m.out.drew).bW O rZ.out.1);have um:Hid (ao D B.heap.size 48 #[.string (str A.path),.string (str A.target),.int .u8 (A.kind.toNat:Int),.int .i64 A.mode,.int .i64 A.uid,.int .i64 A.gid,.int .i64 A.time,.slice none 0 0]):=Qh ((rY.out.drew).bW O rZ.out.2);have y:=Qh (And.intro h2 h3);have Ts:D.cell? ⟨K.r,0,none⟩=some (.pointer (some ⟨K.g,0,none⟩))∧D.cell? ⟨w.heap.size,7,none⟩=some (.int .i64 (k:Int)):=⟨Y.out.c0,by have:=S8.out.cell 7;simp only[aa,Qc,Qa,Qb,fZ.out]at this;exact this⟩
     have R4:(D.setCell ⟨B.heap.size,7,none⟩ (.slice p k k)).cell? ⟨K.r,0,none⟩=some (.pointer (some ⟨K.g,0,none⟩))∧(D.setCell ⟨B.heap.size,7,none⟩ (.slice p k k)).cell? ⟨w.heap.size,7,none⟩=some (.int .i64 (k:Int)):=
      ⟨(Y.out.ei.other (b':=B.heap.size) (i:=7) (by have:=G.out.ei.lt;have:=N.out;omega) _).cell 0,by have:=(S8.out.other (b':=B.heap.size) (i:=7) (by have:=N.out;omega) (.slice p k k)).cell 7;simp only[aa,Qc,Qa,Qb,fZ.out]at this;exact this⟩
     have m7:=um.out.cell 7;have Zk:=um.out.frozen 7;simp only[Qc,Qa,Qb]at m7
     clear h2 h3 h4 O))
 clear hB Ts x0 z7
 have o:ao (D.setCell ⟨B.heap.size,7,none⟩ (.slice p k k)) B.heap.size 48 (MP.mk {A with body:=X} p k).cs:=by
  have h9:=um.out.set 7 (.slice p k k) (by decide:7<8);have e:(MP.mk {A with body:=X} p k).cs=#[.string (str A.path),.string (str A.target),.int .u8 (A.kind.toNat:Int),.int .i64 A.mode,.int .i64 A.uid,.int .i64 A.gid,.int .i64 A.time,.slice p X.length k]:=rfl;rw[e,jM.out];exact h9
 have Sd:Kept (fun k=>w.heap.size≤k) D (D.setCell ⟨B.heap.size,7,none⟩ (.slice p k k)):=(Kept.refl _ D).setCell (a:=⟨B.heap.size,7,none⟩) (.inr (Nat.le_of_lt N.out)) _;have u:=Rd.Nn G.out Y.out Sd
 have l:cB (D.setCell ⟨B.heap.size,7,none⟩ (.slice p k k)) p k X:=y.out.1.kept ((Kept.refl (aA B.heap.size) D).setCell (a:=⟨B.heap.size,7,none⟩) (.inr rfl) _) (fun _ x hx e=>by
  have h1:=y.out.2 x hx;have h2:=rY.out.lt;have h3:x.block=B.heap.size:=e;have h4:W7.drew.heap.size=W7.heap.size:=rfl
  omega)
 obtain⟨W9,Xk⟩:∃W9,D.setCell ⟨B.heap.size,7,none⟩ (.slice p k k)=W9:=⟨_,rfl⟩
 rw[Xk]at o u l;have Z:=Qh Xk;have xe:=Qh o;have H:=Qh u;have RF:=Qh l;clear o u l Sd R4 m7 Zk Xk;go_upto_region 14 with fail;rw[Z.out];refine wp_region_any (by kernel_rfl) (xi (w1:=W9) w0.heap.size K.r B.heap.size (.slice vp xs.length L) xs (MP.mk {A with body:=X} p k) (Fg K (.slice vp xs.length L)) (show 73≤73 from Qk 73) rfl rfl xe.out H.out.ei rfl (fun e=>(H.out.rM _ e).1 rfl) H.out.row H.out.bel.size (by have:=I1.out;have:=HF.out;omega) ?_);intro γ wB hA;obtain⟨U,g1,g2,g3,g4⟩:=hA;have I:=H.out.below g1;have uE:=I.Hk (v':=γ.va) g3;have Z2:Kept (fun k=>(Value.slice vp xs.length L).ownBlock=some k) U wB:=(Kept.refl _ U).grown g3 (fun k hk=>.inr hk);have ZM:=((I.ei.bW Z2 (fun e=>(I.rM _ e).1 rfl)).set 3 γ.va (by decide:3<4)).cell 2;have c2:(wB.setCell ⟨K.r,3,none⟩ γ.va).cell? ⟨K.r,2,none⟩=some (.map (some K.mw)):=ZM;obtain⟨w2,dS,Mw,dc,vL⟩:=uE.Nf Tryz.underlying89 0;have hy:dq U (MP.mk {A with body:=X} p k):=⟨by show cB U p X.length X;rw[jM.out];exact RF.out.below g1,by show X.length≤k;rw[jM.out];exact Qk _,by show k≤maxLen;have:=nY.out;unfold maxLen;omega⟩
 have F:=Qh (I.added g2 g3 g4 hy (fun _ z hz=>yG.out.fresh (y.out.2 z hz)) HF.out Mw dc);clear g1 g2 g3 g4 I uE Z2 ZM Mw dc vL hy;simp only[Exit.then]
 apply_assumption
 go_wp2;go_ret;exact⟨rfl,mb,γ.va,_,none,0,0,F.out⟩
end
end Mem
end Go.Proofs.YtdhibldkldlfpaaGreatDoor
