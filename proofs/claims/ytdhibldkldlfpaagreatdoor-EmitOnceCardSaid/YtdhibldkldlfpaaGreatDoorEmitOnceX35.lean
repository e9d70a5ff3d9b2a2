/- Merged. -/
import Derived.Test.YtdhibldkldlfpaaGreatDoorEmitOnceX34
import Derived.Test.YtdhibldkldlfpaaGreatDoorEmitOnceX18
namespace Go.Proofs.YtdhibldkldlfpaaGreatDoor
set_option linter.unusedVariables false
set_option maxHeartbeats 8000000
set_option maxRecDepth 100000
open Go.ChangeShapes Go.WideShapes Go.ChangeAt Go.RowKit Base bJ cr Rec Bk Hp Head Go.Lib
variable {listed:Array Bool} {j:Nat} {w w' w1:World}
namespace Attr
open Go.Shelf
variable {g:Nat} {wi wj:World} {h:ak}
theorem j1 {fn:Func} (hf:fn.results=#[.cell 6 66,.tmp 7]) (tmps:Array Value) (w:World) (g:Nat) (v:Value) (ht:tmps.getD 6 undef=.pointer (some ⟨g,0,none⟩)) (hv:tmps.getD 7 undef=v)
 (h:ak) (hb:ao w g 66 (aa h)):(results fn tmps).run Tryz.prog w=.ok (.tuple #[.agg (aa h),v]) w:=by
 rw[results_cell_tmp hf,ht,hv];have hl:=me w g _ _ _ _ _ _ _ _ _ hb;simp only[asAddr,Sem.run_pure,hl,Result.andThen];rfl
theorem oU (hb:ao w g 66 (aa h)) (a0 a1 a2 a3 a4 a5 a6 a7 a8:Value):
 ao (((((((((w.setCell ⟨g,0,none⟩ a0).setCell ⟨g,1,none⟩ a1).setCell ⟨g,2,none⟩ a2).setCell ⟨g,3,none⟩ a3).setCell ⟨g,4,none⟩ a4).setCell ⟨g,5,none⟩ a5).setCell ⟨g,6,none⟩ a6).setCell ⟨g,7,none⟩ a7).setCell ⟨g,8,none⟩ a8) g 66 #[a0,a1,a2,a3,a4,a5,a6,a7,a8]:=
 ((((((((hb.set 0 a0 (by show 0<9;decide)).set 1 a1 (by show 1<9;decide)).set 2 a2 (by show 2<9;decide)).set 3 a3 (by show 3<9;decide)).set 4 a4 (by show 4<9;decide)).set 5 a5 (by show 5<9;decide)).set 6 a6 (by show 6<9;decide)).set 7 a7 (by show 7<9;decide)).set 8 a8 (by show 8<9;decide)
theorem jw (hk:Below w.heap.size w w') (hg:w.heap.size≤g) (a0 a1 a2 a3 a4 a5 a6 a7 a8:Value):
 Below w.heap.size w (((((((((w'.setCell ⟨g,0,none⟩ a0).setCell ⟨g,1,none⟩ a1).setCell ⟨g,2,none⟩ a2).setCell ⟨g,3,none⟩ a3).setCell ⟨g,4,none⟩ a4).setCell ⟨g,5,none⟩ a5).setCell ⟨g,6,none⟩ a6).setCell ⟨g,7,none⟩ a7).setCell ⟨g,8,none⟩ a8):=
 (((((((((hk.setCell (p:=⟨g,0,none⟩) hg a0).setCell (p:=⟨g,1,none⟩) hg a1).setCell (p:=⟨g,2,none⟩) hg a2).setCell (p:=⟨g,3,none⟩) hg a3).setCell (p:=⟨g,4,none⟩) hg a4).setCell (p:=⟨g,5,none⟩) hg a5).setCell (p:=⟨g,6,none⟩) hg a6).setCell (p:=⟨g,7,none⟩) hg a7).setCell (p:=⟨g,8,none⟩) hg a8)
def qQ (w wi:World) (h:ak):Prop:=Below w.heap.size w wi∧ao wi w.heap.size 66 (aa h)∧ao wi (w.heap.size+1) 66 (aa br)
theorem qQ.below (hm:qQ w wi h) (hb:Below wi.heap.size wi wj):qQ w wj h:=
 ⟨hm.1.trans (hb.mono hm.1.size),hm.2.1.below hb hm.2.1.lt,hm.2.2.below hb hm.2.2.lt⟩
theorem qQ.put {h':ak} (hm:qQ w wi h) (hk:Kept (aw w.heap.size) wi wj) (hb:ao wj w.heap.size 66 (aa h')):qQ w wj h':=
 ⟨hm.1.trans (hk.below hm.1.size (fun k hk=>by have:k=w.heap.size:=hk;omega)),hb,hm.2.2.bG hk (fun e=>by have:w.heap.size+1=w.heap.size:=e;omega)⟩
theorem EY (s:Option Addr) (F:rq) (h:ak) (p:Option Addr) (n c:Nat) (rs:bM) (w:World) (hs:MY w s F) (hn:n≤4611686018427387904) (hr:bN w p n rs)
 (hl:∀i,i<6→(dE F rs (aF i)).length≤140737488351232):
 Calls Tryz.prog 112 #[.pointer s,.agg (aa h),.slice p n c] w fun e w'=>e=.returned (jQ (ch F rs h))∧Below w.heap.size w w':=by
 obtain⟨V,hV⟩:∃V:Nat→List UInt8,V=fun i=>dE F rs (aF i):=⟨_,rfl⟩
 have G:Hid (∀(i:Nat) (wi:World),Below w.heap.size w wi→Calls Tryz.prog 144 #[.pointer s,.string (str (aF i)),.slice p n c] wi fun e w'=>e=.returned (.string (str (V i)))∧Below wi.heap.size wi w'):=
  Qh (fun i wi A=>by rw[hV];exact G4 s F (aF i) p n c rs wi (hs.below A) hn (hr.below A))
 have W:Hid (∀i,i<6→(V i).length≤140737488351232):=Qh (by rw[hV];exact hl);rw[show ch F rs h=ew V h by rw[hV];rfl];clear hl hs hr hn hV;obtain⟨U,hU⟩:∃U:ak × Int,ew V h=U:=⟨_,rfl⟩
 rw[hU];have HU:=Qh hU;clear hU;simp only[aa];obtain⟨o0,T7⟩:∃o,dI false (V 0) h.uid=o:=⟨_,rfl⟩
 cases o0 with
 |none=>
  have X:=Qh T7;clear T7
  go_enter Tryz.func112,Tryz.ntmps112
  go_wp2_with fail
  have J:Hid (qQ w ((w.alloc (.cells (aa h) 66)).alloc (.cells (aa br) 66)) h):=by
   have D:=ao.new (w.alloc (.cells (aa h) 66)) 66 (aa br);rw[World.size_alloc]at D;exact Qh ⟨((Below.refl _ w).alloc (Qk _) _).alloc (by simp) _,(ao.new w 66 (aa h)).alloc _,D⟩
  refine(G.out 4 _ J.out.1).mono ?_;rintro e w1 ⟨rfl,A⟩;have M:=Qh (J.out.below A);clear A J;go_wp2_with fail;refine(bE (V 4) _ 0 _ (aa h) h.name w1 M.out.2.1 (by show 0<9;decide) rfl).mono ?_;rintro e w2 ⟨rfl,A,hk⟩;have H:=Qh (M.out.put (h':={h with name:=aB (V 4) h.name}) hk A);clear A hk M;go_wp2_with fail;refine(G.out 5 _ H.out.1).mono ?_;rintro e w3 ⟨rfl,A⟩;have I:=Qh (H.out.below A);clear A H;go_wp2_with fail;refine(bE (V 5) _ 1 _ _ h.link w3 I.out.2.1 (by show 1<9;decide) rfl).mono ?_;rintro e w4 ⟨rfl,A,hk⟩;have O:=Qh (I.out.put (h':={h with name:=aB (V 4) h.name,link:=aB (V 5) h.link}) hk A);clear A hk I;go_wp2_with fail;refine(G.out 0 _ O.out.1).mono ?_;rintro e w5 ⟨rfl,A⟩;have L:=Qh (O.out.below A);clear A O;go_wp2_with fail;refine(aL false (V 0) (W.out 0 (by omega)) _ 4 _ _ h.uid w5 L.out.2.1 (by show 4<9;decide) rfl).mono ?_;rw[X.out];rintro e w6 ⟨rfl,A,hk⟩;have N:=Qh (L.out.put (h':={h with name:=aB (V 4) h.name,link:=aB (V 5) h.link,uid:=0}) hk A);clear A hk L;have B:=N.out.2.2;have d:=B.cell 0;have f:=B.cell 1;have l:=B.cell 2;have m:=B.cell 3;have q:=B.cell 4;have r:=B.cell 5;have y:=B.cell 6;have r7:=B.cell 7;have r8:=B.cell 8;have f0:=B.frozen 0;have f1:=B.frozen 1;have f2:=B.frozen 2;have f3:=B.frozen 3;have f4:=B.frozen 4;have f5:=B.frozen 5;have f6:=B.frozen 6;have f7:=B.frozen 7;have f8:=B.frozen 8;simp only[aa,br,Qc,Qa,Qb]at d f l m q r y r7 r8;clear B;have E:Hid (U=(br,4)):=Qh (by rw[←HU.out];unfold ew;simp only[X.out]);go_wp2;refine bodyPost_ret (j1 rfl _ _ (w.heap.size+1) _ rfl rfl br (oU N.out.2.2 _ _ _ _ _ _ _ _ _)) rfl ?_;exact⟨by rw[E.out];rfl,jw N.out.1 (by omega) _ _ _ _ _ _ _ _ _⟩
 |some u=>
  have X:=Qh T7;clear T7;obtain⟨o1,FM⟩:∃o,dI false (V 1) h.gid=o:=⟨_,rfl⟩
  cases o1 with
  |none=>
   have b:=Qh FM;clear FM
   go_enter Tryz.func112,Tryz.ntmps112
   go_wp2_with fail
   have J:Hid (qQ w ((w.alloc (.cells (aa h) 66)).alloc (.cells (aa br) 66)) h):=by
    have D:=ao.new (w.alloc (.cells (aa h) 66)) 66 (aa br);rw[World.size_alloc]at D;exact Qh ⟨((Below.refl _ w).alloc (Qk _) _).alloc (by simp) _,(ao.new w 66 (aa h)).alloc _,D⟩
   refine(G.out 4 _ J.out.1).mono ?_;rintro e w1 ⟨rfl,A⟩;have M:=Qh (J.out.below A);clear A J;go_wp2_with fail;refine(bE (V 4) _ 0 _ (aa h) h.name w1 M.out.2.1 (by show 0<9;decide) rfl).mono ?_;rintro e w2 ⟨rfl,A,hk⟩;have H:=Qh (M.out.put (h':={h with name:=aB (V 4) h.name}) hk A);clear A hk M;go_wp2_with fail;refine(G.out 5 _ H.out.1).mono ?_;rintro e w3 ⟨rfl,A⟩;have I:=Qh (H.out.below A);clear A H;go_wp2_with fail;refine(bE (V 5) _ 1 _ _ h.link w3 I.out.2.1 (by show 1<9;decide) rfl).mono ?_;rintro e w4 ⟨rfl,A,hk⟩;have O:=Qh (I.out.put (h':={h with name:=aB (V 4) h.name,link:=aB (V 5) h.link}) hk A);clear A hk I;go_wp2_with fail;refine(G.out 0 _ O.out.1).mono ?_;rintro e w5 ⟨rfl,A⟩;have L:=Qh (O.out.below A);clear A O;go_wp2_with fail;refine(aL false (V 0) (W.out 0 (by omega)) _ 4 _ _ h.uid w5 L.out.2.1 (by show 4<9;decide) rfl).mono ?_;rw[X.out];rintro e w6 ⟨rfl,A,hk⟩;have N:=Qh (L.out.put (h':={h with name:=aB (V 4) h.name,link:=aB (V 5) h.link,uid:=u}) hk A);clear A hk L;go_wp2_with fail;refine(G.out 1 _ N.out.1).mono ?_;rintro e w7 ⟨rfl,A⟩;have R:=Qh (N.out.below A);clear A N;go_wp2_with fail;refine(aL false (V 1) (W.out 1 (by omega)) _ 5 _ _ h.gid w7 R.out.2.1 (by show 5<9;decide) rfl).mono ?_;rw[b.out];rintro e w8 ⟨rfl,A,hk⟩;have T:=Qh (R.out.put (h':={h with name:=aB (V 4) h.name,link:=aB (V 5) h.link,uid:=u,gid:=0}) hk A);clear A hk R;have B:=T.out.2.2;have d:=B.cell 0;have f:=B.cell 1;have l:=B.cell 2;have m:=B.cell 3;have q:=B.cell 4;have r:=B.cell 5;have y:=B.cell 6;have r7:=B.cell 7;have r8:=B.cell 8;have f0:=B.frozen 0;have f1:=B.frozen 1;have f2:=B.frozen 2;have f3:=B.frozen 3;have f4:=B.frozen 4;have f5:=B.frozen 5;have f6:=B.frozen 6;have f7:=B.frozen 7;have f8:=B.frozen 8;simp only[aa,br,Qc,Qa,Qb]at d f l m q r y r7 r8;clear B;have E:Hid (U=(br,4)):=Qh (by rw[←HU.out];unfold ew;simp only[X.out,b.out]);go_wp2;refine bodyPost_ret (j1 rfl _ _ (w.heap.size+1) _ rfl rfl br (oU T.out.2.2 _ _ _ _ _ _ _ _ _)) rfl ?_;exact⟨by rw[E.out];rfl,jw T.out.1 (by omega) _ _ _ _ _ _ _ _ _⟩
  |some g=>
   have b:=Qh FM;clear FM;obtain⟨o2,Jh⟩:∃o,dI true (V 2) h.time=o:=⟨_,rfl⟩
   cases o2 with
   |none=>
    have N2:=Qh Jh;clear Jh
    go_enter Tryz.func112,Tryz.ntmps112
    go_wp2_with fail
    have J:Hid (qQ w ((w.alloc (.cells (aa h) 66)).alloc (.cells (aa br) 66)) h):=by
     have D:=ao.new (w.alloc (.cells (aa h) 66)) 66 (aa br);rw[World.size_alloc]at D;exact Qh ⟨((Below.refl _ w).alloc (Qk _) _).alloc (by simp) _,(ao.new w 66 (aa h)).alloc _,D⟩
    refine(G.out 4 _ J.out.1).mono ?_;rintro e w1 ⟨rfl,A⟩;have M:=Qh (J.out.below A);clear A J;go_wp2_with fail;refine(bE (V 4) _ 0 _ (aa h) h.name w1 M.out.2.1 (by show 0<9;decide) rfl).mono ?_;rintro e w2 ⟨rfl,A,hk⟩;have H:=Qh (M.out.put (h':={h with name:=aB (V 4) h.name}) hk A);clear A hk M;go_wp2_with fail;refine(G.out 5 _ H.out.1).mono ?_;rintro e w3 ⟨rfl,A⟩;have I:=Qh (H.out.below A);clear A H;go_wp2_with fail;refine(bE (V 5) _ 1 _ _ h.link w3 I.out.2.1 (by show 1<9;decide) rfl).mono ?_;rintro e w4 ⟨rfl,A,hk⟩;have O:=Qh (I.out.put (h':={h with name:=aB (V 4) h.name,link:=aB (V 5) h.link}) hk A);clear A hk I;go_wp2_with fail;refine(G.out 0 _ O.out.1).mono ?_;rintro e w5 ⟨rfl,A⟩;have L:=Qh (O.out.below A);clear A O;go_wp2_with fail;refine(aL false (V 0) (W.out 0 (by omega)) _ 4 _ _ h.uid w5 L.out.2.1 (by show 4<9;decide) rfl).mono ?_;rw[X.out];rintro e w6 ⟨rfl,A,hk⟩;have N:=Qh (L.out.put (h':={h with name:=aB (V 4) h.name,link:=aB (V 5) h.link,uid:=u}) hk A);clear A hk L;go_wp2_with fail;refine(G.out 1 _ N.out.1).mono ?_;rintro e w7 ⟨rfl,A⟩;have R:=Qh (N.out.below A);clear A N;go_wp2_with fail;refine(aL false (V 1) (W.out 1 (by omega)) _ 5 _ _ h.gid w7 R.out.2.1 (by show 5<9;decide) rfl).mono ?_;rw[b.out];rintro e w8 ⟨rfl,A,hk⟩;have T:=Qh (R.out.put (h':={h with name:=aB (V 4) h.name,link:=aB (V 5) h.link,uid:=u,gid:=g}) hk A);clear A hk R;go_wp2_with fail;refine(G.out 2 _ T.out.1).mono ?_;rintro e w9 ⟨rfl,A⟩;have Z:=Qh (T.out.below A);clear A T;go_wp2_with fail
    refine(aL true (V 2) (W.out 2 (by omega)) _ 6 _ _ h.time w9 Z.out.2.1 (by show 6<9;decide) rfl).mono ?_;rw[N2.out];rintro e PT ⟨rfl,A,hk⟩;have Y:=Qh (Z.out.put (h':={h with name:=aB (V 4) h.name,link:=aB (V 5) h.link,uid:=u,gid:=g,time:=0}) hk A);clear A hk Z;have B:=Y.out.2.2;have d:=B.cell 0;have f:=B.cell 1;have l:=B.cell 2;have m:=B.cell 3;have q:=B.cell 4;have r:=B.cell 5;have y:=B.cell 6;have r7:=B.cell 7;have r8:=B.cell 8;have f0:=B.frozen 0;have f1:=B.frozen 1;have f2:=B.frozen 2;have f3:=B.frozen 3;have f4:=B.frozen 4;have f5:=B.frozen 5;have f6:=B.frozen 6;have f7:=B.frozen 7;have f8:=B.frozen 8;simp only[aa,br,Qc,Qa,Qb]at d f l m q r y r7 r8;clear B;have E:Hid (U=(br,4)):=Qh (by rw[←HU.out];unfold ew;simp only[X.out,b.out,N2.out]);go_wp2;refine bodyPost_ret (j1 rfl _ _ (w.heap.size+1) _ rfl rfl br (oU Y.out.2.2 _ _ _ _ _ _ _ _ _)) rfl ?_;exact⟨by rw[E.out];rfl,jw Y.out.1 (by omega) _ _ _ _ _ _ _ _ _⟩
   |some t=>
    have N2:=Qh Jh;clear Jh;obtain⟨o3,T8⟩:∃o,dI false (V 3) h.size=o:=⟨_,rfl⟩
    cases o3 with
    |none=>
     have N3:=Qh T8;clear T8
     go_enter Tryz.func112,Tryz.ntmps112
     go_wp2_with fail
     have J:Hid (qQ w ((w.alloc (.cells (aa h) 66)).alloc (.cells (aa br) 66)) h):=by
      have D:=ao.new (w.alloc (.cells (aa h) 66)) 66 (aa br);rw[World.size_alloc]at D;exact Qh ⟨((Below.refl _ w).alloc (Qk _) _).alloc (by simp) _,(ao.new w 66 (aa h)).alloc _,D⟩
     refine(G.out 4 _ J.out.1).mono ?_;rintro e w1 ⟨rfl,A⟩;have M:=Qh (J.out.below A);clear A J;go_wp2_with fail;refine(bE (V 4) _ 0 _ (aa h) h.name w1 M.out.2.1 (by show 0<9;decide) rfl).mono ?_;rintro e w2 ⟨rfl,A,hk⟩;have H:=Qh (M.out.put (h':={h with name:=aB (V 4) h.name}) hk A);clear A hk M;go_wp2_with fail;refine(G.out 5 _ H.out.1).mono ?_;rintro e w3 ⟨rfl,A⟩;have I:=Qh (H.out.below A);clear A H;go_wp2_with fail;refine(bE (V 5) _ 1 _ _ h.link w3 I.out.2.1 (by show 1<9;decide) rfl).mono ?_;rintro e w4 ⟨rfl,A,hk⟩;have O:=Qh (I.out.put (h':={h with name:=aB (V 4) h.name,link:=aB (V 5) h.link}) hk A);clear A hk I;go_wp2_with fail;refine(G.out 0 _ O.out.1).mono ?_;rintro e w5 ⟨rfl,A⟩;have L:=Qh (O.out.below A);clear A O;go_wp2_with fail;refine(aL false (V 0) (W.out 0 (by omega)) _ 4 _ _ h.uid w5 L.out.2.1 (by show 4<9;decide) rfl).mono ?_;rw[X.out];rintro e w6 ⟨rfl,A,hk⟩;have N:=Qh (L.out.put (h':={h with name:=aB (V 4) h.name,link:=aB (V 5) h.link,uid:=u}) hk A);clear A hk L;go_wp2_with fail;refine(G.out 1 _ N.out.1).mono ?_;rintro e w7 ⟨rfl,A⟩;have R:=Qh (N.out.below A);clear A N;go_wp2_with fail;refine(aL false (V 1) (W.out 1 (by omega)) _ 5 _ _ h.gid w7 R.out.2.1 (by show 5<9;decide) rfl).mono ?_;rw[b.out];rintro e w8 ⟨rfl,A,hk⟩;have T:=Qh (R.out.put (h':={h with name:=aB (V 4) h.name,link:=aB (V 5) h.link,uid:=u,gid:=g}) hk A);clear A hk R;go_wp2_with fail;refine(G.out 2 _ T.out.1).mono ?_;rintro e w9 ⟨rfl,A⟩;have Z:=Qh (T.out.below A);clear A T;go_wp2_with fail
     refine(aL true (V 2) (W.out 2 (by omega)) _ 6 _ _ h.time w9 Z.out.2.1 (by show 6<9;decide) rfl).mono ?_;rw[N2.out];rintro e PT ⟨rfl,A,hk⟩;have Y:=Qh (Z.out.put (h':={h with name:=aB (V 4) h.name,link:=aB (V 5) h.link,uid:=u,gid:=g,time:=t}) hk A);clear A hk Z;go_wp2_with fail;refine(G.out 3 _ Y.out.1).mono ?_;rintro e QL ⟨rfl,A⟩;have Ad:=Qh (Y.out.below A);clear A Y;go_wp2_with fail;refine(aL false (V 3) (W.out 3 (by omega)) _ 7 _ _ h.size QL Ad.out.2.1 (by show 7<9;decide) rfl).mono ?_;rw[N3.out];rintro e Zg ⟨rfl,A,hk⟩;have xQ:=Qh (Ad.out.put (h':={h with name:=aB (V 4) h.name,link:=aB (V 5) h.link,uid:=u,gid:=g,time:=t,size:=0}) hk A);clear A hk Ad;have B:=xQ.out.2.2;have d:=B.cell 0;have f:=B.cell 1;have l:=B.cell 2;have m:=B.cell 3;have q:=B.cell 4;have r:=B.cell 5;have y:=B.cell 6;have r7:=B.cell 7;have r8:=B.cell 8;have f0:=B.frozen 0;have f1:=B.frozen 1;have f2:=B.frozen 2;have f3:=B.frozen 3;have f4:=B.frozen 4;have f5:=B.frozen 5;have f6:=B.frozen 6;have f7:=B.frozen 7;have f8:=B.frozen 8;simp only[aa,br,Qc,Qa,Qb]at d f l m q r y r7 r8;clear B;have E:Hid (U=(br,4)):=Qh (by rw[←HU.out];unfold ew;simp only[X.out,b.out,N2.out,N3.out]);go_wp2;refine bodyPost_ret (j1 rfl _ _ (w.heap.size+1) _ rfl rfl br (oU xQ.out.2.2 _ _ _ _ _ _ _ _ _)) rfl ?_;exact⟨by rw[E.out];rfl,jw xQ.out.1 (by omega) _ _ _ _ _ _ _ _ _⟩
    |some z=>
     have N3:=Qh T8;clear T8
     go_enter Tryz.func112,Tryz.ntmps112
     go_wp2_with fail
     have J:Hid (qQ w ((w.alloc (.cells (aa h) 66)).alloc (.cells (aa br) 66)) h):=by
      have D:=ao.new (w.alloc (.cells (aa h) 66)) 66 (aa br);rw[World.size_alloc]at D;exact Qh ⟨((Below.refl _ w).alloc (Qk _) _).alloc (by simp) _,(ao.new w 66 (aa h)).alloc _,D⟩
     refine(G.out 4 _ J.out.1).mono ?_;rintro e w1 ⟨rfl,A⟩;have M:=Qh (J.out.below A);clear A J;go_wp2_with fail;refine(bE (V 4) _ 0 _ (aa h) h.name w1 M.out.2.1 (by show 0<9;decide) rfl).mono ?_;rintro e w2 ⟨rfl,A,hk⟩;have H:=Qh (M.out.put (h':={h with name:=aB (V 4) h.name}) hk A);clear A hk M;go_wp2_with fail;refine(G.out 5 _ H.out.1).mono ?_;rintro e w3 ⟨rfl,A⟩;have I:=Qh (H.out.below A);clear A H;go_wp2_with fail;refine(bE (V 5) _ 1 _ _ h.link w3 I.out.2.1 (by show 1<9;decide) rfl).mono ?_;rintro e w4 ⟨rfl,A,hk⟩;have O:=Qh (I.out.put (h':={h with name:=aB (V 4) h.name,link:=aB (V 5) h.link}) hk A);clear A hk I;go_wp2_with fail;refine(G.out 0 _ O.out.1).mono ?_;rintro e w5 ⟨rfl,A⟩;have L:=Qh (O.out.below A);clear A O;go_wp2_with fail;refine(aL false (V 0) (W.out 0 (by omega)) _ 4 _ _ h.uid w5 L.out.2.1 (by show 4<9;decide) rfl).mono ?_;rw[X.out];rintro e w6 ⟨rfl,A,hk⟩;have N:=Qh (L.out.put (h':={h with name:=aB (V 4) h.name,link:=aB (V 5) h.link,uid:=u}) hk A);clear A hk L;go_wp2_with fail;refine(G.out 1 _ N.out.1).mono ?_;rintro e w7 ⟨rfl,A⟩;have R:=Qh (N.out.below A);clear A N;go_wp2_with fail;refine(aL false (V 1) (W.out 1 (by omega)) _ 5 _ _ h.gid w7 R.out.2.1 (by show 5<9;decide) rfl).mono ?_;rw[b.out];rintro e w8 ⟨rfl,A,hk⟩;have T:=Qh (R.out.put (h':={h with name:=aB (V 4) h.name,link:=aB (V 5) h.link,uid:=u,gid:=g}) hk A);clear A hk R;go_wp2_with fail;refine(G.out 2 _ T.out.1).mono ?_;rintro e w9 ⟨rfl,A⟩;have Z:=Qh (T.out.below A);clear A T;go_wp2_with fail
     refine(aL true (V 2) (W.out 2 (by omega)) _ 6 _ _ h.time w9 Z.out.2.1 (by show 6<9;decide) rfl).mono ?_;rw[N2.out];rintro e PT ⟨rfl,A,hk⟩;have Y:=Qh (Z.out.put (h':={h with name:=aB (V 4) h.name,link:=aB (V 5) h.link,uid:=u,gid:=g,time:=t}) hk A);clear A hk Z;go_wp2_with fail;refine(G.out 3 _ Y.out.1).mono ?_;rintro e QL ⟨rfl,A⟩;have Ad:=Qh (Y.out.below A);clear A Y;go_wp2_with fail;refine(aL false (V 3) (W.out 3 (by omega)) _ 7 _ _ h.size QL Ad.out.2.1 (by show 7<9;decide) rfl).mono ?_;rw[N3.out];rintro e Zg ⟨rfl,A,hk⟩;have xQ:=Qh (Ad.out.put (h':={h with name:=aB (V 4) h.name,link:=aB (V 5) h.link,uid:=u,gid:=g,time:=t,size:=z}) hk A);clear A hk Ad;have B:=xQ.out.2.2;have d:=B.cell 0;have f:=B.cell 1;have l:=B.cell 2;have m:=B.cell 3;have q:=B.cell 4;have r:=B.cell 5;have y:=B.cell 6;have r7:=B.cell 7;have r8:=B.cell 8;have f0:=B.frozen 0;have f1:=B.frozen 1;have f2:=B.frozen 2;have f3:=B.frozen 3;have f4:=B.frozen 4;have f5:=B.frozen 5;have f6:=B.frozen 6;have f7:=B.frozen 7;have f8:=B.frozen 8;simp only[aa,br,Qc,Qa,Qb]at d f l m q r y r7 r8;clear B;have D:=xQ.out.2.1;have c0:=D.cell 0;have c1:=D.cell 1;have c2:=D.cell 2;have c3:=D.cell 3;have c4:=D.cell 4;have c5:=D.cell 5;have c6:=D.cell 6;have c7:=D.cell 7;have c8:=D.cell 8;simp only[aa,Qc,Qa,Qb]at c0 c1 c2 c3 c4 c5 c6 c7 c8;clear D;have E:Hid (U=({h with name:=aB (V 4) h.name,link:=aB (V 5) h.link,uid:=u,gid:=g,time:=t,size:=z},0)):=Qh (by rw[←HU.out];unfold ew;simp only[X.out,b.out,N2.out,N3.out]);go_wp2;refine bodyPost_ret (j1 rfl _ _ (w.heap.size+1) _ rfl rfl {h with name:=aB (V 4) h.name,link:=aB (V 5) h.link,uid:=u,gid:=g,time:=t,size:=z} (oU xQ.out.2.2 _ _ _ _ _ _ _ _ _)) rfl ?_
     exact⟨by rw[E.out];rfl,jw xQ.out.1 (by omega) _ _ _ _ _ _ _ _ _⟩
end Attr
namespace Mem
open Mk Block Attr
theorem Dk (w:World):(zeroValue 178).run Tryz.prog w=.ok (.agg #[.string ⟨#[]⟩,.slice none 0 0]) w:=Tryz.zeroValue178 w
section
variable {w0 w w':World} {K:RK} {a:Nat} {s:RS} {mb:Option Nat} {v:Value} {xs:List MP} {q:Option Addr} {n c:Nat}
theorem Rd.c0 (h:Rd w0 w K a s mb v xs q n c):w.cell? ⟨K.r,0,none⟩=some (.pointer (some ⟨K.g,0,none⟩)):=h.gm.cell 0
theorem Rd.c1 (h:Rd w0 w K a s mb v xs q n c):w.cell? ⟨K.r,1,none⟩=some (.pointer (some ⟨K.gs,0,none⟩)):=h.gm.cell 1
theorem Rd.c2 (h:Rd w0 w K a s mb v xs q n c):w.cell? ⟨K.r,2,none⟩=some (.map (some K.mw)):=h.gm.cell 2
theorem Rd.c3 (h:Rd w0 w K a s mb v xs q n c):w.cell? ⟨K.r,3,none⟩=some v:=h.gm.cell 3
theorem cg (h:ct KY w K.mw (bH s q n c)) (k:UInt8) (m:Int) (hk:(k.toNat:Int)=m):
 (Instr.lookup 89 (.map (some K.mw)) (.int .u8 m) true).run Tryz.prog w=.ok (.tuple #[(bH s q n c k).getD (.agg #[.string ⟨#[]⟩,.slice none 0 0]),.bool (bH s q n c k).isSome]) w:=by
 subst hk;exact h.look_ok Tryz.underlying89 Tryz.underlying5 Dk k
theorem Rd.Pz (h:Rd w0 w K a s mb v xs q n c):
 (Instr.lookup 89 (.map (some K.mw)) (.int .u8 76) true).run Tryz.prog w=.ok (.tuple #[.agg #[.string (str (s.name.getD [])),.slice none 0 0],.bool s.name.isSome]) w:=by
 rw[cg h.map 76 76 rfl];have e:bH s q n c 76=s.name.map (fun t=>.agg #[.string (str t),.slice none 0 0]):=by unfold bH;rw[if_neg (by decide),if_pos rfl]
 rw[e]
 cases s.name<;>rfl
theorem Rd.xh (h:Rd w0 w K a s mb v xs q n c):
 (Instr.lookup 89 (.map (some K.mw)) (.int .u8 75) true).run Tryz.prog w=.ok (.tuple #[.agg #[.string (str (s.link.getD [])),.slice none 0 0],.bool s.link.isSome]) w:=by
 rw[cg h.map 75 75 rfl];have e:bH s q n c 75=s.link.map (fun t=>.agg #[.string (str t),.slice none 0 0]):=by unfold bH;rw[if_neg (by decide),if_neg (by decide),if_pos rfl]
 rw[e]
 cases s.link<;>rfl
theorem mj {fn:Func} (hf:fn.results=#[.cell 4 66]) (tmps:Array Value) (w:World) (g:Nat) (ht:tmps.getD 4 undef=.pointer (some ⟨g,0,none⟩))
 (h:ak) (hb:ao w g 66 (aa h)):(results fn tmps).run Tryz.prog w=.ok (.agg (aa h)) w:=by
 have hl:=me w g _ _ _ _ _ _ _ _ _ hb;have A:tmps[4]?.getD undef=.pointer (some ⟨g,0,none⟩):=by simpa using ht
 simp only[results,hf];simp[A,asAddr];rw[hl];rfl
theorem jr (h:ak) (hr:Rd w0 w K a s mb v xs q n c):
 Calls Tryz.prog 113 #[.pointer (some ⟨K.r,0,none⟩),.agg (aa h)] w fun e w'=>e=.returned (.agg (aa (dN h s)))∧Below w.heap.size w w':=by
 have t:Hid (qQ w ((w.alloc (.cells (aa h) 66)).alloc (.cells (aa br) 66)) h):=by
  have B:=ao.new (w.alloc (.cells (aa h) 66)) 66 (aa br);rw[World.size_alloc]at B;exact Qh ⟨((Below.refl _ w).alloc (Qk _) _).alloc (by simp) _,(ao.new w 66 (aa h)).alloc _,B⟩
 have V:=Qh hr;clear hr;obtain⟨sn,Y0⟩:∃x,s.name=x:=⟨_,rfl⟩
 obtain⟨sl,Jo⟩:∃x,s.link=x:=⟨_,rfl⟩
 have XH:=Qh Y0;have u:=Qh Jo;clear Y0 Jo;obtain⟨U,hU⟩:∃U,dN h s=U:=⟨_,rfl⟩
 rw[hU];have HU:Hid (U={h with name:=sn.getD h.name,link:=sl.getD h.link}):=Qh (by rw[←hU,←XH.out,←u.out];rfl);clear hU;obtain⟨W1,c9⟩:∃W1,(w.alloc (.cells (aa h) 66)).alloc (.cells (aa br) 66)=W1:=⟨_,rfl⟩
 rw[c9]at t
 go_enter Tryz.func113,Tryz.ntmps113
 go_upto_region 1 with fail
 rw[show(w.alloc (.cells (aa h) 66)).alloc (.cells #[.string ⟨#[]⟩,.string ⟨#[]⟩,.int .u8 0,.int .i64 0,.int .i64 0,.int .i64 0,.int .i64 0,.int .i64 0,.bool false] 66)=W1 from c9];have R1:=Qh (V.out.below t.out.1);have N:=R1.out.c2;have W:=R1.out.Pz;rw[XH.out]at W;clear c9
 cases sn with
 |none=>
  simp only[Option.getD_none,Option.isSome_none]at W
  cases sl with
  |none=>
   go_upto_region 2 with fail
   clear N W;obtain⟨W2,G⟩:∃W2,W1.alloc (.cells #[.string (str []),.slice none 0 0] 178)=W2:=⟨_,rfl⟩
   have J:W2.cell? ⟨W1.heap.size,0,none⟩=some (.string (str [])):=by rw[←G];exact(ao.new W1 178 _).cell 0
   have L:Hid (qQ w W2 h):=Qh (by rw[←G];exact t.out.below ((Below.refl _ W1).alloc (Qk _) _));have R2:=Qh (V.out.below L.out.1);rw[show W1.alloc (.cells #[.string (str []),.slice none 0 0] 178)=W2 from G];clear G;go_upto_region 4 with fail;clear J;obtain⟨W3,T⟩:∃W3,W2=W3:=⟨_,rfl⟩
   have M:=L;rw[T]at M⊢;clear T;have O:=Qh (V.out.below M.out.1);have N:=O.out.c2;have I:=O.out.xh;rw[u.out]at I;simp only[Option.getD_none,Option.isSome_none]at I;go_upto_region 5 with fail;clear N I;obtain⟨W4,H⟩:∃W4,W3.alloc (.cells #[.string (str []),.slice none 0 0] 178)=W4:=⟨_,rfl⟩
   have J:W4.cell? ⟨W3.heap.size,0,none⟩=some (.string (str [])):=by rw[←H];exact(ao.new W3 178 _).cell 0
   have R:Hid (qQ w W4 h):=Qh (by rw[←H];exact M.out.below ((Below.refl _ W3).alloc (Qk _) _));rw[show W3.alloc (.cells #[.string (str []),.slice none 0 0] 178)=W4 from H];clear H;go_upto_region 7 with fail;clear J;have D:=R;have A:=D.out.2.2;have Z:=A.cell 0;have f0:=A.frozen 0;have b:=A.cell 1;have f1:=A.frozen 1;have d:=A.cell 2;have f2:=A.frozen 2;have f:=A.cell 3;have f3:=A.frozen 3;have g:=A.cell 4;have f4:=A.frozen 4;have l:=A.cell 5;have f5:=A.frozen 5;have m:=A.cell 6;have f6:=A.frozen 6;have o:=A.cell 7;have f7:=A.frozen 7;have p:=A.cell 8;have f8:=A.frozen 8;simp only[aa,br,Qc,Qa,Qb]at Z b d f g l m o p;clear A;have B:=D.out.2.1;have c0:=B.cell 0;have c1:=B.cell 1;have c2:=B.cell 2;have c3:=B.cell 3;have X:=B.cell 4;have c5:=B.cell 5;have c6:=B.cell 6;have c7:=B.cell 7;have Y:=B.cell 8;simp only[aa,Qc,Qa,Qb]at c0 c1 c2 c3 X c5 c6 c7 Y;clear B;have E:Hid (U=h):=Qh (by rw[HU.out];rfl);go_wp2;refine bodyPost_ret (mj rfl _ _ (w.heap.size+1) rfl h (oU D.out.2.2 _ _ _ _ _ _ _ _ _)) rfl ?_;exact⟨by rw[E.out],jw D.out.1 (by omega) _ _ _ _ _ _ _ _ _⟩
  |some lk=>
   go_upto_region 2 with fail
   clear N W;obtain⟨W2,G⟩:∃W2,W1.alloc (.cells #[.string (str []),.slice none 0 0] 178)=W2:=⟨_,rfl⟩
   have J:W2.cell? ⟨W1.heap.size,0,none⟩=some (.string (str [])):=by rw[←G];exact(ao.new W1 178 _).cell 0
   have L:Hid (qQ w W2 h):=Qh (by rw[←G];exact t.out.below ((Below.refl _ W1).alloc (Qk _) _));have R2:=Qh (V.out.below L.out.1);rw[show W1.alloc (.cells #[.string (str []),.slice none 0 0] 178)=W2 from G];clear G;go_upto_region 4 with fail;clear J;obtain⟨W3,T⟩:∃W3,W2=W3:=⟨_,rfl⟩
   have M:=L;rw[T]at M⊢;clear T;have O:=Qh (V.out.below M.out.1);have N:=O.out.c2;have I:=O.out.xh;rw[u.out]at I;simp only[Option.getD_some,Option.isSome_some]at I;go_upto_region 5 with fail;clear N I;obtain⟨W4,H⟩:∃W4,W3.alloc (.cells #[.string (str lk),.slice none 0 0] 178)=W4:=⟨_,rfl⟩
   have J:W4.cell? ⟨W3.heap.size,0,none⟩=some (.string (str lk)):=by rw[←H];exact(ao.new W3 178 _).cell 0
   have R:Hid (qQ w W4 h):=Qh (by rw[←H];exact M.out.below ((Below.refl _ W3).alloc (Qk _) _));rw[show W3.alloc (.cells #[.string (str lk),.slice none 0 0] 178)=W4 from H];clear H;have B:=R.out.2.1;have y1:=B.cell 1;have g1:=B.frozen 1;simp only[aa,Qc,Qa,Qb]at y1;clear B;go_upto_region 7 with fail;have D:Hid (qQ w (W4.setCell ⟨w.heap.size,1,none⟩ (.string (str lk))) {h with link:=lk}):=Qh (R.out.put (h':={h with link:=lk}) ((Kept.refl (aw w.heap.size) W4).setCell (a:=⟨w.heap.size,1,none⟩) (.inr rfl) _) (R.out.2.1.set 1 _ (by show 1<9;decide)));clear y1 g1 J;obtain⟨W5,y⟩:∃W5,W4.setCell ⟨w.heap.size,1,none⟩ (.string (str lk))=W5:=⟨_,rfl⟩
   rw[y]at D⊢;clear y;have A:=D.out.2.2;have Z:=A.cell 0;have f0:=A.frozen 0;have b:=A.cell 1;have f1:=A.frozen 1;have d:=A.cell 2;have f2:=A.frozen 2;have f:=A.cell 3;have f3:=A.frozen 3;have g:=A.cell 4;have f4:=A.frozen 4;have l:=A.cell 5;have f5:=A.frozen 5;have m:=A.cell 6;have f6:=A.frozen 6;have o:=A.cell 7;have f7:=A.frozen 7;have p:=A.cell 8;have f8:=A.frozen 8;simp only[aa,br,Qc,Qa,Qb]at Z b d f g l m o p;clear A;have B:=D.out.2.1;have c0:=B.cell 0;have c1:=B.cell 1;have c2:=B.cell 2;have c3:=B.cell 3;have X:=B.cell 4;have c5:=B.cell 5;have c6:=B.cell 6;have c7:=B.cell 7;have Y:=B.cell 8;simp only[aa,Qc,Qa,Qb]at c0 c1 c2 c3 X c5 c6 c7 Y;clear B;have E:Hid (U={h with link:=lk}):=Qh (by rw[HU.out];rfl);go_wp2;refine bodyPost_ret (mj rfl _ _ (w.heap.size+1) rfl {h with link:=lk} (oU D.out.2.2 _ _ _ _ _ _ _ _ _)) rfl ?_;exact⟨by rw[E.out],jw D.out.1 (by omega) _ _ _ _ _ _ _ _ _⟩
 |some nm=>
  simp only[Option.getD_some,Option.isSome_some]at W
  cases sl with
  |none=>
   go_upto_region 2 with fail
   clear N W;obtain⟨W2,G⟩:∃W2,W1.alloc (.cells #[.string (str nm),.slice none 0 0] 178)=W2:=⟨_,rfl⟩
   have J:W2.cell? ⟨W1.heap.size,0,none⟩=some (.string (str nm)):=by rw[←G];exact(ao.new W1 178 _).cell 0
   have L:Hid (qQ w W2 h):=Qh (by rw[←G];exact t.out.below ((Below.refl _ W1).alloc (Qk _) _));have R2:=Qh (V.out.below L.out.1);rw[show W1.alloc (.cells #[.string (str nm),.slice none 0 0] 178)=W2 from G];clear G;have B:=L.out.2.1;have z:=B.cell 0;have g0:=B.frozen 0;simp only[aa,Qc,Qa]at z;clear B;go_upto_region 4 with fail;have M:Hid (qQ w (W2.setCell ⟨w.heap.size,0,none⟩ (.string (str nm))) {h with name:=nm}):=Qh (L.out.put (h':={h with name:=nm}) ((Kept.refl (aw w.heap.size) W2).setCell (a:=⟨w.heap.size,0,none⟩) (.inr rfl) _) (L.out.2.1.set 0 _ (by show 0<9;decide)));clear z g0 J;obtain⟨W3,T⟩:∃W3,W2.setCell ⟨w.heap.size,0,none⟩ (.string (str nm))=W3:=⟨_,rfl⟩
   rw[T]at M⊢;clear T;have O:=Qh (V.out.below M.out.1);have N:=O.out.c2;have I:=O.out.xh;rw[u.out]at I;simp only[Option.getD_none,Option.isSome_none]at I;go_upto_region 5 with fail;clear N I;obtain⟨W4,H⟩:∃W4,W3.alloc (.cells #[.string (str []),.slice none 0 0] 178)=W4:=⟨_,rfl⟩
   have J:W4.cell? ⟨W3.heap.size,0,none⟩=some (.string (str [])):=by rw[←H];exact(ao.new W3 178 _).cell 0
   have R:Hid (qQ w W4 {h with name:=nm}):=Qh (by rw[←H];exact M.out.below ((Below.refl _ W3).alloc (Qk _) _));rw[show W3.alloc (.cells #[.string (str []),.slice none 0 0] 178)=W4 from H];clear H;go_upto_region 7 with fail;clear J;have D:=R;have A:=D.out.2.2;have Z:=A.cell 0;have f0:=A.frozen 0;have b:=A.cell 1;have f1:=A.frozen 1;have d:=A.cell 2;have f2:=A.frozen 2;have f:=A.cell 3;have f3:=A.frozen 3;have g:=A.cell 4;have f4:=A.frozen 4;have l:=A.cell 5;have f5:=A.frozen 5;have m:=A.cell 6;have f6:=A.frozen 6;have o:=A.cell 7;have f7:=A.frozen 7;have p:=A.cell 8;have f8:=A.frozen 8;simp only[aa,br,Qc,Qa,Qb]at Z b d f g l m o p;clear A;have B:=D.out.2.1;have c0:=B.cell 0;have c1:=B.cell 1;have c2:=B.cell 2;have c3:=B.cell 3;have X:=B.cell 4;have c5:=B.cell 5;have c6:=B.cell 6;have c7:=B.cell 7;have Y:=B.cell 8;simp only[aa,Qc,Qa,Qb]at c0 c1 c2 c3 X c5 c6 c7 Y;clear B;have E:Hid (U={h with name:=nm}):=Qh (by rw[HU.out];rfl);go_wp2;refine bodyPost_ret (mj rfl _ _ (w.heap.size+1) rfl {h with name:=nm} (oU D.out.2.2 _ _ _ _ _ _ _ _ _)) rfl ?_;exact⟨by rw[E.out],jw D.out.1 (by omega) _ _ _ _ _ _ _ _ _⟩
  |some lk=>
   go_upto_region 2 with fail
   clear N W;obtain⟨W2,G⟩:∃W2,W1.alloc (.cells #[.string (str nm),.slice none 0 0] 178)=W2:=⟨_,rfl⟩
   have J:W2.cell? ⟨W1.heap.size,0,none⟩=some (.string (str nm)):=by rw[←G];exact(ao.new W1 178 _).cell 0
   have L:Hid (qQ w W2 h):=Qh (by rw[←G];exact t.out.below ((Below.refl _ W1).alloc (Qk _) _));have R2:=Qh (V.out.below L.out.1);rw[show W1.alloc (.cells #[.string (str nm),.slice none 0 0] 178)=W2 from G];clear G;have B:=L.out.2.1;have z:=B.cell 0;have g0:=B.frozen 0;simp only[aa,Qc,Qa]at z;clear B;go_upto_region 4 with fail;have M:Hid (qQ w (W2.setCell ⟨w.heap.size,0,none⟩ (.string (str nm))) {h with name:=nm}):=Qh (L.out.put (h':={h with name:=nm}) ((Kept.refl (aw w.heap.size) W2).setCell (a:=⟨w.heap.size,0,none⟩) (.inr rfl) _) (L.out.2.1.set 0 _ (by show 0<9;decide)));clear z g0 J;obtain⟨W3,T⟩:∃W3,W2.setCell ⟨w.heap.size,0,none⟩ (.string (str nm))=W3:=⟨_,rfl⟩
   rw[T]at M⊢;clear T;have O:=Qh (V.out.below M.out.1);have N:=O.out.c2;have I:=O.out.xh;rw[u.out]at I;simp only[Option.getD_some,Option.isSome_some]at I;go_upto_region 5 with fail;clear N I;obtain⟨W4,H⟩:∃W4,W3.alloc (.cells #[.string (str lk),.slice none 0 0] 178)=W4:=⟨_,rfl⟩
   have J:W4.cell? ⟨W3.heap.size,0,none⟩=some (.string (str lk)):=by rw[←H];exact(ao.new W3 178 _).cell 0
   have R:Hid (qQ w W4 {h with name:=nm}):=Qh (by rw[←H];exact M.out.below ((Below.refl _ W3).alloc (Qk _) _));rw[show W3.alloc (.cells #[.string (str lk),.slice none 0 0] 178)=W4 from H];clear H;have B:=R.out.2.1;have y1:=B.cell 1;have g1:=B.frozen 1;simp only[aa,Qc,Qa,Qb]at y1;clear B;go_upto_region 7 with fail;have D:Hid (qQ w (W4.setCell ⟨w.heap.size,1,none⟩ (.string (str lk))) {h with name:=nm,link:=lk}):=Qh (R.out.put (h':={h with name:=nm,link:=lk}) ((Kept.refl (aw w.heap.size) W4).setCell (a:=⟨w.heap.size,1,none⟩) (.inr rfl) _) (R.out.2.1.set 1 _ (by show 1<9;decide)));clear y1 g1 J;obtain⟨W5,y⟩:∃W5,W4.setCell ⟨w.heap.size,1,none⟩ (.string (str lk))=W5:=⟨_,rfl⟩
   rw[y]at D⊢;clear y;have A:=D.out.2.2;have Z:=A.cell 0;have f0:=A.frozen 0;have b:=A.cell 1;have f1:=A.frozen 1;have d:=A.cell 2;have f2:=A.frozen 2;have f:=A.cell 3;have f3:=A.frozen 3;have g:=A.cell 4;have f4:=A.frozen 4;have l:=A.cell 5;have f5:=A.frozen 5;have m:=A.cell 6;have f6:=A.frozen 6;have o:=A.cell 7;have f7:=A.frozen 7;have p:=A.cell 8;have f8:=A.frozen 8;simp only[aa,br,Qc,Qa,Qb]at Z b d f g l m o p;clear A;have B:=D.out.2.1;have c0:=B.cell 0;have c1:=B.cell 1;have c2:=B.cell 2;have c3:=B.cell 3;have X:=B.cell 4;have c5:=B.cell 5;have c6:=B.cell 6;have c7:=B.cell 7;have Y:=B.cell 8;simp only[aa,Qc,Qa,Qb]at c0 c1 c2 c3 X c5 c6 c7 Y;clear B;have E:Hid (U={h with name:=nm,link:=lk}):=Qh (by rw[HU.out];rfl);go_wp2;refine bodyPost_ret (mj rfl _ _ (w.heap.size+1) rfl {h with name:=nm,link:=lk} (oU D.out.2.2 _ _ _ _ _ _ _ _ _)) rfl ?_;exact⟨by rw[E.out],jw D.out.1 (by omega) _ _ _ _ _ _ _ _ _⟩
end
theorem dw (p:Option Addr) (c:Nat) (X:List UInt8) (w:World) (hl:X.length=512) (h:cj w p 512 X):
 Calls Tryz.prog 72 #[.slice p 512 c] w fun e w'=>e=.returned (.bool (cT X))∧w=w':=by
 have:=KH p 512 c X w (by omega) h
 rwa [zn hl]at this
def A2 (l2:List UInt8) (s:RS):Int:=if l2.length<512 then 2 else if cT l2=false then 9 else if s.dU=true∨s.name.isSome=true∨s.link.isSome=true then 5 else 0
theorem G9 (l:List UInt8):cT l=(cT (l.take 512)&&cT (l.drop 512)):=by
 conv=>lhs;rw[←List.take_append_drop 512 l]
 unfold cT;rw[List.all_append]
section
variable {w0 w w':World} {K:RK} {a:Nat} {s:RS} {mb:Option Nat} {v:Value} {xs:List MP} {q:Option Addr} {n c:Nat}
theorem vN (s:RS) (q:Option Addr) (n c:Nat):(∀x,bH s q n c x=none)↔¬(s.dU=true∨s.name.isSome=true∨s.link.isSome=true):=by
 constructor
 ·intro h e
  have D:=h 120;have h1:=h 76;have B:=h 75;unfold bH at D h1 B;rw[if_pos rfl]at D;rw[if_neg (by decide),if_pos rfl]at h1;rw[if_neg (by decide),if_neg (by decide),if_pos rfl]at B;rcases e with e|e|e
  ·rw[if_pos e]at D
   cases D
  ·obtain⟨x,A⟩:=Option.isSome_iff_exists.1 e
   rw[A]at h1
   cases h1
  ·obtain⟨x,A⟩:=Option.isSome_iff_exists.1 e
   rw[A]at B
   cases B
 ·intro h k
  have h1:s.dU=false:=by
   cases A:s.dU with
   |false=>rfl
   |true=>exact absurd (.inl A) h
  have B:s.name=none:=by
   cases A:s.name with
   |none=>rfl
   |some t=>exact absurd (.inr (.inl (by rw[A];rfl))) h
  have E:s.link=none:=by
   cases A:s.link with
   |none=>rfl
   |some t=>exact absurd (.inr (.inr (by rw[A];rfl))) h
  unfold bH;rw[h1,B,E];simp
def C0 (w0:World) (K:RK) (a:Nat) (s:RS) (mb:Option Nat) (v:Value) (xs:List MP) (q:Option Addr) (n c:Nat) (r:Int) (e:Ending) (w':World):Prop:=
 e=.returned (.int .i64 r)∧∃a',Rd w0 w' K a' s mb v xs q n c
theorem wF (hr:Rd w0 w K a s mb v xs q n c):
 Calls Tryz.prog 73 #[.pointer (some ⟨K.r,0,none⟩)] w (C0 w0 K a s mb v xs q n c (A2 (K.S.bs.drop a) s)):=by
 obtain⟨t,hs⟩:=hr.src;have hlen:=hs.len;have hle:=hs.le;have R:=Qh hr;have HS:=Qh hs;have x0:=hr.c0;have T:(K.S.bs.drop a).length=K.S.n - a:=by rw[Qe,hlen]
 obtain⟨E,A⟩:∃E,A2 (K.S.bs.drop a) s=E:=⟨_,rfl⟩
 rw[A];unfold A2 at A
 by_cases h1:a=K.S.n
 ·rw[if_pos (by omega)]at A
  subst A;have B:=oV w K.g a t K.S hs hr.off;rw[show tP K.S.bs a=(14,[],a) by unfold tP;rw[if_pos (by omega)]]at B;clear hr hs hlen hle T h1
  go_enter Tryz.func73,Tryz.ntmps73
  go_wp2_with fail
  refine B.mono ?_;rintro e O ⟨p,m,U,I,rfl,h1,D,M,G,H⟩;have F:=Qh (R.out.eS H ⟨I,G⟩);clear h1 D M G H B x0;go_wp2;go_ret;exact⟨rfl,_,F.out⟩
 ·by_cases D:a+512≤K.S.n
  ·rw[if_neg (by omega),G9]at A
   have B:=oV w K.g a t K.S hs hr.off;rw[show tP K.S.bs a=(0,(K.S.bs.drop a).take 512,a+512) by unfold tP;rw[if_neg (by omega),if_pos (by omega)]]at B;obtain⟨X,W⟩:∃X,(K.S.bs.drop a).take 512=X:=⟨_,rfl⟩
   have u:X.length=512:=by rw[←W,Qg];omega
   rw[W]at A B;obtain⟨Z,b⟩:∃Z,cT X=Z:=⟨_,rfl⟩
   obtain⟨Y,N⟩:∃Y,cT ((K.S.bs.drop a).drop 512)=Y:=⟨_,rfl⟩
   rw[b,N]at A;rw[List.drop_drop]at N;have o:=Qh u;have z:=Qh b;have y:=Qh N;have J:=Qh A;clear hr hs hlen hle T h1 D W u b N A
   go_enter Tryz.func73,Tryz.ntmps73
   go_wp2_with fail
   refine B.mono ?_;rintro e O ⟨p,m,U,I,rfl,h1,D,M,G,H⟩;obtain rfl:m=512:=by rw[←h1];exact o.out
   have F:=Qh (R.out.eS H ⟨I,G⟩);have Ll:=Qh G;have cf:=Qh D;clear h1 D M G H B x0;go_wp2_with fail;refine(dw p U X O o.out cf.out).mono ?_;rw[z.out];rintro e w2 ⟨rfl,rfl⟩
   cases Z with
   |false=>
    have A:=J.out;simp only[Bool.false_and,if_true]at A;subst A;go_wp2;go_ret;exact⟨rfl,_,F.out⟩
   |true=>
    have x0:=F.out.c0;go_wp2_with fail;refine(Kg O K.g (a+512) I K.S Ll.out).mono ?_;rw[show vy (K.S.bs.drop (a+512))=Y from y.out];rintro e w3 ⟨rfl,f,l⟩;have L:=Qh (F.out.eS (l.dD _) ⟨I,f⟩);clear f l x0
    cases Y with
    |false=>
     have A:=J.out;simp only[Bool.and_false,if_true]at A;subst A;go_wp2;go_ret;exact⟨rfl,_,L.out⟩
    |true=>
     have x2:=L.out.c2;have A:=J.out;rw[if_neg (by decide)]at A;have J:=Qh A;clear A;obtain⟨k,dt,d⟩:=L.out.map.count Tryz.underlying89 3;have hk:=Qh d;clear d
     by_cases V:k=0
     ·have A:=J.out
      rw[if_neg ((vN _ _ _ _).1 (hk.out.1 V))]at A;subst A V;clear hk;go_wp2;go_ret;exact⟨rfl,_,L.out⟩
     ·have A:=J.out
      rw[if_pos (Classical.byContradiction fun hn=>V (hk.out.2 ((vN _ _ _ _).2 hn)))]at A;subst A;have uQ:(0:Int)<(k:Int):=by omega
      clear hk;go_wp2;go_ret;exact⟨rfl,_,L.out⟩
  ·rw[if_pos (by omega)]at A
   subst A;have B:=oV w K.g a t K.S hs hr.off;rw[show tP K.S.bs a=(2,[],K.S.bs.length) by unfold tP;rw[if_neg (by omega),if_neg (by omega)]]at B;clear hr hs hlen hle T h1 D
   go_enter Tryz.func73,Tryz.ntmps73
   go_wp2_with fail
   refine B.mono ?_;rintro e O ⟨p,m,U,I,rfl,h1,D,M,G,H⟩;have F:=Qh (R.out.eS H ⟨I,G⟩);clear h1 D M G H B x0;go_wp2;go_ret;exact⟨rfl,_,F.out⟩
end
end Mem
namespace Mem
open Mk Block Attr Go.Shelf
theorem yl (p:Option Addr) (n b2:Nat) (bs:List UInt8) (w:World) (hn:bs.length=n) (hm:n≤140737488351232) (h:cj w p n bs) (h2:w.cell? ⟨b2,0,none⟩=some (.int .u8 0)):
 Calls Tryz.prog 109 #[.slice p n n,.slice (some ⟨b2,0,none⟩) 1 1] w fun e w'=>∃v2 v3,e=.returned (.tuple #[.slice p (aC bs).length n,v2,v3])∧Kept af w w':=by
 rcases Nat.eq_zero_or_pos n with h0|h0
 ·subst h0
  obtain rfl:bs=[]:=List.eq_nil_of_length_eq_zero hn;rcases p with _|x
  ·refine(Any.bytes_Cut_of Tryz.jh none (some ⟨b2,0,none⟩) 0 0 1 1 (-1) w (Qk _) (by omega) (by omega) (by omega) ((Any.bytes_Index_one_nil Tryz.jh.index b2 0 1 0 w h2).mono fun e w' he=>⟨he.1,0,he.2⟩)).mono ?_
   rintro e w' ⟨rfl,q,rfl⟩;unfold Lib.cutV;rw[if_neg (by omega)];exact⟨_,_,rfl,(Kept.refl _ _).drewN _⟩
  ·refine(Any.bytes_Cut_of Tryz.jh (some x) (some ⟨b2,0,none⟩) 0 0 1 1 (-1) w (Qk _) (by omega) (by omega) (by omega) ((Any.bytes_Index_one_at Tryz.jh.index x 0 0 b2 0 1 [] 0 w rfl (fun i hi=>absurd hi (by omega)) h2).mono fun e w' he=>⟨he.1,0,he.2⟩)).mono ?_
   rintro e w' ⟨rfl,q,rfl⟩;unfold Lib.cutV;rw[if_neg (by omega)];exact⟨_,_,rfl,(Kept.refl _ _).drewN _⟩
 ·obtain⟨b,o,rfl,_⟩:=h h0
  exact Di b o n n b2 bs w hn (Qk _) hm h h2
section
variable {w0 w w':World} {K:RK} {a:Nat} {s:RS} {mb:Option Nat} {v:Value} {xs:List MP} {q:Option Addr} {n c:Nat}
theorem KF (s:RS) (q:Option Addr) (n c:Nat) (k:UInt8):∃x p m d,(bH s q n c k).getD (.agg #[.string ⟨#[]⟩,.slice none 0 0])=.agg #[.string x,.slice p m d]:=by
 unfold bH
 by_cases h1:k=120
 ·rw[if_pos h1]
  by_cases A:s.dU=true
  ·rw[if_pos A];exact⟨_,_,_,_,rfl⟩
  ·rw[if_neg A];exact⟨_,_,_,_,rfl⟩
 ·rw[if_neg h1]
  by_cases A:k=76
  ·rw[if_pos A]
   cases s.name<;>exact⟨_,_,_,_,rfl⟩
  ·rw[if_neg A]
   by_cases B:k=75
   ·rw[if_pos B]
    cases s.link<;>exact⟨_,_,_,_,rfl⟩
   ·rw[if_neg B];exact⟨_,_,_,_,rfl⟩
theorem lX (w:World) (g a t:Nat) (S:Sv) (h:Block.Src w g S a t) (ho:S.off g) (k:Nat) (hk:k≤1048576) (X:List UInt8) (hX:(S.bs.drop a).take k=X) (hl:a+ei k≤S.n):
 Calls Tryz.prog 108 #[.pointer (some ⟨g,0,none⟩),.int .i64 (k:Int)] w fun e w'=>∃p t',e=.returned (.tuple #[.slice p k k,.int .i64 0])∧cj w' p k X∧(∀x,p=some x→w.heap.size≤x.block)∧Block.Src w' g S (a+ei k) t'∧Kept (aw g) w w':=by
 refine(yh w g a t S h ho k (by omega)).mono ?_;rintro e w' (⟨_,p,rfl,A,B,⟨t',D⟩,E⟩|⟨h1,_⟩)
 ·exact⟨p,t',rfl,by rw[←hX];exact A,B,D,E⟩
 ·omega
theorem Dg (w:World) (g a t:Nat) (S:Sv) (h:Block.Src w g S a t) (ho:S.off g) (k:Nat) (hk:k≤1048576) (hl:S.n<a+ei k):
 Calls Tryz.prog 108 #[.pointer (some ⟨g,0,none⟩),.int .i64 (k:Int)] w fun e w'=>∃t',e=.returned (.tuple #[.slice none 0 0,.int .i64 2])∧Block.Src w' g S S.n t'∧Kept (aw g) w w':=by
 refine(yh w g a t S h ho k (by omega)).mono ?_;rintro e w' (⟨h1,_⟩|⟨_,rfl,⟨t',A⟩,B⟩)
 ·omega
 ·exact⟨t',rfl,A,B⟩
def Left (w0:World) (K:RK) (a:Nat) (s:RS) (w':World):Prop:=∃mb v xs q n c,Rd w0 w' K a s mb v xs q n c
theorem Fs (hr:Rd w0 w K a s mb v xs q n c) (h:ak) (hw:(bH s q n c h.kind).isSome=true):
 Calls Tryz.prog 75 #[.pointer (some ⟨K.r,0,none⟩),.agg (aa h)] w fun e w'=>e=.returned (.int .i64 5)∧Below w.heap.size w w':=by
 have X:=Qh hr;obtain⟨kn,B⟩:∃kn:Int,(h.kind.toNat:Int)=kn:=⟨_,rfl⟩
 obtain⟨W1,M⟩:∃W1,w.alloc (.cells (aa h) 66)=W1:=⟨_,rfl⟩
 have D:Below w.heap.size w W1:=by rw[←M];exact(Below.refl _ w).alloc (Qk _) _
 have E:ao W1 w.heap.size 66 (aa h):=by rw[←M];exact ao.new w _ _
 have I:=hr.below D;have A:Below w.heap.size w (W1.alloc (.cells #[.string ⟨#[]⟩,.slice none 0 0] 178)):=D.alloc D.size _;have J:=hr.below A;have V:=cg (I.idle ((Kept.refl af _).drew)).map h.kind kn B;have W:=cg (J.idle ((Kept.refl af _).drew)).map h.kind kn B;obtain⟨ex,H,em,G,R⟩:=KF s q n c h.kind;rw[R,hw]at V W;have g:=I.c2;have U:=E.cell 2;simp only[aa,Qc,Qa,Qb,B]at U;have l:=J.c2;have T:=(E.alloc (.cells #[.string ⟨#[]⟩,.slice none 0 0] 178)).cell 2;simp only[aa,Qc,Qa,Qb,B]at T;have L:=Qh D;have N:=Qh E;have m:=Qh B;clear hr hw B R I J E D A
 go_enter Tryz.func75,Tryz.ntmps75
 go_upto_region 1 with fail
 clear M
 go_cut [5,6]from 13 to 22 (fun b d f=>b=.pointer (some ⟨W1.heap.size,0,none⟩)∧d=.bool true∧f=(W1.alloc (.cells #[.string ex,.slice H em G] 178)).drew)
 case first=>
  go_region
  all_goals (go_wp2;go_meet;exact⟨rfl,rfl,rfl⟩)
 case rest=>
  obtain⟨rfl,rfl,rfl⟩:=hcut;clear V W g U l T;have A:Below w.heap.size w (W1.alloc (.cells #[.string ex,.slice H em G] 178)).drew:=((L.out.alloc L.out.size _)).drew;have Z:Hid (ao (W1.alloc (.cells #[.string ex,.slice H em G] 178)).drew w.heap.size 66 (aa h)):=Qh ((N.out.alloc _).drew);obtain⟨W2,O⟩:∃W2,(W1.alloc (.cells #[.string ex,.slice H em G] 178)).drew=W2:=⟨_,rfl⟩
  rw[O]at A Z⊢;clear O;have Y:=Qh A;have o:=Qh (X.out.below A);clear A L N;go_wp2;go_ret;exact⟨rfl,Y.out⟩
theorem Fo (hr:Rd w0 w K a s mb v xs q n c) (h:ak) (hw:bH s q n c h.kind=none) (hz:1048576<h.size):
 Calls Tryz.prog 75 #[.pointer (some ⟨K.r,0,none⟩),.agg (aa h)] w fun e w'=>e=.returned (.int .i64 10)∧Below w.heap.size w w':=by
 have V:=Qh hr;obtain⟨kn,B⟩:∃kn:Int,(h.kind.toNat:Int)=kn:=⟨_,rfl⟩
 obtain⟨W1,J⟩:∃W1,w.alloc (.cells (aa h) 66)=W1:=⟨_,rfl⟩
 have D:Below w.heap.size w W1:=by rw[←J];exact(Below.refl _ w).alloc (Qk _) _
 have E:ao W1 w.heap.size 66 (aa h):=by rw[←J];exact ao.new w _ _
 have G:=hr.below D;have A:Below w.heap.size w (W1.alloc (.cells #[.string ⟨#[]⟩,.slice none 0 0] 178)):=D.alloc D.size _;have H:=hr.below A;have L:=cg (G.idle ((Kept.refl af _).drew)).map h.kind kn B;have M:=cg (H.idle ((Kept.refl af _).drew)).map h.kind kn B;rw[hw]at L M;simp only[Option.getD_none,Option.isSome_none]at L M;have b:=G.c2;have T:=E.cell 2;simp only[aa,Qc,Qa,Qb,B]at T;have d:=H.c2;have R:=(E.alloc (.cells #[.string ⟨#[]⟩,.slice none 0 0] 178)).cell 2;simp only[aa,Qc,Qa,Qb,B]at R;have I:=Qh D;have N:=Qh E;have g:=Qh B;clear hr hw B G H E D A
 go_enter Tryz.func75,Tryz.ntmps75
 go_upto_region 1 with fail
 clear J
 go_cut [5,6]from 13 to 22 (fun X Y Z=>X=.pointer (some ⟨W1.heap.size,0,none⟩)∧Y=.bool false∧Z=(W1.alloc (.cells #[.string ⟨#[]⟩,.slice none 0 0] 178)).drew)
 case first=>
  go_region
  all_goals (go_wp2;go_meet;exact⟨rfl,rfl,rfl⟩)
 case rest=>
  obtain⟨rfl,rfl,rfl⟩:=hcut;clear L M b T d R;have A:Below w.heap.size w (W1.alloc (.cells #[.string ⟨#[]⟩,.slice none 0 0] 178)).drew:=((I.out.alloc I.out.size _)).drew;have U:Hid (ao (W1.alloc (.cells #[.string ⟨#[]⟩,.slice none 0 0] 178)).drew w.heap.size 66 (aa h)):=Qh ((N.out.alloc _).drew);obtain⟨W2,O⟩:∃W2,(W1.alloc (.cells #[.string ⟨#[]⟩,.slice none 0 0] 178)).drew=W2:=⟨_,rfl⟩
  rw[O]at A U⊢;clear O;have W:=Qh A;have l:=Qh (V.out.below A);clear A I N;have f:=U.out.cell 7;simp only[aa,Qc,Qa,Qb]at f;go_wp2;go_ret;exact⟨rfl,W.out⟩
theorem Fq (hr:Rd w0 w K a s mb v xs q n c) (h:ak) (hw:bH s q n c h.kind=none) (k:Nat) (ey:h.size=(k:Int)) (hz:k≤1048576) (hl:K.S.n<a+ei k):
 Calls Tryz.prog 75 #[.pointer (some ⟨K.r,0,none⟩),.agg (aa h)] w fun e w'=>e=.returned (.int .i64 2)∧Below w0.heap.size w0 w':=by
 have tL:=Qh hl;have y:=Qh hz;have Y:=Qh ey;have sa:¬(1048576:Int)<(k:Int):=by omega
 clear hl hz ey;have V:=Qh hr;obtain⟨kn,B⟩:∃kn:Int,(h.kind.toNat:Int)=kn:=⟨_,rfl⟩
 obtain⟨W1,M⟩:∃W1,w.alloc (.cells (aa h) 66)=W1:=⟨_,rfl⟩
 have D:Below w.heap.size w W1:=by rw[←M];exact(Below.refl _ w).alloc (Qk _) _
 have E:ao W1 w.heap.size 66 (aa h):=by rw[←M];exact ao.new w _ _
 have I:=hr.below D;have A:Below w.heap.size w (W1.alloc (.cells #[.string ⟨#[]⟩,.slice none 0 0] 178)):=D.alloc D.size _;have J:=hr.below A;have N:=cg (I.idle ((Kept.refl af _).drew)).map h.kind kn B;have O:=cg (J.idle ((Kept.refl af _).drew)).map h.kind kn B;rw[hw]at N O;simp only[Option.getD_none,Option.isSome_none]at N O;have x2:=I.c2;have l:=E.cell 2;simp only[aa,Qc,Qa,Qb,B]at l;have y2:=J.c2;have f:=(E.alloc (.cells #[.string ⟨#[]⟩,.slice none 0 0] 178)).cell 2;simp only[aa,Qc,Qa,Qb,B]at f;have L:=Qh D;have W:=Qh E;have gP:=Qh B;clear hr hw B I J E D A
 go_enter Tryz.func75,Tryz.ntmps75
 go_upto_region 1 with fail
 clear M
 go_cut [5,6]from 13 to 22 (fun s5 s6 wx=>s5=.pointer (some ⟨W1.heap.size,0,none⟩)∧s6=.bool false∧wx=(W1.alloc (.cells #[.string ⟨#[]⟩,.slice none 0 0] 178)).drew)
 case first=>
  go_region
  all_goals (go_wp2;go_meet;exact⟨rfl,rfl,rfl⟩)
 case rest=>
  obtain⟨rfl,rfl,rfl⟩:=hcut;clear N O x2 l y2 f;have A:Below w.heap.size w (W1.alloc (.cells #[.string ⟨#[]⟩,.slice none 0 0] 178)).drew:=((L.out.alloc L.out.size _)).drew;have R:Hid (ao (W1.alloc (.cells #[.string ⟨#[]⟩,.slice none 0 0] 178)).drew w.heap.size 66 (aa h)):=Qh ((W.out.alloc _).drew);obtain⟨W2,Z⟩:∃W2,(W1.alloc (.cells #[.string ⟨#[]⟩,.slice none 0 0] 178)).drew=W2:=⟨_,rfl⟩
  rw[Z]at A R⊢;clear Z;have cf:=Qh A;have m:=Qh (V.out.below A);clear A L W;have x0:=m.out.c0;have T:=R.out.cell 7;simp only[aa,Qc,Qa,Qb,Y.out]at T;have H:=m.out.idle ((Kept.refl af W2).drew);obtain⟨t,hs⟩:=H.src
  have X:w.heap.size≠K.g:=by
   obtain⟨o,z⟩:=V.out.src;have:=z.lt;omega
  have xR:=Qh H;have pG:=Qh X;have d:=Dg W2.drew K.g a t K.S hs H.off k y.out tL.out;clear hs H X;go_upto_region 6 with fail
  go_region_held_law (fun w'=>w'.cell? ⟨K.r,0,none⟩=some (.pointer (some ⟨K.g,0,none⟩))∧w'.cell? ⟨w.heap.size,7,none⟩=some (.int .i64 (k:Int))) (first|exact⟨x0,T⟩|exact p)
   (first
    |(go_at_call 108
      refine d.mono ?_;rintro e w3 ⟨o,rfl,b,G⟩;have U:=Qh (xR.out.eS G ⟨o,b⟩);have u:Hid (ao w3 w.heap.size 66 (aa h)):=Qh ((R.out.drew).bG G pG.out);have eI:=Qh G;have p:w3.cell? ⟨K.r,0,none⟩=some (.pointer (some ⟨K.g,0,none⟩))∧w3.cell? ⟨w.heap.size,7,none⟩=some (.int .i64 (k:Int)):=⟨U.out.c0,by have:=u.out.cell 7;simp only[aa,Qc,Qa,Qb,Y.out]at this;exact this⟩
      clear b G))
  clear d p x0 T;go_wp2;go_ret;exact⟨rfl,U.out.bel⟩
theorem Kb (s:RS) (q:Option Addr) (n c:Nat) (T:List UInt8):(fun y=>if y=76 then some (Value.agg #[.string (str T),.slice none 0 0])else bH s q n c y)=bH {s with name:=some T} q n c:=by
 funext y
 unfold bH
 by_cases h:y=76
 ·subst h;rfl
 ·simp[h]
theorem Ka (s:RS) (q:Option Addr) (n c:Nat) (T:List UInt8):(fun y=>if y=75 then some (Value.agg #[.string (str T),.slice none 0 0])else bH s q n c y)=bH {s with link:=some T} q n c:=by
 funext y
 unfold bH
 by_cases h:y=75
 ·subst h;rfl
 ·simp[h]
theorem MA (s:RS) (q q':Option Addr) (n c n' c':Nat) (rs:bM):(fun y=>if y=120 then some (Value.agg #[.string ⟨#[]⟩,.slice q' n' c'])else bH s q n c y)=bH {s with dU:=true,own:=rs} q' n' c':=by
 funext y
 unfold bH
 by_cases h:y=120
 ·subst h;rfl
 ·simp[h]
theorem IJ (hr:Rd w0 w K a s mb v xs q n c) (h:ak) (hw:bH s q n c h.kind=none) (k:Nat) (ey:h.size=(k:Int)) (hz:k≤1048576) (X:List UInt8) (hX:(K.S.bs.drop a).take k=X) (hl:a+ei k≤K.S.n) (lh:h.kind=76):
 Calls Tryz.prog 75 #[.pointer (some ⟨K.r,0,none⟩),.agg (aa h)] w fun e w'=>e=.returned (.int .i64 0)∧Left w0 K (a+ei k) {s with name:=some (aC X)} w':=by
 have U:Hid (X.length=k):=Qh (by
  obtain⟨t,hs⟩:=hr.src;have:=jo k;have:=hs.len
  rw[←hX,Qg,Qe];omega)
 have tL:=Qh (And.intro hX hl);have Z:=Qh hz;have z:=Qh ey;have sa:¬(1048576:Int)<(k:Int):=by omega
 clear hl hX ey hz;have Lc:=Qh lh;clear lh;have l:=Qh hr;obtain⟨kn,D⟩:∃kn:Int,(h.kind.toNat:Int)=kn:=⟨_,rfl⟩
 obtain⟨W1,O⟩:∃W1,w.alloc (.cells (aa h) 66)=W1:=⟨_,rfl⟩
 have E:Below w.heap.size w W1:=by rw[←O];exact(Below.refl _ w).alloc (Qk _) _
 have G:ao W1 w.heap.size 66 (aa h):=by rw[←O];exact ao.new w _ _
 have L:=hr.below E;have B:Below w.heap.size w (W1.alloc (.cells #[.string ⟨#[]⟩,.slice none 0 0] 178)):=E.alloc E.size _;have M:=hr.below B;have V:=cg (L.idle ((Kept.refl af _).drew)).map h.kind kn D;have W:=cg (M.idle ((Kept.refl af _).drew)).map h.kind kn D;rw[hw]at V W;simp only[Option.getD_none,Option.isSome_none]at V W;have x2:=L.c2;have k2:=G.cell 2;simp only[aa,Qc,Qa,Qb,D]at k2;have y2:=M.c2;have j2:=(G.alloc (.cells #[.string ⟨#[]⟩,.slice none 0 0] 178)).cell 2;simp only[aa,Qc,Qa,Qb,D]at j2;have N:=Qh E;have m:=Qh G;have R:=Qh D;clear hr hw D L M G E B
 go_enter Tryz.func75,Tryz.ntmps75
 go_upto_region 1 with fail
 clear O
 go_cut [5,6]from 13 to 22 (fun s5 s6 wx=>s5=.pointer (some ⟨W1.heap.size,0,none⟩)∧s6=.bool false∧wx=(W1.alloc (.cells #[.string ⟨#[]⟩,.slice none 0 0] 178)).drew)
 case first=>
  go_region
  all_goals (go_wp2;go_meet;exact⟨rfl,rfl,rfl⟩)
 case rest=>
  obtain⟨rfl,rfl,rfl⟩:=hcut;clear V W x2 k2 y2 j2;have B:Below w.heap.size w (W1.alloc (.cells #[.string ⟨#[]⟩,.slice none 0 0] 178)).drew:=((N.out.alloc N.out.size _)).drew;have Y:Hid (ao (W1.alloc (.cells #[.string ⟨#[]⟩,.slice none 0 0] 178)).drew w.heap.size 66 (aa h)):=Qh ((m.out.alloc _).drew);obtain⟨W2,fM⟩:∃W2,(W1.alloc (.cells #[.string ⟨#[]⟩,.slice none 0 0] 178)).drew=W2:=⟨_,rfl⟩
  rw[fM]at B Y⊢;clear fM;have cf:=Qh B;have oQ:=Qh (l.out.below B);clear B N m;have x0:=oQ.out.c0;have b:=Y.out.cell 7;simp only[aa,Qc,Qa,Qb,z.out]at b;have I:=oQ.out.idle ((Kept.refl af W2).drew);obtain⟨t,hs⟩:=I.src
  have u:w.heap.size≠K.g:=by
   obtain⟨t',ng⟩:=l.out.src;have:=ng.lt;omega
  have xR:=Qh I;have pG:=Qh u;have hB:=lX W2.drew K.g a t K.S hs I.off k Z.out X tL.out.1 tL.out.2;clear hs I u;go_upto_region 6 with fail
  go_region_held_law (fun w'=>w'.cell? ⟨K.r,0,none⟩=some (.pointer (some ⟨K.g,0,none⟩))∧w'.cell? ⟨w.heap.size,7,none⟩=some (.int .i64 (k:Int))) (first|exact⟨x0,b⟩|exact tI)
   (first
    |(go_at_call 108
      refine hB.mono ?_;rintro e w3 ⟨p,t',rfl,h2,h3,h4,T⟩;have d:=Qh (xR.out.eS T ⟨t',h4⟩);have J:Hid (ao w3 w.heap.size 66 (aa h)):=Qh ((Y.out.drew).bG T pG.out);have y:=Qh (And.intro h2 h3);have tI:w3.cell? ⟨K.r,0,none⟩=some (.pointer (some ⟨K.g,0,none⟩))∧w3.cell? ⟨w.heap.size,7,none⟩=some (.int .i64 (k:Int)):=⟨d.out.c0,by have:=J.out.cell 7;simp only[aa,Qc,Qa,Qb,z.out]at this;exact this⟩
      clear h2 h3 h4 T))
  clear hB tI x0 b;have k3:=J.out.cell 2;simp only[aa,Qc,Qa,Qb,R.out]at k3;obtain rfl:kn=76:=by rw[←R.out,Lc.out];rfl
  go_upto_region 10 with fail
  go_wp2_with fail
  refine(yl p k w3.heap.size X _ U.out (by have:=Z.out;omega) (y.out.1.alloc _) (ao.cell (ao.new w3 5 #[.int .u8 0]) 0)).mono ?_;rintro e w4 ⟨v2,v3,rfl,lg⟩;have H:Below w3.heap.size w3 w4:=(Kept.trans ((Kept.refl af w3).alloc _) lg).below (Qk _) (fun _ h=>h.elim);have A:=Qh (d.out.below H);have zT:Hid (ao w4 w.heap.size 66 (aa h)):=Qh (J.out.below H J.out.lt)
  have o:cj w4 p (aC X).length (aC X):=by
   have h1:=(y.out.1.below H).take (k:=(aC X).length) (by rw[←U.out];exact(fw X).1)
   rwa [(fw X).2]at h1
  have mN:=Qh o;clear lg H o k3;go_upto_region 11 with fail;have k4:=zT.out.cell 2;simp only[aa,Qc,Qa,Qb,R.out]at k4;have x4:=A.out.c2;have ZZ:(convert 26 9 (.slice p (aC X).length k)).run Tryz.prog w4=.ok (.string (str (aC X))) w4:=cK mN.out rfl _ _ _ Tryz.underlying26 Tryz.underlying5 Tryz.underlying9 _;have Vh:(convert 26 9 (.slice p (aC X).length k)).run Tryz.prog w4.drew=.ok (.string (str (aC X))) w4.drew:=cK (mN.out.below ((Below.refl _ _).drew)) rfl _ _ _ Tryz.underlying26 Tryz.underlying5 Tryz.underlying9 _
  go_still_tail 9,(by kernel_rfl)
  refine cD (K:=KY) rfl (.tmp 58) (.tmp 60) (.tmp 63) rfl Tryz.underlying89 Tryz.underlying5 K.mw (A.out.idle ((Kept.refl af w4).drew)).map rfl 76 rfl (.agg #[.string (str (aC X)),.slice none 0 0]) rfl ?_;intro w5 uR gM p8;have f:=Qh (And.intro uR (And.intro gM p8));clear uR gM p8;go_wp2;go_ret;exact⟨rfl,mb,v,xs,q,n,c,(A.out.idle ((Kept.refl af w4).drew)).waits f.out.2.1.out (by rw[←Kb];exact f.out.1.out) (A.out.idle ((Kept.refl af w4).drew)).own rfl rfl A.out.oz A.out.ol (fun t ht=>by cases ht;have:=(fw X).1;rw[U.out]at this;have:=Z.out;omega) A.out.ll⟩
theorem II (hr:Rd w0 w K a s mb v xs q n c) (h:ak) (hw:bH s q n c h.kind=none) (k:Nat) (ey:h.size=(k:Int)) (hz:k≤1048576) (X:List UInt8) (hX:(K.S.bs.drop a).take k=X) (hl:a+ei k≤K.S.n) (lh:h.kind=75):
 Calls Tryz.prog 75 #[.pointer (some ⟨K.r,0,none⟩),.agg (aa h)] w fun e w'=>e=.returned (.int .i64 0)∧Left w0 K (a+ei k) {s with link:=some (aC X)} w':=by
 have U:Hid (X.length=k):=Qh (by
  obtain⟨t,hs⟩:=hr.src;have:=jo k;have:=hs.len
  rw[←hX,Qg,Qe];omega)
 have tL:=Qh (And.intro hX hl);have Z:=Qh hz;have z:=Qh ey;have sa:¬(1048576:Int)<(k:Int):=by omega
 clear hl hX ey hz;have Lc:=Qh lh;clear lh;have l:=Qh hr;obtain⟨kn,D⟩:∃kn:Int,(h.kind.toNat:Int)=kn:=⟨_,rfl⟩
 obtain⟨W1,O⟩:∃W1,w.alloc (.cells (aa h) 66)=W1:=⟨_,rfl⟩
 have E:Below w.heap.size w W1:=by rw[←O];exact(Below.refl _ w).alloc (Qk _) _
 have G:ao W1 w.heap.size 66 (aa h):=by rw[←O];exact ao.new w _ _
 have L:=hr.below E;have B:Below w.heap.size w (W1.alloc (.cells #[.string ⟨#[]⟩,.slice none 0 0] 178)):=E.alloc E.size _;have M:=hr.below B;have V:=cg (L.idle ((Kept.refl af _).drew)).map h.kind kn D;have W:=cg (M.idle ((Kept.refl af _).drew)).map h.kind kn D;rw[hw]at V W;simp only[Option.getD_none,Option.isSome_none]at V W;have x2:=L.c2;have k2:=G.cell 2;simp only[aa,Qc,Qa,Qb,D]at k2;have y2:=M.c2;have j2:=(G.alloc (.cells #[.string ⟨#[]⟩,.slice none 0 0] 178)).cell 2;simp only[aa,Qc,Qa,Qb,D]at j2;have N:=Qh E;have m:=Qh G;have R:=Qh D;clear hr hw D L M G E B
 go_enter Tryz.func75,Tryz.ntmps75
 go_upto_region 1 with fail
 clear O
 go_cut [5,6]from 13 to 22 (fun s5 s6 wx=>s5=.pointer (some ⟨W1.heap.size,0,none⟩)∧s6=.bool false∧wx=(W1.alloc (.cells #[.string ⟨#[]⟩,.slice none 0 0] 178)).drew)
 case first=>
  go_region
  all_goals (go_wp2;go_meet;exact⟨rfl,rfl,rfl⟩)
 case rest=>
  obtain⟨rfl,rfl,rfl⟩:=hcut;clear V W x2 k2 y2 j2;have B:Below w.heap.size w (W1.alloc (.cells #[.string ⟨#[]⟩,.slice none 0 0] 178)).drew:=((N.out.alloc N.out.size _)).drew;have Y:Hid (ao (W1.alloc (.cells #[.string ⟨#[]⟩,.slice none 0 0] 178)).drew w.heap.size 66 (aa h)):=Qh ((m.out.alloc _).drew);obtain⟨W2,fM⟩:∃W2,(W1.alloc (.cells #[.string ⟨#[]⟩,.slice none 0 0] 178)).drew=W2:=⟨_,rfl⟩
  rw[fM]at B Y⊢;clear fM;have cf:=Qh B;have oQ:=Qh (l.out.below B);clear B N m;have x0:=oQ.out.c0;have b:=Y.out.cell 7;simp only[aa,Qc,Qa,Qb,z.out]at b;have I:=oQ.out.idle ((Kept.refl af W2).drew);obtain⟨t,hs⟩:=I.src
  have u:w.heap.size≠K.g:=by
   obtain⟨t',ng⟩:=l.out.src;have:=ng.lt;omega
  have xR:=Qh I;have pG:=Qh u;have hB:=lX W2.drew K.g a t K.S hs I.off k Z.out X tL.out.1 tL.out.2;clear hs I u;go_upto_region 6 with fail
  go_region_held_law (fun w'=>w'.cell? ⟨K.r,0,none⟩=some (.pointer (some ⟨K.g,0,none⟩))∧w'.cell? ⟨w.heap.size,7,none⟩=some (.int .i64 (k:Int))) (first|exact⟨x0,b⟩|exact tI)
   (first
    |(go_at_call 108
      refine hB.mono ?_;rintro e w3 ⟨p,t',rfl,h2,h3,h4,T⟩;have d:=Qh (xR.out.eS T ⟨t',h4⟩);have J:Hid (ao w3 w.heap.size 66 (aa h)):=Qh ((Y.out.drew).bG T pG.out);have y:=Qh (And.intro h2 h3);have tI:w3.cell? ⟨K.r,0,none⟩=some (.pointer (some ⟨K.g,0,none⟩))∧w3.cell? ⟨w.heap.size,7,none⟩=some (.int .i64 (k:Int)):=⟨d.out.c0,by have:=J.out.cell 7;simp only[aa,Qc,Qa,Qb,z.out]at this;exact this⟩
      clear h2 h3 h4 T))
  clear hB tI x0 b;have k3:=J.out.cell 2;simp only[aa,Qc,Qa,Qb,R.out]at k3;obtain rfl:kn=75:=by rw[←R.out,Lc.out];rfl
  go_upto_region 10 with fail
  go_wp2_with fail
  refine(yl p k w3.heap.size X _ U.out (by have:=Z.out;omega) (y.out.1.alloc _) (ao.cell (ao.new w3 5 #[.int .u8 0]) 0)).mono ?_;rintro e w4 ⟨v2,v3,rfl,lg⟩;have H:Below w3.heap.size w3 w4:=(Kept.trans ((Kept.refl af w3).alloc _) lg).below (Qk _) (fun _ h=>h.elim);have A:=Qh (d.out.below H);have zT:Hid (ao w4 w.heap.size 66 (aa h)):=Qh (J.out.below H J.out.lt)
  have o:cj w4 p (aC X).length (aC X):=by
   have h1:=(y.out.1.below H).take (k:=(aC X).length) (by rw[←U.out];exact(fw X).1)
   rwa [(fw X).2]at h1
  have mN:=Qh o;clear lg H o k3;go_upto_region 11 with fail;have k4:=zT.out.cell 2;simp only[aa,Qc,Qa,Qb,R.out]at k4;have x4:=A.out.c2;have ZZ:(convert 26 9 (.slice p (aC X).length k)).run Tryz.prog w4=.ok (.string (str (aC X))) w4:=cK mN.out rfl _ _ _ Tryz.underlying26 Tryz.underlying5 Tryz.underlying9 _;have Vh:(convert 26 9 (.slice p (aC X).length k)).run Tryz.prog w4.drew=.ok (.string (str (aC X))) w4.drew:=cK (mN.out.below ((Below.refl _ _).drew)) rfl _ _ _ Tryz.underlying26 Tryz.underlying5 Tryz.underlying9 _
  go_still_tail 9,(by kernel_rfl)
  refine cD (K:=KY) rfl (.tmp 58) (.tmp 60) (.tmp 63) rfl Tryz.underlying89 Tryz.underlying5 K.mw (A.out.idle ((Kept.refl af w4).drew)).map rfl 75 rfl (.agg #[.string (str (aC X)),.slice none 0 0]) rfl ?_;intro w5 uR gM p8;have f:=Qh (And.intro uR (And.intro gM p8));clear uR gM p8;go_wp2;go_ret;exact⟨rfl,mb,v,xs,q,n,c,(A.out.idle ((Kept.refl af w4).drew)).waits f.out.2.1.out (by rw[←Ka];exact f.out.1.out) (A.out.idle ((Kept.refl af w4).drew)).own rfl rfl A.out.oz A.out.ol A.out.nl (fun t ht=>by cases ht;have:=(fw X).1;rw[U.out]at this;have:=Z.out;omega)⟩
end
section
variable {w0 w w':World} {K:RK} {a:Nat} {s:RS} {mb:Option Nat} {v:Value} {xs:List MP} {q:Option Addr} {n c:Nat}
theorem A7 (hr:Rd w0 w K a s mb v xs q n c) (h:ak) (hw:bH s q n c h.kind=none) (k:Nat) (ey:h.size=(k:Int)) (hz:k≤1048576) (X:List UInt8) (hX:(K.S.bs.drop a).take k=X) (hl:a+ei k≤K.S.n) (E:Int) (hE:(cu 5 9 X).2=E) (LL:E≠0) (YJ:(h.kind.toNat:Int)≠76∧(h.kind.toNat:Int)≠75) (hN:Need w0):
 Calls Tryz.prog 75 #[.pointer (some ⟨K.r,0,none⟩),.agg (aa h)] w fun e w'=>e=.returned (.int .i64 E)∧Below w0.heap.size w0 w':=by
 have ju:Hid (X.length=k):=Qh (by
  obtain⟨t,hs⟩:=hr.src;have:=jo k;have:=hs.len
  rw[←hX,Qg,Qe];omega)
 have tL:=Qh (And.intro hX hl);have nB:=Qh hz;have z:=Qh ey;have sa:¬(1048576:Int)<(k:Int):=by omega
 clear hl hX ey hz;have K6:=Qh hE;have Zp:=Qh LL;have u:=Qh YJ;have lW:=Qh hN;clear hE LL YJ hN;have m:=Qh hr;obtain⟨kn,B⟩:∃kn:Int,(h.kind.toNat:Int)=kn:=⟨_,rfl⟩
 obtain⟨W1,T⟩:∃W1,w.alloc (.cells (aa h) 66)=W1:=⟨_,rfl⟩
 have D:Below w.heap.size w W1:=by rw[←T];exact(Below.refl _ w).alloc (Qk _) _
 have G:ao W1 w.heap.size 66 (aa h):=by rw[←T];exact ao.new w _ _
 have N:=hr.below D;have A:Below w.heap.size w (W1.alloc (.cells #[.string ⟨#[]⟩,.slice none 0 0] 178)):=D.alloc D.size _;have O:=hr.below A;have Z:=cg (N.idle ((Kept.refl af _).drew)).map h.kind kn B;have b:=cg (O.idle ((Kept.refl af _).drew)).map h.kind kn B;rw[hw]at Z b;simp only[Option.getD_none,Option.isSome_none]at Z b;have x2:=N.c2;have k2:=G.cell 2;simp only[aa,Qc,Qa,Qb,B]at k2;have y2:=O.c2;have j2:=(G.alloc (.cells #[.string ⟨#[]⟩,.slice none 0 0] 178)).cell 2;simp only[aa,Qc,Qa,Qb,B]at j2;have R:=Qh D;have o:=Qh G;have W:=Qh B;clear hr hw B N O G D A
 go_enter Tryz.func75,Tryz.ntmps75
 go_upto_region 1 with fail
 clear T
 go_cut [5,6]from 13 to 22 (fun s5 s6 wx=>s5=.pointer (some ⟨W1.heap.size,0,none⟩)∧s6=.bool false∧wx=(W1.alloc (.cells #[.string ⟨#[]⟩,.slice none 0 0] 178)).drew)
 case first=>
  go_region
  all_goals (go_wp2;go_meet;exact⟨rfl,rfl,rfl⟩)
 case rest=>
  obtain⟨rfl,rfl,rfl⟩:=hcut;clear Z b x2 k2 y2 j2;have A:Below w.heap.size w (W1.alloc (.cells #[.string ⟨#[]⟩,.slice none 0 0] 178)).drew:=((R.out.alloc R.out.size _)).drew;have d:Hid (ao (W1.alloc (.cells #[.string ⟨#[]⟩,.slice none 0 0] 178)).drew w.heap.size 66 (aa h)):=Qh ((o.out.alloc _).drew);obtain⟨W2,fM⟩:∃W2,(W1.alloc (.cells #[.string ⟨#[]⟩,.slice none 0 0] 178)).drew=W2:=⟨_,rfl⟩
  rw[fM]at A d⊢;clear fM;have cf:=Qh A;have oQ:=Qh (m.out.below A);clear A R o;have x0:=oQ.out.c0;have l:=d.out.cell 7;simp only[aa,Qc,Qa,Qb,z.out]at l;have I:=oQ.out.idle ((Kept.refl af W2).drew);obtain⟨t,hs⟩:=I.src
  have y:w.heap.size≠K.g:=by
   obtain⟨t',ng⟩:=m.out.src;have:=ng.lt;omega
  have xR:=Qh I;have pG:=Qh y;have hB:=lX W2.drew K.g a t K.S hs I.off k nB.out X tL.out.1 tL.out.2;clear hs I y;go_upto_region 6 with fail
  go_region_held_law (fun w'=>w'.cell? ⟨K.r,0,none⟩=some (.pointer (some ⟨K.g,0,none⟩))∧w'.cell? ⟨w.heap.size,7,none⟩=some (.int .i64 (k:Int))) (first|exact⟨x0,l⟩|exact tI)
   (first
    |(go_at_call 108
      refine hB.mono ?_;rintro e w3 ⟨p,t',rfl,h2,h3,h4,Y⟩;have M:=Qh (xR.out.eS Y ⟨t',h4⟩);have J:Hid (ao w3 w.heap.size 66 (aa h)):=Qh ((d.out.drew).bG Y pG.out);have eI:=Qh (And.intro h2 h3);have tI:w3.cell? ⟨K.r,0,none⟩=some (.pointer (some ⟨K.g,0,none⟩))∧w3.cell? ⟨w.heap.size,7,none⟩=some (.int .i64 (k:Int)):=⟨M.out.c0,by have:=J.out.cell 7;simp only[aa,Qc,Qa,Qb,z.out]at this;exact this⟩
      clear h2 h3 h4 Y))
  clear hB tI x0 l;have k3:=J.out.cell 2;simp only[aa,Qc,Qa,Qb,W.out]at k3;have e1:(kn==76)=false:=by have:=u.out.1;rw[W.out]at this;simpa using this
  have e2:(kn==75)=false:=by have:=u.out.2;rw[W.out]at this;simpa using this
  go_upto_region 13 with fail
  go_wp2_with fail
  refine(kx p k k X w3 ju.out (Qk _) (by have:=nB.out;omega) eI.out.1 (M.out.Gc lW.out)).mono ?_;rintro e w4 ⟨p4,c4,rfl,_,_,L,V⟩;obtain⟨⟨rs,U⟩,H⟩:∃x,cu 5 9 X=x:=⟨_,rfl⟩
  have hlen:=pr 5 9 X;rw[H]at L hlen;simp only[H];rw[ju.out]at hlen;have qy:Hid (cu 5 9 X=(rs,U)):=Qh H;obtain⟨rl,f⟩:∃rl,rs.length=rl:=⟨_,rfl⟩
  simp only[f]at L⊢;have H4:=Qh (M.out.below V);have zT:Hid (ao w4 w.heap.size 66 (aa h)):=Qh (J.out.below V J.out.lt);have Ae:=Qh L;have xJ:=Qh hlen;have NZ:=Qh f;clear L hlen V H f k3;obtain rfl:U=E:=by have:=K6.out;rw[qy.out]at this;exact this
  have ab3:(U != 0)=true:=by simpa using Zp.out
  go_wp2;go_ret;exact⟨rfl,H4.out.bel⟩
theorem IH (hr:Rd w0 w K a s mb v xs q n c) (h:ak) (hw:bH s q n c h.kind=none) (k:Nat) (ey:h.size=(k:Int)) (hz:k≤1048576) (X:List UInt8) (hX:(K.S.bs.drop a).take k=X) (hl:a+ei k≤K.S.n) (R:bM) (hR:cu 5 9 X=(R,0)) (lh:h.kind=103) (hN:Need w0):
 Calls Tryz.prog 75 #[.pointer (some ⟨K.r,0,none⟩),.agg (aa h)] w fun e w'=>e=.returned (.int .i64 0)∧Left w0 K (a+ei k) {s with cF:=s.cF++R} w':=by
 have ju:Hid (X.length=k):=Qh (by
  obtain⟨t,hs⟩:=hr.src;have:=jo k;have:=hs.len
  rw[←hX,Qg,Qe];omega)
 have tL:=Qh (And.intro hX hl);have L:=Qh hz;have fF:=Qh ey;have sa:¬(1048576:Int)<(k:Int):=by omega
 clear hl hX ey hz;have z:=Qh hR;have Lc:=Qh lh;have lW:=Qh hN;clear hR lh hN;have u:=Qh hr;obtain⟨kn,D⟩:∃kn:Int,(h.kind.toNat:Int)=kn:=⟨_,rfl⟩
 obtain⟨W1,W⟩:∃W1,w.alloc (.cells (aa h) 66)=W1:=⟨_,rfl⟩
 have E:Below w.heap.size w W1:=by rw[←W];exact(Below.refl _ w).alloc (Qk _) _
 have G:ao W1 w.heap.size 66 (aa h):=by rw[←W];exact ao.new w _ _
 have T:=hr.below E;have A:Below w.heap.size w (W1.alloc (.cells #[.string ⟨#[]⟩,.slice none 0 0] 178)):=E.alloc E.size _;have U:=hr.below A;have d:=cg (T.idle ((Kept.refl af _).drew)).map h.kind kn D;have f:=cg (U.idle ((Kept.refl af _).drew)).map h.kind kn D;rw[hw]at d f;simp only[Option.getD_none,Option.isSome_none]at d f;have x2:=T.c2;have k2:=G.cell 2;simp only[aa,Qc,Qa,Qb,D]at k2;have y2:=U.c2;have j2:=(G.alloc (.cells #[.string ⟨#[]⟩,.slice none 0 0] 178)).cell 2;simp only[aa,Qc,Qa,Qb,D]at j2;have V:=Qh E;have y:=Qh G;have Z:=Qh D;clear hr hw D T U G E A
 go_enter Tryz.func75,Tryz.ntmps75
 go_upto_region 1 with fail
 clear W
 go_cut [5,6]from 13 to 22 (fun s5 s6 wx=>s5=.pointer (some ⟨W1.heap.size,0,none⟩)∧s6=.bool false∧wx=(W1.alloc (.cells #[.string ⟨#[]⟩,.slice none 0 0] 178)).drew)
 case first=>
  go_region
  all_goals (go_wp2;go_meet;exact⟨rfl,rfl,rfl⟩)
 case rest=>
  obtain⟨rfl,rfl,rfl⟩:=hcut;clear d f x2 k2 y2 j2;have A:Below w.heap.size w (W1.alloc (.cells #[.string ⟨#[]⟩,.slice none 0 0] 178)).drew:=((V.out.alloc V.out.size _)).drew;have l:Hid (ao (W1.alloc (.cells #[.string ⟨#[]⟩,.slice none 0 0] 178)).drew w.heap.size 66 (aa h)):=Qh ((y.out.alloc _).drew);obtain⟨W2,fM⟩:∃W2,(W1.alloc (.cells #[.string ⟨#[]⟩,.slice none 0 0] 178)).drew=W2:=⟨_,rfl⟩
  rw[fM]at A l⊢;clear fM;have cf:=Qh A;have oQ:=Qh (u.out.below A);clear A V y;have x0:=oQ.out.c0;have o:=l.out.cell 7;simp only[aa,Qc,Qa,Qb,fF.out]at o;have I:=oQ.out.idle ((Kept.refl af W2).drew);obtain⟨t,hs⟩:=I.src
  have cE:w.heap.size≠K.g:=by
   obtain⟨t',ng⟩:=u.out.src;have:=ng.lt;omega
  have xR:=Qh I;have pG:=Qh cE;have hB:=lX W2.drew K.g a t K.S hs I.off k L.out X tL.out.1 tL.out.2;clear hs I cE;go_upto_region 6 with fail
  go_region_held_law (fun w'=>w'.cell? ⟨K.r,0,none⟩=some (.pointer (some ⟨K.g,0,none⟩))∧w'.cell? ⟨w.heap.size,7,none⟩=some (.int .i64 (k:Int))) (first|exact⟨x0,o⟩|exact tI)
   (first
    |(go_at_call 108
      refine hB.mono ?_;rintro e w3 ⟨p,t',rfl,h2,h3,h4,b⟩;have N:=Qh (xR.out.eS b ⟨t',h4⟩);have J:Hid (ao w3 w.heap.size 66 (aa h)):=Qh ((l.out.drew).bG b pG.out);have eI:=Qh (And.intro h2 h3);have tI:w3.cell? ⟨K.r,0,none⟩=some (.pointer (some ⟨K.g,0,none⟩))∧w3.cell? ⟨w.heap.size,7,none⟩=some (.int .i64 (k:Int)):=⟨N.out.c0,by have:=J.out.cell 7;simp only[aa,Qc,Qa,Qb,fF.out]at this;exact this⟩
      clear h2 h3 h4 b))
  clear hB tI x0 o;have k3:=J.out.cell 2;simp only[aa,Qc,Qa,Qb,Z.out]at k3;obtain rfl:kn=103:=by rw[←Z.out,Lc.out];rfl
  go_upto_region 13 with fail
  go_wp2_with fail
  refine(kx p k k X w3 ju.out (Qk _) (by have:=L.out;omega) eI.out.1 (N.out.Gc lW.out)).mono ?_;rintro e w4 ⟨p4,c4,rfl,_,_,M,Y⟩;obtain⟨⟨rs,er⟩,H⟩:∃x,cu 5 9 X=x:=⟨_,rfl⟩
  have hlen:=pr 5 9 X;rw[H]at M hlen;simp only[H];rw[ju.out]at hlen;have qy:Hid (cu 5 9 X=(rs,er)):=Qh H;obtain⟨rl,m⟩:∃rl,rs.length=rl:=⟨_,rfl⟩
  simp only[m]at M⊢;have O:=Qh (N.out.below Y);have zT:Hid (ao w4 w.heap.size 66 (aa h)):=Qh (J.out.below Y J.out.lt);have Ae:=Qh M;have xJ:=Qh hlen;have NZ:=Qh m;clear M hlen Y H m k3;obtain rfl:er=0:=by have:=z.out;rw[qy.out]at this;exact congrArg Prod.snd this
  obtain rfl:rs=R:=by have:=z.out;rw[qy.out]at this;exact congrArg Prod.fst this
  have k4:=zT.out.cell 2;simp only[aa,Qc,Qa,Qb,Z.out]at k4;have x1:=O.out.c1;go_wp2_with fail;refine(show Calls _ _ _ _ (ny _ K.gs mb (aD s.cF) rs)from Bh K.gs mb (aD s.cF) p4 rl _ rs _ O.out.st (by have:=xJ.out.2;rw[NZ.out]at this;have:=L.out;omega) Ae.out).mono ?_;rintro e w5 ⟨rfl,B,p8,gM,tH⟩;have F:=Qh (O.out.Rt p8 gM tH (fun r hr=>by have:=xJ.out.1 r hr;have:=L.out;omega));clear p8 gM tH k4 x1;go_wp2;go_ret;exact⟨rfl,some B,v,xs,q,n,c,F.out⟩
theorem LB (hr:Rd w0 w K a s mb v xs q n c) (h:ak) (hw:bH s q n c h.kind=none) (k:Nat) (ey:h.size=(k:Int)) (hz:k≤1048576) (X:List UInt8) (hX:(K.S.bs.drop a).take k=X) (hl:a+ei k≤K.S.n) (R:bM) (hR:cu 5 9 X=(R,0)) (lh:h.kind=120) (hN:Need w0):
 Calls Tryz.prog 75 #[.pointer (some ⟨K.r,0,none⟩),.agg (aa h)] w fun e w'=>e=.returned (.int .i64 0)∧Left w0 K (a+ei k) {s with dU:=true,own:=R} w':=by
 have ju:Hid (X.length=k):=Qh (by
  obtain⟨t,hs⟩:=hr.src;have:=jo k;have:=hs.len
  rw[←hX,Qg,Qe];omega)
 have tL:=Qh (And.intro hX hl);have L:=Qh hz;have fF:=Qh ey;have sa:¬(1048576:Int)<(k:Int):=by omega
 clear hl hX ey hz;have K6:=Qh hR;have Lc:=Qh lh;have lW:=Qh hN;clear hR lh hN;have HR:=Qh hr;obtain⟨kn,B⟩:∃kn:Int,(h.kind.toNat:Int)=kn:=⟨_,rfl⟩
 obtain⟨W1,Y⟩:∃W1,w.alloc (.cells (aa h) 66)=W1:=⟨_,rfl⟩
 have E:Below w.heap.size w W1:=by rw[←Y];exact(Below.refl _ w).alloc (Qk _) _
 have G:ao W1 w.heap.size 66 (aa h):=by rw[←Y];exact ao.new w _ _
 have T:=hr.below E;have A:Below w.heap.size w (W1.alloc (.cells #[.string ⟨#[]⟩,.slice none 0 0] 178)):=E.alloc E.size _;have U:=hr.below A;have f:=cg (T.idle ((Kept.refl af _).drew)).map h.kind kn B;have l:=cg (U.idle ((Kept.refl af _).drew)).map h.kind kn B;rw[hw]at f l;simp only[Option.getD_none,Option.isSome_none]at f l;have x2:=T.c2;have k2:=G.cell 2;simp only[aa,Qc,Qa,Qb,B]at k2;have y2:=U.c2;have j2:=(G.alloc (.cells #[.string ⟨#[]⟩,.slice none 0 0] 178)).cell 2;simp only[aa,Qc,Qa,Qb,B]at j2;have V:=Qh E;have HX:=Qh G;have b:=Qh B;clear hr hw B T U G E A
 go_enter Tryz.func75,Tryz.ntmps75
 go_upto_region 1 with fail
 clear Y
 go_cut [5,6]from 13 to 22 (fun s5 s6 wx=>s5=.pointer (some ⟨W1.heap.size,0,none⟩)∧s6=.bool false∧wx=(W1.alloc (.cells #[.string ⟨#[]⟩,.slice none 0 0] 178)).drew)
 case first=>
  go_region
  all_goals (go_wp2;go_meet;exact⟨rfl,rfl,rfl⟩)
 case rest=>
  obtain⟨rfl,rfl,rfl⟩:=hcut;clear f l x2 k2 y2 j2;have A:Below w.heap.size w (W1.alloc (.cells #[.string ⟨#[]⟩,.slice none 0 0] 178)).drew:=((V.out.alloc V.out.size _)).drew;have m:Hid (ao (W1.alloc (.cells #[.string ⟨#[]⟩,.slice none 0 0] 178)).drew w.heap.size 66 (aa h)):=Qh ((HX.out.alloc _).drew);obtain⟨W2,fM⟩:∃W2,(W1.alloc (.cells #[.string ⟨#[]⟩,.slice none 0 0] 178)).drew=W2:=⟨_,rfl⟩
  rw[fM]at A m⊢;clear fM;have cf:=Qh A;have oQ:=Qh (HR.out.below A);clear A V HX;have x0:=oQ.out.c0;have y:=m.out.cell 7;simp only[aa,Qc,Qa,Qb,fF.out]at y;have I:=oQ.out.idle ((Kept.refl af W2).drew);obtain⟨t,hs⟩:=I.src
  have cE:w.heap.size≠K.g:=by
   obtain⟨t',ng⟩:=HR.out.src;have:=ng.lt;omega
  have xR:=Qh I;have pG:=Qh cE;have hB:=lX W2.drew K.g a t K.S hs I.off k L.out X tL.out.1 tL.out.2;clear hs I cE;go_upto_region 6 with fail
  go_region_held_law (fun w'=>w'.cell? ⟨K.r,0,none⟩=some (.pointer (some ⟨K.g,0,none⟩))∧w'.cell? ⟨w.heap.size,7,none⟩=some (.int .i64 (k:Int))) (first|exact⟨x0,y⟩|exact tI)
   (first
    |(go_at_call 108
      refine hB.mono ?_;rintro e w3 ⟨p,t',rfl,h2,h3,h4,d⟩;have O:=Qh (xR.out.eS d ⟨t',h4⟩);have J:Hid (ao w3 w.heap.size 66 (aa h)):=Qh ((m.out.drew).bG d pG.out);have eI:=Qh (And.intro h2 h3);have tI:w3.cell? ⟨K.r,0,none⟩=some (.pointer (some ⟨K.g,0,none⟩))∧w3.cell? ⟨w.heap.size,7,none⟩=some (.int .i64 (k:Int)):=⟨O.out.c0,by have:=J.out.cell 7;simp only[aa,Qc,Qa,Qb,fF.out]at this;exact this⟩
      clear h2 h3 h4 d))
  clear hB tI x0 y;have k3:=J.out.cell 2;simp only[aa,Qc,Qa,Qb,b.out]at k3;obtain rfl:kn=120:=by rw[←b.out,Lc.out];rfl
  go_upto_region 13 with fail
  go_wp2_with fail
  refine(kx p k k X w3 ju.out (Qk _) (by have:=L.out;omega) eI.out.1 (O.out.Gc lW.out)).mono ?_;rintro e M ⟨o,W,rfl,_,_,N,Z⟩;obtain⟨⟨rs,er⟩,H⟩:∃x,cu 5 9 X=x:=⟨_,rfl⟩
  have hlen:=pr 5 9 X;rw[H]at N hlen;simp only[H];rw[ju.out]at hlen;have qy:Hid (cu 5 9 X=(rs,er)):=Qh H;obtain⟨rl,u⟩:∃rl,rs.length=rl:=⟨_,rfl⟩
  simp only[u]at N⊢;have D:=Qh (O.out.below Z);have zT:Hid (ao M w.heap.size 66 (aa h)):=Qh (J.out.below Z J.out.lt);have Ae:=Qh N;have xJ:=Qh hlen;have NZ:=Qh u;clear N hlen Z H u k3;obtain rfl:er=0:=by have:=K6.out;rw[qy.out]at this;exact congrArg Prod.snd this
  obtain rfl:rs=R:=by have:=K6.out;rw[qy.out]at this;exact congrArg Prod.fst this
  have k4:=zT.out.cell 2;simp only[aa,Qc,Qa,Qb,b.out]at k4;go_upto_region 19 with fail;have x4:=D.out.c2
  go_still_tail 8,(by kernel_rfl)
  refine cD (K:=KY) rfl (.tmp 84) (.tmp 86) (.tmp 88) rfl Tryz.underlying89 Tryz.underlying5 K.mw (D.out.idle ((Kept.refl af M).drew)).map rfl 120 rfl (.agg #[.string ⟨#[]⟩,.slice o rl W]) rfl ?_;intro w5 uR gM p8;have z:=Qh (And.intro uR (And.intro gM p8));clear uR gM p8;go_wp2;go_ret;exact⟨rfl,mb,v,xs,o,rl,W,(D.out.idle ((Kept.refl af M).drew)).waits z.out.2.1.out (by rw[←MA s q o n c rl W rs];exact z.out.1.out) (cM Ae.out ((Kept.refl af M).drew) (fun _ _ _=>id)) rfl rfl (fun h=>by cases h) ⟨fun r hr=>by have:=xJ.out.1 r hr;have:=L.out;omega,by show rs.length≤1048576;have:=xJ.out.2;have:=L.out;omega⟩ D.out.nl D.out.ll⟩
end
section
variable {w0 w w':World} {K:RK} {a:Nat} {s:RS} {mb:Option Nat} {v:Value} {xs:List MP} {q:Option Addr} {n c:Nat}
def cX (w0:World) (K:RK) (a:Nat) (st:Step) (e:Ending) (w':World):Prop:=
 match st with
 |.fault er=>e=.returned (.int .i64 er)∧Below w0.heap.size w0 w'
 |.done=>False
 |.next k s'=>e=.returned (.int .i64 0)∧Left w0 K (a+k) s' w'
theorem vO (s:RS) (q:Option Addr) (n c:Nat) (k:UInt8):(bH s q n c k).isSome=true↔(k=120∧s.dU=true)∨(k=76∧s.name.isSome=true)∨(k=75∧s.link.isSome=true):=by
 unfold bH
 by_cases h1:k=120
 ·subst h1
  cases s.dU<;>simp
 ·by_cases A:k=76
  ·subst A
   cases s.name<;>simp
  ·by_cases B:k=75
   ·subst B
    cases s.link<;>simp
   ·simp[h1,A,B]
theorem qW (hr:Rd w0 w K (a+512) s mb v xs q n c) (h:ak) (h0:0≤h.size) (hk:nX h.kind=true) (hN:Need w0):
 Calls Tryz.prog 75 #[.pointer (some ⟨K.r,0,none⟩),.agg (aa h)] w (cX w0 K a (iC (K.S.bs.drop a) h s)):=by
 obtain⟨t,hs⟩:=hr.src;have hlen:=hs.len;have hle:=hs.le;have O:(K.S.bs.drop a).length=K.S.n - a:=by rw[Qe,hlen]
 unfold iC
 by_cases h1:(h.kind=120∧s.dU=true)∨(h.kind=76∧s.name.isSome=true)∨(h.kind=75∧s.link.isSome=true)
 ·rw[if_pos h1]
  refine(Fs hr h ((vO s q n c h.kind).2 h1)).mono ?_;rintro e w' ⟨rfl,A⟩;exact⟨rfl,hr.bel.trans (A.mono hr.bel.size)⟩
 ·rw[if_neg h1]
  have hw:bH s q n c h.kind=none:=by
   cases T:bH s q n c h.kind with
   |none=>rfl
   |some y=>exact absurd ((vO s q n c h.kind).1 (by rw[T];rfl)) h1
  by_cases M:1048576<h.size
  ·rw[if_pos M]
   refine(Fo hr h hw M).mono ?_;rintro e w' ⟨rfl,A⟩;exact⟨rfl,hr.bel.trans (A.mono hr.bel.size)⟩
  ·rw[if_neg M]
   obtain⟨k,B⟩:∃k:Nat,h.size=(k:Int):=⟨h.size.toNat,by omega⟩
   have E:k≤1048576:=by omega
   have L:aP k=ei k:=rfl;unfold pN;rw[B,Int.toNat_natCast,O]
   by_cases R:K.S.n<a+512+ei k
   ·rw[if_pos (by rw[L];omega)]
    refine(Fq hr h hw k B E R).mono ?_;rintro e w' ⟨rfl,A⟩;exact⟨rfl,A⟩
   ·rw[if_neg (by rw[L];omega)]
    simp only;obtain⟨X,D⟩:∃X,(K.S.bs.drop (a+512)).take k=X:=⟨_,rfl⟩
    rw[List.drop_drop,D,L];have hl:a+512+ei k≤K.S.n:=by omega
    by_cases G:h.kind=76
    ·rw[if_pos G]
     refine(IJ hr h hw k B E X D hl G).mono ?_;rintro e w' ⟨rfl,A⟩;rw[Nat.add_assoc]at A;exact⟨rfl,A⟩
    ·rw[if_neg G]
     by_cases H:h.kind=75
     ·rw[if_pos H]
      refine(II hr h hw k B E X D hl H).mono ?_;rintro e w' ⟨rfl,A⟩;rw[Nat.add_assoc]at A;exact⟨rfl,A⟩
     ·rw[if_neg H]
      by_cases I:(cu 5 9 X).2≠0
      ·rw[if_pos I]
       refine(A7 hr h hw k B E X D hl _ rfl I ⟨fun e=>G ((jF h.kind 76 (by decide)).1 e),fun e=>H ((jF h.kind 75 (by decide)).1 e)⟩ hN).mono ?_;rintro e w' ⟨rfl,A⟩;exact⟨rfl,A⟩
      ·rw[if_neg I]
       have N:cu 5 9 X=((cu 5 9 X).1,0):=Prod.ext rfl (Classical.byContradiction I)
       by_cases J:h.kind=103
       ·rw[if_pos J]
        refine(IH hr h hw k B E X D hl _ N J hN).mono ?_;rintro e w' ⟨rfl,A⟩;rw[Nat.add_assoc]at A;exact⟨rfl,A⟩
       ·rw[if_neg J]
        have U:h.kind=120:=by
         unfold nX at hk
         simpa [G,H,J]using hk
        refine(LB hr h hw k B E X D hl _ N U hN).mono ?_;rintro e w' ⟨rfl,A⟩;rw[Nat.add_assoc]at A;exact⟨rfl,A⟩
end
end Mem
namespace Mem
open Mk Block Attr Path Go.Shelf
variable {c' n':Nat} {q':Option Addr}
section
variable {w0 w w':World} {K:RK} {a:Nat} {s:RS} {mb:Option Nat} {v:Value} {xs:List MP} {q:Option Addr} {n c:Nat}
def xm (s:RS) (q:Option Addr) (n c:Nat):Option Addr × Nat × Nat:=if s.dU=true then(q,n,c)else(none,0,0)
theorem rb (h:ct KY w K.mw (bH s q n c)) (ho:xm s q n c=(q',n',c')):
 (Instr.lookup 89 (.map (some K.mw)) (.int .u8 120) false).run Tryz.prog w=.ok (.agg #[.string ⟨#[]⟩,.slice q' n' c']) w:=by
 have:=h.look Tryz.underlying89 Tryz.underlying5 Dk 120;have e:bH s q n c 120=if s.dU=true then some (.agg #[.string ⟨#[]⟩,.slice q n c])else none:=by unfold bH;rw[if_pos rfl]
 rw[e]at this;unfold xm at ho
 cases A:s.dU with
 |true=>
  rw[A,if_pos rfl]at ho this
  cases ho
  exact this
 |false=>
  rw[A,if_neg (by decide)]at ho this
  cases ho
  exact this
theorem Rd.S5 (h:Rd w0 w K a s mb v xs q n c) (ho:xm s q n c=(q',n',c')):bN w q' n' s.own∧n'≤1048576:=by
 unfold xm at ho
 cases A:s.dU with
 |true=>
  rw[A,if_pos rfl]at ho
  cases ho
  refine⟨h.own,?_⟩;have h1:=h.own.1;have B:=h.ol.2;omega
 |false=>
  rw[A,if_neg (by decide)]at ho
  cases ho
  rw[h.oz A];exact⟨⟨rfl,fun h=>absurd h (by omega)⟩,by omega⟩
theorem Fm (w:World) (x:ByteArray) (p:Option Addr) (m d:Nat):(Instr.field 178 (.agg #[.string x,.slice p m d]) 1).run Tryz.prog w=.ok (.slice p m d) w:=by
 kernel_rfl
theorem D3 (h:ak) (hr:Rd w0 w K a s mb v xs q n c) (h1:h.name.length≤1048576) (h2:h.link.length≤1048576):(dN h s).name.length≤1048576∧(dN h s).link.length≤1048576:=by
 unfold dN;constructor
 ·show(s.name.getD h.name).length≤_
  cases A:s.name with
  |none=>exact h1
  |some t=>exact hr.nl t A
 ·show(s.link.getD h.link).length≤_
  cases A:s.link with
  |none=>exact h2
  |some t=>exact hr.ll t A
theorem nH (h:ak) (hr:Rd w0 w K a s mb v xs q n c) (h0:0≤h.size) (h1:h.name.length≤1048576) (h2:h.link.length≤1048576):
 0≤(ch (aD s.cF) s.own (dN h s)).1.size∧(ch (aD s.cF) s.own (dN h s)).1.name.length≤1048576∧(ch (aD s.cF) s.own (dN h s)).1.link.length≤1048576:=
 EX 1048576 (fun i _=>yy hr.gl hr.ol.1 _) h0 (D3 h hr h1 h2).1 (D3 h hr h1 h2).2
theorem nI (h:ak) (hr:Rd w0 w K a s mb v xs q n c) (ho:xm s q n c=(q',n',c')) (H:ak):
 Calls Tryz.prog 112 #[.pointer (some ⟨K.gs,0,none⟩),.agg (aa H),.slice q' n' c'] w fun e w'=>e=.returned (jQ (ch (aD s.cF) s.own H))∧Below w.heap.size w w':=by
 obtain⟨h1,A⟩:=hr.S5 ho;exact EY _ _ _ _ _ _ _ _ hr.st.ptr (by omega) h1 (fun i _=>Nat.le_trans (yy hr.gl hr.ol.1 _) (by decide))
theorem Bf {h:ak} (h0:(cZ h).2=0):h.size≤1048576:=by
 unfold cZ at h0;split at h0
 ·rename_i h1;exact absurd h0 h1
 ·split at h0
  ·exact absurd h0 (by decide)
  ·split at h0
   ·rename_i h1;exact absurd h0 h1
   ·split at h0
    ·rename_i h1;exact absurd h0 h1
    ·rename_i h1
     unfold oI at h1;split at h1
     ·exact absurd (by decide) h1
     ·split at h1
      ·exact absurd (by decide) h1
      ·omega
end
end Mem
namespace Mem
open Go.Shelf Mk Attr Go.Proofs.YtdhibldkldlfpaaGreatDoor.Mp
variable {bx:Nat} {h ah:ak}
theorem Md (w:World) (g:Nat) (h:ak) (hb:ao w g 66 (aa h)):(Instr.loadAt 66 (.pointer (some ⟨g,0,none⟩))).run Tryz.prog w=.ok (.agg (aa h)) w:=by
 have c0:=hb.cell;unfold aa at c0⊢
 go_simp
theorem CY {o:Oper} {a:Act} {K:Act→World→Prop} {Q:Exit→Act→World→Prop} (p x:Operand) (ho:o.op=.store 66 p x) (g:Nat) (hp:a.eval p=.pointer (some ⟨g,0,none⟩)) (h z:ak) (hx:a.eval x=.agg (aa h)) (hz:ao w g 66 (aa z))
 (hK:∀w',ao w' g 66 (aa h)→Kept (aw g) w w'→K (a.put o.dst undef) w'):Oper.wp Tryz.prog o a w K Q:=by
 have A:=oU hz;have f0:=hz.frozen;have c0:=hz.cell;unfold aa at c0
 have D:Kept (aw g) w (((((((((w.setCell ⟨g,0,none⟩ (.string (str h.name))).setCell ⟨g,1,none⟩ (.string (str h.link))).setCell ⟨g,2,none⟩ (.int .u8 (h.kind.toNat:Int))).setCell ⟨g,3,none⟩ (.int .i64 h.mode)).setCell ⟨g,4,none⟩ (.int .i64 h.uid)).setCell ⟨g,5,none⟩ (.int .i64 h.gid)).setCell ⟨g,6,none⟩ (.int .i64 h.time)).setCell ⟨g,7,none⟩ (.int .i64 h.size)).setCell ⟨g,8,none⟩ (.bool h.eG)):=
  (((((((((Kept.refl (aw g) w).setCell (a:=⟨g,0,none⟩) (.inr rfl) _).setCell (a:=⟨g,1,none⟩) (.inr rfl) _).setCell (a:=⟨g,2,none⟩) (.inr rfl) _).setCell (a:=⟨g,3,none⟩) (.inr rfl) _).setCell (a:=⟨g,4,none⟩) (.inr rfl) _).setCell (a:=⟨g,5,none⟩) (.inr rfl) _).setCell (a:=⟨g,6,none⟩) (.inr rfl) _).setCell (a:=⟨g,7,none⟩) (.inr rfl) _).setCell (a:=⟨g,8,none⟩) (.inr rfl) _
 clear hz
 have B:(execOp a.eval o).run Tryz.prog w=.ok .skip (((((((((w.setCell ⟨g,0,none⟩ (.string (str h.name))).setCell ⟨g,1,none⟩ (.string (str h.link))).setCell ⟨g,2,none⟩ (.int .u8 (h.kind.toNat:Int))).setCell ⟨g,3,none⟩ (.int .i64 h.mode)).setCell ⟨g,4,none⟩ (.int .i64 h.uid)).setCell ⟨g,5,none⟩ (.int .i64 h.gid)).setCell ⟨g,6,none⟩ (.int .i64 h.time)).setCell ⟨g,7,none⟩ (.int .i64 h.size)).setCell ⟨g,8,none⟩ (.bool h.eG)):=by
  unfold aa at hx;generalize a.eval=ev at hp hx;simp[go_sem,execOp,ho,hp,hx,c0,f0,Result.andThen]
 unfold Oper.wp;rw[B,Oper.upon_skip];exact hK _ (A _ _ _ _ _ _ _ _ _) D
noncomputable def aH:Array Oper:=tf Tryz.f76 5
def kH (r gs mw bx:Nat) (h h':ak) (oq:Option Addr) (on oc:Nat) (ah:ak) (ae:Int):Nat→Value
 |0=>.pointer (some ⟨r,0,none⟩)|1=>.pointer (some ⟨r,0,none⟩)|2=>.pointer (some ⟨r,1,none⟩)|3=>.pointer (some ⟨gs,0,none⟩)|4=>.pointer (some ⟨r,0,none⟩)|5=>.agg (aa h)|6=>.agg (aa h')|7=>.pointer (some ⟨r,0,none⟩)|8=>.pointer (some ⟨r,0,none⟩)|9=>.pointer (some ⟨r,2,none⟩)|10=>.map (some mw)|11=>.agg #[.string ⟨#[]⟩,.slice oq on oc]|12=>.slice oq on oc|13=>.tuple #[.agg (aa ah),.int .i64 ae]|14=>.tuple #[.agg (aa ah),.int .i64 ae]|15=>.agg (aa ah)|16=>.int .i64 ae|18=>.int .i64 ae|_=>undef
theorem oS:aH.size=19:=rfl
theorem rA:mS aH 73=true:=by kernel_rfl
theorem Ew:bU aH 0=some 18:=rfl
theorem Ie:∃o,aH[0]? =some o∧o.op=.move (.tmp 0)∧o.dst=some 18:=⟨_,rfl,rfl,rfl⟩
theorem Ex:bU aH 1=some 19:=rfl
theorem Ig:∃o,aH[1]? =some o∧o.op=.nilCheck (.tmp 18)∧o.dst=some 19:=⟨_,rfl,rfl,rfl⟩
theorem Ey:bU aH 2=some 20:=rfl
theorem Ih:∃o,aH[2]? =some o∧o.op=.fieldAddr 91 (.tmp 19) 1∧o.dst=some 20:=⟨_,rfl,rfl,rfl⟩
theorem Ez:bU aH 3=some 21:=rfl
theorem Ii:∃o,aH[3]? =some o∧o.op=.load 88 (.tmp 20)∧o.dst=some 21:=⟨_,rfl,rfl,rfl⟩
theorem EA:bU aH 4=some 22:=rfl
theorem Ij:∃o,aH[4]? =some o∧o.op=.move (.tmp 0)∧o.dst=some 22:=⟨_,rfl,rfl,rfl⟩
theorem EB:bU aH 5=some 23:=rfl
theorem Ik:∃o,aH[5]? =some o∧o.op=.load 66 (.tmp 3)∧o.dst=some 23:=⟨_,rfl,rfl,rfl⟩
theorem EC:bU aH 6=some 24:=rfl
theorem Il:∃o,aH[6]? =some o∧o.op=.call {callee:=.value (.func 113),args:=#[.tmp 22,.tmp 23],argTypes:=#[84,66]}∧o.dst=some 24:=⟨_,rfl,rfl,rfl⟩
theorem ED:bU aH 7=some 25:=rfl
theorem Im:∃o,aH[7]? =some o∧o.op=.move (.tmp 0)∧o.dst=some 25:=⟨_,rfl,rfl,rfl⟩
theorem EF:bU aH 8=some 26:=rfl
theorem Io:∃o,aH[8]? =some o∧o.op=.nilCheck (.tmp 25)∧o.dst=some 26:=⟨_,rfl,rfl,rfl⟩
theorem EG:bU aH 9=some 27:=rfl
theorem Ip:∃o,aH[9]? =some o∧o.op=.fieldAddr 91 (.tmp 26) 2∧o.dst=some 27:=⟨_,rfl,rfl,rfl⟩
theorem Au:bU aH 10=some 28:=rfl
theorem EH:∃o,aH[10]? =some o∧o.op=.load 89 (.tmp 27)∧o.dst=some 28:=⟨_,rfl,rfl,rfl⟩
theorem Av:bU aH 11=some 29:=rfl
theorem EI:∃o,aH[11]? =some o∧o.op=.lookup 89 (.tmp 28) (.const (.int .u8 120)) false∧o.dst=some 29:=⟨_,rfl,rfl,rfl⟩
theorem Aw:bU aH 12=some 30:=rfl
theorem EJ:∃o,aH[12]? =some o∧o.op=.field 178 (.tmp 29) 1∧o.dst=some 30:=⟨_,rfl,rfl,rfl⟩
theorem Ax:bU aH 13=some 31:=rfl
theorem EK:∃o,aH[13]? =some o∧o.op=.call {callee:=.value (.func 112),args:=#[.tmp 21,.tmp 24,.tmp 30],argTypes:=#[88,66,64]}∧o.dst=some 31:=⟨_,rfl,rfl,rfl⟩
theorem Ay:bU aH 14=some 17:=rfl
theorem EL:∃o,aH[14]? =some o∧o.op=.move (.tmp 31)∧o.dst=some 17:=⟨_,rfl,rfl,rfl⟩
theorem Az:bU aH 15=some 32:=rfl
theorem EN:∃o,aH[15]? =some o∧o.op=.extract (.tmp 17) 0∧o.dst=some 32:=⟨_,rfl,rfl,rfl⟩
theorem AA:bU aH 16=some 33:=rfl
theorem EO:∃o,aH[16]? =some o∧o.op=.extract (.tmp 17) 1∧o.dst=some 33:=⟨_,rfl,rfl,rfl⟩
theorem AB:bU aH 17=none:=rfl
theorem ER:∃o,aH[17]? =some o∧o.op=.store 66 (.tmp 3) (.tmp 32)∧o.dst=none:=⟨_,rfl,rfl,rfl⟩
theorem AD:bU aH 18=some 5:=rfl
theorem ET:∃o,aH[18]? =some o∧o.op=.assign (.tmp 33)∧o.dst=some 5:=⟨_,rfl,rfl,rfl⟩
structure W5 (w:World) (bx:Nat) (h ah:ak) (listed:Array Bool) (w':World):Prop where
 bel:Below w.heap.size w w'
 bf:listed.getD 17 false=false→ao w' bx 66 (aa h)
 TG:listed.getD 17 false=true→ao w' bx 66 (aa ah)∧∀j,j<16→listed.getD j false=true
theorem W5.cw (hW:W5 w bx h ah listed w') (ay:j<listed.size) (hj:j≠17):W5 w bx h ah (listed.setIfInBounds j true) w':=by
 have e:(listed.setIfInBounds j true).getD 17 false=listed.getD 17 false:=by rw[ag ay,if_neg (Ne.symm hj)]
 refine⟨hW.bel,fun A=>hW.bf (by rw[←e];exact A),fun A=>⟨(hW.TG (by rw[←e];exact A)).1,fun i hi=>?_⟩⟩;rw[ag ay];split
 ·rfl
 ·exact(hW.TG (by rw[←e];exact A)).2 i hi
theorem W5.not (hW:W5 w bx h ah listed w') (hj:j<16) (pZ:listed.getD j false=false):listed.getD 17 false=false:=by
 cases A:listed.getD 17 false with
 |false=>rfl
 |true=>rw[(hW.TG A).2 j hj]at pZ;cases pZ
theorem W5.call {w2:World} (hW:W5 w bx h ah listed w') (ay:j<listed.size) (hj:j<16) (pZ:listed.getD j false=false) (hb:Below w'.heap.size w' w2):W5 w bx h ah (listed.setIfInBounds j true) w2:=by
 have A:=hW.not hj pZ;have e:(listed.setIfInBounds j true).getD 17 false=false:=by rw[ag ay,if_neg (by omega)];exact A
 refine⟨hW.bel.trans (hb.mono hW.bel.size),fun _=>(hW.bf A).below hb (hW.bf A).lt,fun B=>?_⟩;rw[e]at B
 cases B
theorem jc {Q':Exit→Act→World→Prop} {a0:Act} (r gs mw bx:Nat) (h h':ak) (oq:Option Addr) (on oc:Nat) (ah:ak) (ae:Int)
 (hsz:73≤a0.tmps.size) (h0:a0.eval (.tmp 0)=.pointer (some ⟨r,0,none⟩)) (h3:a0.eval (.tmp 3)=.pointer (some ⟨bx,0,none⟩)) (hbx:w.heap.size≤bx) (b7:Below w.heap.size w w1) (VQ:ao w1 bx 66 (aa h))
 (hS:∀wi,Below w.heap.size w wi→(wi.cell? ⟨r,1,none⟩=some (.pointer (some ⟨gs,0,none⟩))∧wi.cell? ⟨r,2,none⟩=some (.map (some mw)))∧(Instr.lookup 89 (.map (some mw)) (.int .u8 120) false).run Tryz.prog wi=.ok (.agg #[.string ⟨#[]⟩,.slice oq on oc]) wi)
 (WE:∀wi,Below w.heap.size w wi→Calls Tryz.prog 113 #[.pointer (some ⟨r,0,none⟩),.agg (aa h)] wi fun e w'=>e=.returned (.agg (aa h'))∧Below wi.heap.size wi w')
 (VL:∀wi,Below w.heap.size w wi→Calls Tryz.prog 112 #[.pointer (some ⟨gs,0,none⟩),.agg (aa h'),.slice oq on oc] wi fun e w'=>e=.returned (.tuple #[.agg (aa ah),.int .i64 ae])∧Below wi.heap.size wi w')
 (hQ:∀w',Below w.heap.size w w'→ao w' bx 66 (aa ah)→Q' .normal ((((((((((((((((((a0.put (some 18) (.pointer (some ⟨r,0,none⟩))).put (some 19) (.pointer (some ⟨r,0,none⟩))).put (some 20) (.pointer (some ⟨r,1,none⟩))).put (some 21) (.pointer (some ⟨gs,0,none⟩))).put (some 22) (.pointer (some ⟨r,0,none⟩))).put (some 23) (.agg (aa h))).put (some 24) (.agg (aa h'))).put (some 25) (.pointer (some ⟨r,0,none⟩))).put (some 26) (.pointer (some ⟨r,0,none⟩))).put (some 27) (.pointer (some ⟨r,2,none⟩))).put (some 28) (.map (some mw))).put (some 29) (.agg #[.string ⟨#[]⟩,.slice oq on oc])).put (some 30) (.slice oq on oc)).put (some 31) (.tuple #[.agg (aa ah),.int .i64 ae])).put (some 17) (.tuple #[.agg (aa ah),.int .i64 ae])).put (some 32) (.agg (aa ah))).put (some 33) (.int .i64 ae)).put (some 5) (.int .i64 ae)) w'):
 wpAny Tryz.prog .any aH Q' aH.size (Array.replicate aH.size false) a0 w1.drew:=by
 have no:∀j,(Array.replicate aH.size false).getD j false=false:=fun j=>by
  rw[Array.getD_eq_getD_getElem?,Array.getElem?_replicate];split<;>rfl
 refine qw (Γ:=Unit) (fun _=>kH r gs mw bx h h' oq on oc ah ae) () a0 (fun _ listed w'=>W5 w bx h ah listed w') 73 rA hsz ?_ ?_ ?_
 ·intro γ listed a w' j o G I W L
  have J:=bj W;have E:=G.wd
  have R:j<19:=by
   have:=(Array.getElem?_eq_some_iff.1 I).1
   rwa [oS]at this
  have same:∀{j':Nat} {H:Oper},aH[j']? =some H→j=j'→H=o:=fun {j' H} h' e=>by subst e;exact Option.some.inj (h'.symm.trans I)
  have U:=eQ W;have b:∀i,listed.getD i false=true→i≠j:=fun i hi e=>by rw[e,U]at hi;cases hi
  rcases(show j=0∨j=1∨j=2∨j=3∨j=4∨j=5∨j=6∨j=7∨j=8∨j=9∨j=10∨j=11∨j=12∨j=13∨j=14∨j=15∨j=16∨j=17∨j=18 by omega)with rfl|rfl|rfl|rfl|rfl|rfl|rfl|rfl|rfl|rfl|rfl|rfl|rfl|rfl|rfl|rfl|rfl|rfl|rfl
  ·obtain⟨H,B,D,M⟩:=Ie
   obtain rfl:=same B rfl;have A:a.eval (.tmp 0)=.pointer (some ⟨r,0,none⟩):=(G.old (t:=0) (by kernel_rfl)).trans h0;exact wp_move _ _ (Or.inl D) A ⟨γ,fun _ _=>rfl,rfl,E.cw J (by decide)⟩
  ·obtain⟨H,B,D,M⟩:=Ig
   obtain rfl:=same B rfl;have A:a.eval (.tmp 18)=.pointer (some ⟨r,0,none⟩):=(G.get I L (i:=0) (d:=18) (by kernel_rfl) rfl)
   refine dr _ ?_ ⟨γ,fun _ _=>rfl,rfl,E.cw J (by decide)⟩;generalize a.eval=ev at A⊢;simp[go_sem,execOp,D,A,kH]
  ·obtain⟨H,B,D,M⟩:=Ih
   obtain rfl:=same B rfl;have A:a.eval (.tmp 19)=.pointer (some ⟨r,0,none⟩):=(G.get I L (i:=1) (d:=19) (by kernel_rfl) rfl)
   refine dr _ ?_ ⟨γ,fun _ _=>rfl,rfl,E.cw J (by decide)⟩;generalize a.eval=ev at A⊢;simp[go_sem,execOp,D,A,kH]
  ·obtain⟨H,B,D,M⟩:=Ii
   obtain rfl:=same B rfl;have A:a.eval (.tmp 20)=.pointer (some ⟨r,1,none⟩):=(G.get I L (i:=2) (d:=20) (by kernel_rfl) rfl)
   have q:=(hS w' E.bel).1.1;refine dr _ ?_ ⟨γ,fun _ _=>rfl,rfl,E.cw J (by decide)⟩;generalize a.eval=ev at A⊢;simp[go_sem,execOp,D,A,q,kH]
  ·obtain⟨H,B,D,M⟩:=Ij
   obtain rfl:=same B rfl;have A:a.eval (.tmp 0)=.pointer (some ⟨r,0,none⟩):=(G.old (t:=0) (by kernel_rfl)).trans h0;exact wp_move _ _ (Or.inl D) A ⟨γ,fun _ _=>rfl,rfl,E.cw J (by decide)⟩
  ·obtain⟨H,B,D,M⟩:=Ik
   obtain rfl:=same B rfl;have A:a.eval (.tmp 3)=.pointer (some ⟨bx,0,none⟩):=(G.old (t:=3) (by kernel_rfl)).trans h3;refine dr _ ?_ ⟨γ,fun _ _=>rfl,rfl,E.cw J (by decide)⟩;have q:=Md w' bx h (E.bf (E.not (by omega) U));simp[execOp,D,A,q,Result.andThen,kH]
  ·obtain⟨H,B,D,M⟩:=Il
   obtain rfl:=same B rfl;have A:a.eval (.tmp 22)=.pointer (some ⟨r,0,none⟩):=(G.get I L (i:=4) (d:=22) (by kernel_rfl) rfl)
   have O:a.eval (.tmp 23)=.agg (aa h):=(G.get I L (i:=5) (d:=23) (by kernel_rfl) rfl)
   refine oL _ _ _ D #[.pointer (some ⟨r,0,none⟩),.agg (aa h)] (by simp[A,O]) (enters_of Tryz.func113 (by kernel_rfl) rfl) _ _ (WE w' E.bel) (fun X V=>⟨γ,fun _ _=>rfl,rfl,E.call J (by omega) U V⟩)
  ·obtain⟨H,B,D,M⟩:=Im
   obtain rfl:=same B rfl;have A:a.eval (.tmp 0)=.pointer (some ⟨r,0,none⟩):=(G.old (t:=0) (by kernel_rfl)).trans h0;exact wp_move _ _ (Or.inl D) A ⟨γ,fun _ _=>rfl,rfl,E.cw J (by decide)⟩
  ·obtain⟨H,B,D,M⟩:=Io
   obtain rfl:=same B rfl;have A:a.eval (.tmp 25)=.pointer (some ⟨r,0,none⟩):=(G.get I L (i:=7) (d:=25) (by kernel_rfl) rfl)
   refine dr _ ?_ ⟨γ,fun _ _=>rfl,rfl,E.cw J (by decide)⟩;generalize a.eval=ev at A⊢;simp[go_sem,execOp,D,A,kH]
  ·obtain⟨H,B,D,M⟩:=Ip
   obtain rfl:=same B rfl;have A:a.eval (.tmp 26)=.pointer (some ⟨r,0,none⟩):=(G.get I L (i:=8) (d:=26) (by kernel_rfl) rfl)
   refine dr _ ?_ ⟨γ,fun _ _=>rfl,rfl,E.cw J (by decide)⟩;generalize a.eval=ev at A⊢;simp[go_sem,execOp,D,A,kH]
  ·obtain⟨H,B,D,M⟩:=EH
   obtain rfl:=same B rfl;have A:a.eval (.tmp 27)=.pointer (some ⟨r,2,none⟩):=(G.get I L (i:=9) (d:=27) (by kernel_rfl) rfl)
   have q:=(hS w' E.bel).1.2;refine dr _ ?_ ⟨γ,fun _ _=>rfl,rfl,E.cw J (by decide)⟩;generalize a.eval=ev at A⊢;simp[go_sem,execOp,D,A,q,kH]
  ·obtain⟨H,B,D,M⟩:=EI
   obtain rfl:=same B rfl;have A:a.eval (.tmp 28)=.map (some mw):=(G.get I L (i:=10) (d:=28) (by kernel_rfl) rfl)
   exact mr _ _ _ D _ _ _ A (IG a _) (hS w' E.bel).2 ⟨γ,fun _ _=>rfl,rfl,E.cw J (by decide)⟩
  ·obtain⟨H,B,D,M⟩:=EJ
   obtain rfl:=same B rfl;have A:a.eval (.tmp 29)=.agg #[.string ⟨#[]⟩,.slice oq on oc]:=(G.get I L (i:=11) (d:=29) (by kernel_rfl) rfl)
   refine dr _ ?_ ⟨γ,fun _ _=>rfl,rfl,E.cw J (by decide)⟩;have q:=Fm w' ⟨#[]⟩ oq on oc;simp[execOp,D,A,q,Result.andThen,kH]
  ·obtain⟨H,B,D,M⟩:=EK
   obtain rfl:=same B rfl;have A:a.eval (.tmp 21)=.pointer (some ⟨gs,0,none⟩):=(G.get I L (i:=3) (d:=21) (by kernel_rfl) rfl)
   have O:a.eval (.tmp 24)=.agg (aa h'):=(G.get I L (i:=6) (d:=24) (by kernel_rfl) rfl)
   have Z:a.eval (.tmp 30)=.slice oq on oc:=(G.get I L (i:=12) (d:=30) (by kernel_rfl) rfl)
   refine oL _ _ _ D #[.pointer (some ⟨gs,0,none⟩),.agg (aa h'),.slice oq on oc] (by simp[A,O,Z]) (enters_of Tryz.func112 (by kernel_rfl) rfl) _ _ (VL w' E.bel) (fun X V=>⟨γ,fun _ _=>rfl,rfl,E.call J (by omega) U V⟩)
  ·obtain⟨H,B,D,M⟩:=EL
   obtain rfl:=same B rfl;have A:a.eval (.tmp 31)=.tuple #[.agg (aa ah),.int .i64 ae]:=(G.get I L (i:=13) (d:=31) (by kernel_rfl) rfl)
   exact wp_move _ _ (Or.inl D) A ⟨γ,fun _ _=>rfl,rfl,E.cw J (by decide)⟩
  ·obtain⟨H,B,D,M⟩:=EN
   obtain rfl:=same B rfl;have A:a.eval (.tmp 17)=.tuple #[.agg (aa ah),.int .i64 ae]:=(G.get I L (i:=14) (d:=17) (by kernel_rfl) rfl)
   refine dr _ ?_ ⟨γ,fun _ _=>rfl,rfl,E.cw J (by decide)⟩;generalize a.eval=ev at A⊢;simp[go_sem,execOp,D,A,kH]
  ·obtain⟨H,B,D,M⟩:=EO
   obtain rfl:=same B rfl;have A:a.eval (.tmp 17)=.tuple #[.agg (aa ah),.int .i64 ae]:=(G.get I L (i:=14) (d:=17) (by kernel_rfl) rfl)
   refine dr _ ?_ ⟨γ,fun _ _=>rfl,rfl,E.cw J (by decide)⟩;generalize a.eval=ev at A⊢;simp[go_sem,execOp,D,A,kH]
  ·obtain⟨H,B,D,M⟩:=ER
   obtain rfl:=same B rfl;have A:a.eval (.tmp 3)=.pointer (some ⟨bx,0,none⟩):=(G.old (t:=3) (by kernel_rfl)).trans h3;have O:a.eval (.tmp 32)=.agg (aa ah):=(G.get I L (i:=15) (d:=32) (by kernel_rfl) rfl)
   have all:∀j,j<16→listed.getD j false=true:=fun j R=>by
    rcases(show j=0∨j=1∨j=2∨j=3∨j=4∨j=5∨j=6∨j=7∨j=8∨j=9∨j=10∨j=11∨j=12∨j=13∨j=14∨j=15 by omega)with rfl|rfl|rfl|rfl|rfl|rfl|rfl|rfl|rfl|rfl|rfl|rfl|rfl|rfl|rfl|rfl<;>exact iA I L (by kernel_rfl)
   refine CY _ _ D bx A ah h O (E.bf U) (fun X Y hk=>⟨γ,fun _ _=>rfl,rfl,⟨E.bel.trans (hk.below E.bel.size (fun k hk=>by rw[show k=bx from hk];exact hbx)),fun T=>?_,fun _=>⟨Y,fun j R=>?_⟩⟩⟩)
   ·rw[ag J,if_pos rfl]at T
    cases T
   ·rw[ag J]
    split
    ·rfl
    ·exact all j R
  ·obtain⟨H,B,D,M⟩:=ET
   obtain rfl:=same B rfl;have A:a.eval (.tmp 33)=.int .i64 ae:=(G.get I L (i:=16) (d:=33) (by kernel_rfl) rfl)
   exact wp_move _ _ (Or.inr D) A ⟨γ,fun _ _=>rfl,rfl,E.cw J (by decide)⟩
 ·intro γ listed a w' G N
  have all:∀j,j<19→listed.getD j false=true:=fun j R=>N j (by rw[oS];exact R)
  have E:=G.wd;rw[nP 73 rA hsz G N,oS];simp only[gN,Ew,Ex,Ey,Ez,EA,EB,EC,ED,EF,EG,Au,Av,Aw,Ax,Ay,Az,AA,AB,AD,zt,kH];exact hQ w' E.bel (E.TG (all 17 (by omega))).1
 ·exact⟨b7.drew,fun _=>VQ.drew,fun T=>by rw[no]at T;cases T⟩
end Mem
namespace Mem
open Go.Shelf Mk Block Attr Go.Proofs.YtdhibldkldlfpaaGreatDoor.Mp
variable {xs:List MP} {y:MP} {i r base:Nat} {v:Value}
theorem Pw (w:World) (g:Nat) (y:MP) (hb:ao w g 48 y.cs):(Instr.loadAt 48 (.pointer (some ⟨g,0,none⟩))).run Tryz.prog w=.ok (.agg y.cs) w:=by
 have c0:=hb.cell;unfold MP.cs cI at c0⊢
 go_simp
theorem Ol (w:World) (a b:ByteArray) (k m u i t:Int) (p:Option Addr) (n c:Nat):(Instr.buildSlice 38 1 #[(0,.agg #[.string a,.string b,.int .u8 k,.int .i64 m,.int .i64 u,.int .i64 i,.int .i64 t,.slice p n c])]).run Tryz.prog w=
 .ok (.slice (some ⟨w.heap.size,0,none⟩) 1 1) (w.alloc (.cells #[.string a,.string b,.int .u8 k,.int .i64 m,.int .i64 u,.int .i64 i,.int .i64 t,.slice p n c] 48)):=by kernel_rfl
theorem Lw (w:World) (y:MP):(Instr.buildSlice 38 1 #[(0,.agg y.cs)]).run Tryz.prog w=.ok (.slice (some ⟨w.heap.size,0,none⟩) 1 1) (w.alloc (.cells y.cs 48)):=Ol w _ _ _ _ _ _ _ _ _ _
theorem pF {o:Oper} {b:Act} {Kk:Act→World→Prop} {Q:Exit→Act→World→Prop} (x y:Operand)
 (ho:o.op=.call {callee:=.builtin .append,args:=#[x,y],argTypes:=#[38,38]})
 (base:Nat) (v:Value) (xs:List MP) (hs:b.eval x=v) (ba:w.ownsRow base 48 8 v xs.length (gA xs))
 (g:Nat) (d:Nat) (z:MP) (hx:b.eval y=.slice (some ⟨g,0,none⟩) 1 d) (hb:ao w g 48 z.cs) (lr:xs.length≤1000000) (eR:base≤w.heap.size)
 (h:∀v' w',w'.ownsRow base 48 8 v' (xs++[z]).length (gA (xs++[z]))→w.grownBy w' v.ownBlock→eL w v v'→Kk (b.put o.dst v') w'):Oper.wp Tryz.prog o b w Kk Q:=by
 obtain⟨i0,hi,E,D,B⟩:=info_parts DE
 obtain⟨v',w',J,A,G,H⟩:=qN (P:=Tryz.prog) base 38 o.type 48 i0 _ 8 96 Tryz.underlying38 hi E D B rfl (by decide) v xs.length (gA xs) ba ⟨g,0,none⟩ 1 d z.cs.toList rfl (by
  intro j u I;rw[WideShapes.add_plain,Nat.zero_add,hb.cell,←Array.getElem?_toList]
  exact I) (fun u hu=>Fw [z] u (by simpa [gA]using hu)) (by unfold maxLen;omega) (by omega) eR
 have L:(execOp b.eval o).run Tryz.prog w=.ok (.value v') w':=by simp[execOp,ho,resolve,invoke,builtin,hs,hx,J,Result.andThen]
 unfold Oper.wp;rw[L,Oper.upon_value];rw[←Bc,show xs.length+1=(xs++[z]).length by simp]at A;exact h v' w' A G H
def vP (base:Nat) (v:Value) (xs:List MP) (y:MP) (w1 wB:World) (va:Value):Prop:=
 ∃wA,Below w1.heap.size w1 wA∧wB.ownsRow base 48 8 va (xs++[y]).length (gA (xs++[y]))∧wA.grownBy wB v.ownBlock∧eL wA v va
noncomputable def aR:Array Oper:=tf Tryz.f76 14
structure kS where
 gb:Nat
 va:Value
def fc (r bm:Nat) (v:Value) (y:MP) (γ:kS):Nat→Value
 |0=>.pointer (some ⟨r,0,none⟩)|1=>.pointer (some ⟨r,0,none⟩)|2=>.pointer (some ⟨r,0,none⟩)|3=>.pointer (some ⟨r,3,none⟩)|4=>v|5=>.agg y.cs|6=>.slice (some ⟨γ.gb,0,none⟩) 1 1|7=>γ.va|8=>.pointer (some ⟨r,0,none⟩)|9=>.pointer (some ⟨r,3,none⟩)|_=>undef
theorem mQ:aR.size=11:=rfl
theorem pI:mS aR 73=true:=by kernel_rfl
theorem Ai:bU aR 0=some 59:=rfl
theorem El:∃o,aR[0]? =some o∧o.op=.move (.tmp 0)∧o.dst=some 59:=⟨_,rfl,rfl,rfl⟩
theorem Aj:bU aR 1=some 60:=rfl
theorem Em:∃o,aR[1]? =some o∧o.op=.move (.tmp 0)∧o.dst=some 60:=⟨_,rfl,rfl,rfl⟩
theorem Ak:bU aR 2=some 61:=rfl
theorem En:∃o,aR[2]? =some o∧o.op=.nilCheck (.tmp 60)∧o.dst=some 61:=⟨_,rfl,rfl,rfl⟩
theorem Al:bU aR 3=some 62:=rfl
theorem Eo:∃o,aR[3]? =some o∧o.op=.fieldAddr 91 (.tmp 61) 3∧o.dst=some 62:=⟨_,rfl,rfl,rfl⟩
theorem Am:bU aR 4=some 63:=rfl
theorem Ep:∃o,aR[4]? =some o∧o.op=.load 38 (.tmp 62)∧o.dst=some 63:=⟨_,rfl,rfl,rfl⟩
theorem An:bU aR 5=some 64:=rfl
theorem Er:∃o,aR[5]? =some o∧o.op=.load 48 (.tmp 6)∧o.dst=some 64:=⟨_,rfl,rfl,rfl⟩
theorem Ao:bU aR 6=some 65:=rfl
theorem Es:∃o,aR[6]? =some o∧o.op=.buildSlice 38 1 #[(0,.tmp 64)]∧o.dst=some 65:=⟨_,rfl,rfl,rfl⟩
theorem Ap:bU aR 7=some 66:=rfl
theorem Et:∃o,aR[7]? =some o∧o.op=.call {callee:=.builtin .append,args:=#[.tmp 63,.tmp 65],argTypes:=#[38,38]}∧o.dst=some 66:=⟨_,rfl,rfl,rfl⟩
theorem Aq:bU aR 8=some 67:=rfl
theorem Eu:∃o,aR[8]? =some o∧o.op=.nilCheck (.tmp 59)∧o.dst=some 67:=⟨_,rfl,rfl,rfl⟩
theorem Ar:bU aR 9=some 68:=rfl
theorem Ev:∃o,aR[9]? =some o∧o.op=.fieldAddr 91 (.tmp 67) 3∧o.dst=some 68:=⟨_,rfl,rfl,rfl⟩
theorem xX:bU aR 10=none:=rfl
theorem As:∃o,aR[10]? =some o∧o.op=.store 38 (.tmp 68) (.tmp 66)∧o.dst=none:=⟨_,rfl,rfl,rfl⟩
theorem Ej (r bm:Nat) (v:Value) (y:MP) (γ:kS) (x:Nat) (h:i≠6):fc r bm v y {γ with gb:=x} i=fc r bm v y γ i:=by
 unfold fc;split<;>first|rfl|(exfalso;omega)
theorem Ek (r bm:Nat) (v:Value) (y:MP) (γ:kS) (x:Value) (h:i≠7):fc r bm v y {γ with va:=x} i=fc r bm v y γ i:=by
 unfold fc;split<;>first|rfl|(exfalso;omega)
structure P9 (base r:Nat) (v:Value) (xs:List MP) (y:MP) (w1:World) (γ:kS) (listed:Array Bool) (w':World):Prop where
 pre:listed.getD 7 false=false→Below w1.heap.size w1 w'
 bs:listed.getD 6 false=true→listed.getD 7 false=false→ao w' γ.gb 48 y.cs
 ap:listed.getD 7 false=true→listed.getD 10 false=false→vP base v xs y w1 w' γ.va
 st:listed.getD 10 false=true→∃wB,vP base v xs y w1 wB γ.va∧w'=wB.setCell ⟨r,3,none⟩ γ.va
 c7:listed.getD 7 false=true→listed.getD 4 false=true∧listed.getD 6 false=true
 c6:listed.getD 6 false=true→listed.getD 5 false=true
 Lx:listed.getD 10 false=true→listed.getD 7 false=true
theorem P9.cw {γ:kS} (hW:P9 base r v xs y w1 γ listed w') (ay:j<listed.size) (hj:j≠6∧j≠7∧j≠10):P9 base r v xs y w1 γ (listed.setIfInBounds j true) w':=by
 have D:(listed.setIfInBounds j true).getD 6 false=listed.getD 6 false:=by rw[ag ay,if_neg (by omega)]
 have A:(listed.setIfInBounds j true).getD 7 false=listed.getD 7 false:=by rw[ag ay,if_neg (by omega)]
 have B:(listed.setIfInBounds j true).getD 10 false=listed.getD 10 false:=by rw[ag ay,if_neg (by omega)]
 have up:∀i,listed.getD i false=true→(listed.setIfInBounds j true).getD i false=true:=fun i hi=>by
  rw[ag ay];split
  ·rfl
  ·exact hi
 exact⟨by rw[A];exact hW.pre,by rw[D,A];exact hW.bs,by rw[A,B];exact hW.ap,by rw[B];exact hW.st,fun h=>⟨up _ (hW.c7 (by rw[←A];exact h)).1,up _ (hW.c7 (by rw[←A];exact h)).2⟩,fun h=>up _ (hW.c6 (by rw[←D];exact h)),by rw[A,B];exact hW.Lx⟩
theorem P9.PB {γ:kS} (hW:P9 base r v xs y w1 γ listed w') (hj:j=4∨j=5∨j=6) (pZ:listed.getD j false=false):listed.getD 7 false=false:=by
 cases D:listed.getD 7 false with
 |false=>rfl
 |true=>
  obtain⟨B,A⟩:=hW.c7 D;rcases hj with rfl|rfl|rfl
  ·rw[B]at pZ;cases pZ
  ·rw[hW.c6 A]at pZ;cases pZ
  ·rw[A]at pZ;cases pZ
theorem vX {Q':Exit→Act→World→Prop} {a0:Act} (base r bm:Nat) (v:Value) (xs:List MP) (y:MP) (cs:Array Value)
 (hsz:73≤a0.tmps.size) (h0:a0.eval (.tmp 0)=.pointer (some ⟨r,0,none⟩)) (h6:a0.eval (.tmp 6)=.pointer (some ⟨bm,0,none⟩)) (RX:ao w1 bm 48 y.cs) (Qu:ao w1 r 91 cs) (yB:cs[3]? =some v) (hrv:v.ownBlock≠some r)
 (cO:w1.ownsRow base 48 8 v xs.length (gA xs)) (eR:base≤w1.heap.size) (Jr:xs.length≤1000000)
 (hQ:∀(γ:kS) wB,vP base v xs y w1 wB γ.va→Q' .normal ((((((((((a0.put (some 59) (.pointer (some ⟨r,0,none⟩))).put (some 60) (.pointer (some ⟨r,0,none⟩))).put (some 61) (.pointer (some ⟨r,0,none⟩))).put (some 62) (.pointer (some ⟨r,3,none⟩))).put (some 63) (v)).put (some 64) (.agg y.cs)).put (some 65) (.slice (some ⟨γ.gb,0,none⟩) 1 1)).put (some 66) (γ.va)).put (some 67) (.pointer (some ⟨r,0,none⟩))).put (some 68) (.pointer (some ⟨r,3,none⟩))) (wB.setCell ⟨r,3,none⟩ γ.va)):
 wpAny Tryz.prog .any aR Q' aR.size (Array.replicate aR.size false) a0 w1.drew:=by
 have no:∀j,(Array.replicate aR.size false).getD j false=false:=fun j=>by
  rw[Array.getD_eq_getD_getElem?,Array.getElem?_replicate];split<;>rfl
 refine qw (Γ:=kS) (fc r bm v y) {gb:=0,va:=undef} a0 (fun γ listed w'=>P9 base r v xs y w1 γ listed w') 73 pI hsz ?_ ?_ ?_
 ·intro γ listed a w' j o I J z M
  have E:=bj z;have D:=I.wd
  have u:j<11:=by
   have:=(Array.getElem?_eq_some_iff.1 J).1
   rwa [mQ]at this
  have same:∀{j':Nat} {L:Oper},aR[j']? =some L→j=j'→L=o:=fun {j' L} h' e=>by subst e;exact Option.some.inj (h'.symm.trans J)
  have U:=eQ z;have m:∀i,listed.getD i false=true→i≠j:=fun i hi e=>by rw[e,U]at hi;cases hi
  rcases(show j=0∨j=1∨j=2∨j=3∨j=4∨j=5∨j=6∨j=7∨j=8∨j=9∨j=10 by omega)with rfl|rfl|rfl|rfl|rfl|rfl|rfl|rfl|rfl|rfl|rfl
  ·obtain⟨L,G,H,N⟩:=El
   obtain rfl:=same G rfl;have B:a.eval (.tmp 0)=.pointer (some ⟨r,0,none⟩):=(I.old (t:=0) (by kernel_rfl)).trans h0;exact wp_move _ _ (Or.inl H) B ⟨γ,fun _ _=>rfl,rfl,D.cw E (by decide)⟩
  ·obtain⟨L,G,H,N⟩:=Em
   obtain rfl:=same G rfl;have B:a.eval (.tmp 0)=.pointer (some ⟨r,0,none⟩):=(I.old (t:=0) (by kernel_rfl)).trans h0;exact wp_move _ _ (Or.inl H) B ⟨γ,fun _ _=>rfl,rfl,D.cw E (by decide)⟩
  ·obtain⟨L,G,H,N⟩:=En
   obtain rfl:=same G rfl;have B:a.eval (.tmp 60)=.pointer (some ⟨r,0,none⟩):=(I.get J M (i:=1) (d:=60) (by kernel_rfl) rfl)
   refine dr _ ?_ ⟨γ,fun _ _=>rfl,rfl,D.cw E (by decide)⟩;generalize a.eval=ev at B⊢;simp[go_sem,execOp,H,B,fc]
  ·obtain⟨L,G,H,N⟩:=Eo
   obtain rfl:=same G rfl;have B:a.eval (.tmp 61)=.pointer (some ⟨r,0,none⟩):=(I.get J M (i:=2) (d:=61) (by kernel_rfl) rfl)
   refine dr _ ?_ ⟨γ,fun _ _=>rfl,rfl,D.cw E (by decide)⟩;generalize a.eval=ev at B⊢;simp[go_sem,execOp,H,B,fc]
  ·obtain⟨L,G,H,N⟩:=Ep
   obtain rfl:=same G rfl;have B:a.eval (.tmp 62)=.pointer (some ⟨r,3,none⟩):=(I.get J M (i:=3) (d:=62) (by kernel_rfl) rfl)
   have O:=D.PB (.inl rfl) U;have q:=(Qu.below (D.pre O) Qu.lt).cell 3;rw[yB]at q;refine dr _ ?_ ⟨γ,fun _ _=>rfl,rfl,D.cw E (by decide)⟩;generalize a.eval=ev at B⊢;simp[go_sem,execOp,H,B,q,fc]
  ·obtain⟨L,G,H,N⟩:=Er
   obtain rfl:=same G rfl;have B:a.eval (.tmp 6)=.pointer (some ⟨bm,0,none⟩):=(I.old (t:=6) (by kernel_rfl)).trans h6;have O:=D.PB (.inr (.inl rfl)) U;refine dr _ ?_ ⟨γ,fun _ _=>rfl,rfl,D.cw E (by decide)⟩;have q:=Pw w' bm y (RX.below (D.pre O) RX.lt);simp[execOp,H,B,q,Result.andThen,fc]
  ·obtain⟨L,G,H,N⟩:=Es
   obtain rfl:=same G rfl;have B:a.eval (.tmp 64)=.agg y.cs:=(I.get J M (i:=5) (d:=64) (by kernel_rfl) rfl)
   have O:=D.PB (.inr (.inr rfl)) U;have q:=Lw w' y;have Y:(execOp a.eval L).run Tryz.prog w'=.ok (.value (.slice (some ⟨w'.heap.size,0,none⟩) 1 1)) (w'.alloc (.cells y.cs 48)):=by simp[execOp,H,B,q,Result.andThen]
   unfold Oper.wp;rw[Y,Oper.upon_value];have R:(listed.setIfInBounds 6 true).getD 7 false=listed.getD 7 false:=by rw[ag E,if_neg (by decide)]
   have V:(listed.setIfInBounds 6 true).getD 10 false=listed.getD 10 false:=by rw[ag E,if_neg (by decide)]
   refine⟨{γ with gb:=w'.heap.size},fun i hi=>Ej _ _ _ _ _ _ (m i hi),rfl,⟨fun _=>(D.pre O).alloc (D.pre O).size _,fun _ _=>ao.new w' _ _,fun A=>?_,fun A=>?_,fun A=>?_,fun _=>(by rw[ag E,if_neg (by decide)];exact iA J M (by kernel_rfl)),fun A=>?_⟩⟩
   ·rw[R,O]at A;cases A
   ·rw[V]at A;have:=D.Lx A;rw[O]at this;cases this
   ·rw[R,O]at A;cases A
   ·rw[V]at A;have:=D.Lx A;rw[O]at this;cases this
  ·obtain⟨L,G,H,N⟩:=Et
   obtain rfl:=same G rfl;have B:a.eval (.tmp 63)=v:=(I.get J M (i:=4) (d:=63) (by kernel_rfl) rfl)
   have W:a.eval (.tmp 65)=.slice (some ⟨γ.gb,0,none⟩) 1 1:=(I.get J M (i:=6) (d:=65) (by kernel_rfl) rfl)
   have b:listed.getD 6 false=true:=iA J M (by kernel_rfl);have X:=D.pre U;have Dv:=D.bs b U;have l4:listed.getD 4 false=true:=iA J M (by kernel_rfl)
   have n10:listed.getD 10 false=false:=by
    cases A:listed.getD 10 false with
    |false=>rfl
    |true=>have:=D.Lx A;rw[U]at this;cases this
   have V:(listed.setIfInBounds 7 true).getD 10 false=false:=by rw[ag E,if_neg (by decide)];exact n10
   have R:(listed.setIfInBounds 7 true).getD 7 false=true:=by rw[ag E,if_pos rfl]
   refine pF _ _ H base v xs B (fZ cO X) γ.gb 1 y W Dv Jr (Nat.le_trans eR X.size) (fun v' w2 h1 h2 h3=>⟨{γ with va:=v'},fun i hi=>Ek _ _ _ _ _ _ (m i hi),rfl,⟨fun A=>?_,fun _ A=>?_,fun _ _=>⟨w',X,h1,h2,h3⟩,fun A=>?_,fun _=>⟨?_,?_⟩,fun _=>?_,fun A=>?_⟩⟩)
   ·rw[R]at A;cases A
   ·rw[R]at A;cases A
   ·rw[V]at A;cases A
   ·rw[ag E,if_neg (by decide)];exact l4
   ·rw[ag E,if_neg (by decide)];exact b
   ·rw[ag E,if_neg (by decide)];exact D.c6 b
   ·rw[V]at A;cases A
  ·obtain⟨L,G,H,N⟩:=Eu
   obtain rfl:=same G rfl;have B:a.eval (.tmp 59)=.pointer (some ⟨r,0,none⟩):=(I.get J M (i:=0) (d:=59) (by kernel_rfl) rfl)
   refine dr _ ?_ ⟨γ,fun _ _=>rfl,rfl,D.cw E (by decide)⟩;generalize a.eval=ev at B⊢;simp[go_sem,execOp,H,B,fc]
  ·obtain⟨L,G,H,N⟩:=Ev
   obtain rfl:=same G rfl;have B:a.eval (.tmp 67)=.pointer (some ⟨r,0,none⟩):=(I.get J M (i:=8) (d:=67) (by kernel_rfl) rfl)
   refine dr _ ?_ ⟨γ,fun _ _=>rfl,rfl,D.cw E (by decide)⟩;generalize a.eval=ev at B⊢;simp[go_sem,execOp,H,B,fc]
  ·obtain⟨L,G,H,N⟩:=As
   obtain rfl:=same G rfl;have B:a.eval (.tmp 68)=.pointer (some ⟨r,3,none⟩):=(I.get J M (i:=9) (d:=68) (by kernel_rfl) rfl)
   have W:a.eval (.tmp 66)=γ.va:=(I.get J M (i:=7) (d:=66) (by kernel_rfl) rfl)
   have f:listed.getD 7 false=true:=iA J M (by kernel_rfl);have hA:=D.ap f U;obtain⟨wA,g1,g2,g3,g4⟩:=hA;have g:ao w' r 91 cs:=(g3.block r (Qu.below g1 Qu.lt).lt (fun e=>hrv e.symm)).trans (Qu.below g1 Qu.lt);have c0:=g.cell 3;rw[yB]at c0;have f0:=g.frozen 3
   obtain⟨pv,lv,cv,Z⟩:∃p l c,γ.va=.slice p l c:=by
    rcases g2.2 with⟨h,_⟩|⟨_,_,_,h,_⟩
    ·exact⟨_,_,_,h⟩
    ·exact⟨_,_,_,h⟩
   have Y:(execOp a.eval L).run Tryz.prog w'=.ok .skip (w'.setCell ⟨r,3,none⟩ γ.va):=by
    rw[Z]at W⊢;generalize a.eval=ev at B W⊢;simp[go_sem,execOp,H,B,W,c0,f0,Result.andThen]
   unfold Oper.wp;rw[Y,Oper.upon_skip];have R:(listed.setIfInBounds 10 true).getD 7 false=true:=by rw[ag E,if_neg (by decide)];exact f
   have V:(listed.setIfInBounds 10 true).getD 10 false=true:=by rw[ag E,if_pos rfl]
   refine⟨γ,fun _ _=>rfl,rfl,⟨fun A=>?_,fun _ A=>?_,fun _ A=>?_,fun _=>⟨w',⟨wA,g1,g2,g3,g4⟩,rfl⟩,fun _=>?_,fun A=>?_,fun _=>R⟩⟩
   ·rw[R]at A;cases A
   ·rw[R]at A;cases A
   ·rw[V]at A;cases A
   ·obtain⟨k4,k6⟩:=D.c7 f
    exact⟨by rw[ag E,if_neg (by decide)];exact k4,by rw[ag E,if_neg (by decide)];exact k6⟩
   ·rw[ag E,if_neg (by decide)]at A⊢;exact D.c6 A
 ·intro γ listed a w' I T
  have all:∀j,j<11→listed.getD j false=true:=fun j u=>T j (by rw[mQ];exact u)
  obtain⟨wB,hA,rfl⟩:=I.wd.st (all 10 (by omega));rw[nP 73 pI hsz I T,mQ];simp only[gN,Ai,Aj,Ak,Al,Am,An,Ao,Ap,Aq,Ar,xX,zt,fc];exact hQ γ wB hA
 ·exact⟨fun _=>(Below.refl _ _).drew,fun A=>(by rw[no]at A;cases A),fun A=>(by rw[no]at A;cases A),fun A=>(by rw[no]at A;cases A),fun A=>(by rw[no]at A;cases A),fun A=>(by rw[no]at A;cases A),fun A=>(by rw[no]at A;cases A)⟩
end Mem
namespace Mem
open Mk Block Attr Path Go.Shelf
section
variable {w0 w w':World} {K:RK} {a:Nat} {s:RS} {mb:Option Nat} {v:Value} {xs:List MP} {q:Option Addr} {n c:Nat}
theorem Iq (hr:Rd w0 w K a s mb v xs q n c) (h:ak) (hf:s.out.length=4096):
 Calls Tryz.prog 76 #[.pointer (some ⟨K.r,0,none⟩),.agg (aa h)] w fun e w'=>e=.returned (.int .i64 10)∧Below w0.heap.size w0 w':=by
 obtain⟨vp,R,I,_,_,_⟩:=iQ hr.row hr.bodies;subst I;have A:xs.length=s.out.length:=by have:=congrArg List.length hr.out;simpa using this
 obtain⟨W1,D⟩:∃W1,w.alloc (.cells (aa h) 66)=W1:=⟨_,rfl⟩
 have B:Below w.heap.size w W1:=by rw[←D];exact(Below.refl _ w).alloc (Qk _) _
 have G:ao W1 w.heap.size 66 (aa h):=by rw[←D];exact ao.new w _ _
 have E:=hr.below B;have J:=E.c3;have L:=Qh hr;have N:=Qh B;have O:=Qh G;have H:=Qh E;have M:=Qh A;clear hr B G E;rw[hf]at A;rw[A]at J;clear A
 go_enter Tryz.func76,Tryz.ntmps76
 go_upto_region 1 with fail
 clear D;go_wp2;go_ret;exact⟨rfl,H.out.bel⟩
theorem Ls (hr:Rd w0 w K a s mb v xs q n c) (h:ak) (hf:s.out.length<4096) (hk:fp h.kind=false):
 Calls Tryz.prog 76 #[.pointer (some ⟨K.r,0,none⟩),.agg (aa h)] w fun e w'=>e=.returned (.int .i64 8)∧Below w0.heap.size w0 w':=by
 obtain⟨vp,U,J,_,_,_⟩:=iQ hr.row hr.bodies;subst J;have D:xs.length=s.out.length:=by have:=congrArg List.length hr.out;simpa using this
 obtain⟨W1,B⟩:∃W1,w.alloc (.cells (aa h) 66)=W1:=⟨_,rfl⟩
 have A:Below w.heap.size w W1:=by rw[←B];exact(Below.refl _ w).alloc (Qk _) _
 have H:ao W1 w.heap.size 66 (aa h):=by rw[←B];exact ao.new w _ _
 have E:=hr.below A;have W:=E.c3;have N:=Qh hr;have T:=Qh A;have M:=Qh H;have I:=Qh E;have O:=Qh D;clear hr A H E;have R:((xs.length:Int)==4096)=false:=by rw[D];simpa using (by omega:¬(s.out.length:Int)=4096)
 clear D;have L:=M.out.cell 2;simp only[aa,Qc,Qa,Qb]at L;have G:=iv h.kind W1;rw[hk]at G
 go_enter Tryz.func76,Tryz.ntmps76
 go_upto_region 1 with fail
 clear B;go_wp2_with fail;refine G.mono ?_;rintro e V ⟨rfl,rfl⟩;go_wp2;go_ret;exact⟨rfl,I.out.bel⟩
theorem xY (hr:Rd w0 w K a s mb v xs q n c) (h:ak) (hf:s.out.length<4096) (hk:fp h.kind=true) (zW:(ch (aD s.cF) s.own (dN h s)).2≠0):
 Calls Tryz.prog 76 #[.pointer (some ⟨K.r,0,none⟩),.agg (aa h)] w fun e w'=>e=.returned (.int .i64 (ch (aD s.cF) s.own (dN h s)).2)∧Below w0.heap.size w0 w':=by
 obtain⟨vp,X,l,_,_,_⟩:=iQ hr.row hr.bodies;subst l;have M:xs.length=s.out.length:=by have:=congrArg List.length hr.out;simpa using this
 obtain⟨W1,H⟩:∃W1,w.alloc (.cells (aa h) 66)=W1:=⟨_,rfl⟩
 have G:Below w.heap.size w W1:=by rw[←H];exact(Below.refl _ w).alloc (Qk _) _
 have W:ao W1 w.heap.size 66 (aa h):=by rw[←H];exact ao.new w _ _
 have N:=hr.below G;have m:=N.c3;have B:=Qh hr;have g:=Qh G;have V:=Qh W;have o:=Qh N;have p:=Qh M;clear hr G W N;have t:((xs.length:Int)==4096)=false:=by rw[M];simpa using (by omega:¬(s.out.length:Int)=4096)
 clear M;have U:=V.out.cell 2;simp only[aa,Qc,Qa,Qb]at U;have T:=iv h.kind W1;rw[hk]at T;obtain⟨⟨L,on,J⟩,O⟩:∃x,xm s q n c=x:=⟨_,rfl⟩
 obtain⟨⟨R,E⟩,D⟩:∃x,ch (aD s.cF) s.own (dN h s)=x:=⟨_,rfl⟩
 have d:Hid (∀wi,Rd w0 wi K a s mb (.slice vp xs.length X) xs q n c→((wi.cell? ⟨K.r,1,none⟩=some (.pointer (some ⟨K.gs,0,none⟩))∧wi.cell? ⟨K.r,2,none⟩=some (.map (some K.mw)))∧(Instr.lookup 89 (.map (some K.mw)) (.int .u8 120) false).run Tryz.prog wi=.ok (.agg #[.string ⟨#[]⟩,.slice L on J]) wi)):=
  Qh (fun wi hi=>⟨⟨hi.c1,hi.c2⟩,rb hi.map O⟩)
 have f:Hid (∀wi,Rd w0 wi K a s mb (.slice vp xs.length X) xs q n c→Calls Tryz.prog 112 #[.pointer (some ⟨K.gs,0,none⟩),.agg (aa (dN h s)),.slice L on J] wi fun e w'=>e=.returned (.tuple #[.agg (aa R),.int .i64 E])∧Below wi.heap.size wi w'):=
  Qh (fun wi hi=>by have:=nI h hi O (dN h s);rw[D]at this;exact this)
 have b:=Qh D;clear O D;rw[b.out]at zW⊢;simp only at zW⊢;have u:(E != 0)=true:=by simpa using zW
 clear zW
 go_enter Tryz.func76,Tryz.ntmps76
 go_upto_region 1 with fail
 clear H;go_wp2_with fail;refine T.mono ?_;rintro e w1 ⟨rfl,rfl⟩;go_upto_region 5 with fail;refine wp_region_any (by kernel_rfl) (jc (w:=w) (w1:=W1) K.r K.gs K.mw w.heap.size h (dN h s) L on J R E (show 73≤73 from Qk 73) rfl rfl (Qk _) g.out V.out (fun wi A=>d.out wi (B.out.below A)) (fun wi A=>jr h (B.out.below A)) (fun wi A=>f.out wi (B.out.below A)) ?_);intro W5 I Y;have y:=Qh I;have z:=Qh Y;have Z:=Qh (B.out.below I);clear I Y U m;simp only[Exit.then]
 apply_assumption
 go_wp2;go_ret;exact⟨rfl,Z.out.bel⟩
theorem AE (hr:Rd w0 w K a s mb v xs q n c) (h:ak) (hf:s.out.length<4096) (hk:fp h.kind=true) (hN:Need w0) (h0:0≤h.size) (h1:h.name.length≤1048576) (h2:h.link.length≤1048576) (ah:ak) (zW:ch (aD s.cF) s.own (dN h s)=(ah,0)) (qF:(cZ ah).2≠0):
 Calls Tryz.prog 76 #[.pointer (some ⟨K.r,0,none⟩),.agg (aa h)] w fun e w'=>e=.returned (.int .i64 (cZ ah).2)∧Below w0.heap.size w0 w':=by
 obtain⟨vp,p,hv,_,_,_⟩:=iQ hr.row hr.bodies;subst hv;have T:xs.length=s.out.length:=by have:=congrArg List.length hr.out;simpa using this
 obtain⟨W1,M⟩:∃W1,w.alloc (.cells (aa h) 66)=W1:=⟨_,rfl⟩
 have L:Below w.heap.size w W1:=by rw[←M];exact(Below.refl _ w).alloc (Qk _) _
 have m:ao W1 w.heap.size 66 (aa h):=by rw[←M];exact ao.new w _ _
 have U:=hr.below L;have x3:=U.c3;have D:=Qh hr;have bT:=Qh L;have l:=Qh m;have Hc:=Qh U;have He:=Qh T;clear hr L m U;have Hq:((xs.length:Int)==4096)=false:=by rw[T];simpa using (by omega:¬(s.out.length:Int)=4096)
 clear T;have g:=l.out.cell 2;simp only[aa,Qc,Qa,Qb]at g;have Z:=iv h.kind W1;rw[hk]at Z;obtain⟨⟨R,on,O⟩,W⟩:∃x,xm s q n c=x:=⟨_,rfl⟩
 have Ll:Hid (∀wi,Rd w0 wi K a s mb (.slice vp xs.length p) xs q n c→((wi.cell? ⟨K.r,1,none⟩=some (.pointer (some ⟨K.gs,0,none⟩))∧wi.cell? ⟨K.r,2,none⟩=some (.map (some K.mw)))∧(Instr.lookup 89 (.map (some K.mw)) (.int .u8 120) false).run Tryz.prog wi=.ok (.agg #[.string ⟨#[]⟩,.slice R on O]) wi)):=
  Qh (fun wi hi=>⟨⟨hi.c1,hi.c2⟩,rb hi.map W⟩)
 have NK:Hid (∀wi,Rd w0 wi K a s mb (.slice vp xs.length p) xs q n c→Calls Tryz.prog 112 #[.pointer (some ⟨K.gs,0,none⟩),.agg (aa (dN h s)),.slice R on O] wi fun e w'=>e=.returned (.tuple #[.agg (aa ah),.int .i64 0])∧Below wi.heap.size wi w'):=
  Qh (fun wi hi=>by have:=nI h hi W (dN h s);rw[zW]at this;exact this)
 have z:=Qh zW;clear W zW
 have nv:Hid (0≤ah.size∧ah.name.length≤1048576∧ah.link.length≤1048576):=Qh (by
  have:=nH h D.out h0 h1 h2;rw[z.out]at this
  exact this)
 have lW:=Qh hN;clear hN h0 h1 h2;obtain⟨⟨A,f⟩,H⟩:∃x,cZ ah=x:=⟨_,rfl⟩
 have J:A.body=[]:=by have:=kh ah;rw[H]at this;exact this
 have QQ:Hid (∀wi,Tabs wi→Calls Tryz.prog 80 #[.agg (aa ah)] wi fun e w'=>e=.returned (.tuple #[.agg #[.string (str A.path),.string (str A.target),.int .u8 (A.kind.toNat:Int),.int .i64 A.mode,.int .i64 A.uid,.int .i64 A.gid,.int .i64 A.time,.slice none 0 0],.int .i64 f])∧Below wi.heap.size wi w'):=
  Qh (fun wi hT=>by
   obtain⟨_,b1,b2⟩:=nv.out;have:=ib ah wi (by omega) (by omega) hT;rw[H]at this;unfold cI at this;simp only[J,List.length_nil]at this
   exact this)
 have PY:=Qh H;have Xp:=Qh J;clear H J;rw[PY.out]at qF⊢;simp only at qF⊢;have Wv:(f != 0)=true:=by simpa using qF
 clear qF
 go_enter Tryz.func76,Tryz.ntmps76
 go_upto_region 1 with fail
 clear M;go_wp2_with fail;refine Z.mono ?_;rintro e w1 ⟨rfl,rfl⟩;go_upto_region 5 with fail;refine wp_region_any (by kernel_rfl) (jc (w:=w) (w1:=W1) K.r K.gs K.mw w.heap.size h (dN h s) R on O ah 0 (show 73≤73 from Qk 73) rfl rfl (Qk _) bT.out l.out (fun wi E=>Ll.out wi (D.out.below E)) (fun wi E=>jr h (D.out.below E)) (fun wi E=>NK.out wi (D.out.below E)) ?_);intro W5 N u;have vQ:=Qh N;have I:=Qh u;have X:=Qh (D.out.below N);clear N u g x3;simp only[Exit.then]
 apply_assumption
 have B:=I.out;have c0:=B.cell 0;have c1:=B.cell 1;have c2:=B.cell 2;have c3:=B.cell 3;have b:=B.cell 4;have c5:=B.cell 5;have c6:=B.cell 6;have c7:=B.cell 7;have d:=B.cell 8;simp only[aa,Qc,Qa,Qb]at c0 c1 c2 c3 b c5 c6 c7 d;clear B;go_wp2_with fail;refine(QQ.out _ (X.out.Gc lW.out).xD).mono ?_;rintro e t ⟨rfl,G⟩;have V:=G.alloc G.size (.cells #[.string (str A.path),.string (str A.target),.int .u8 (A.kind.toNat:Int),.int .i64 A.mode,.int .i64 A.uid,.int .i64 A.gid,.int .i64 A.time,.slice none 0 0] 48);have o:=ao.new t 48 #[.string (str A.path),.string (str A.target),.int .u8 (A.kind.toNat:Int),.int .i64 A.mode,.int .i64 A.uid,.int .i64 A.gid,.int .i64 A.time,.slice none 0 0];have Y:w.heap.size<t.heap.size:=Nat.lt_of_lt_of_le I.out.lt G.size;have H5:=Qh (I.out.below V I.out.lt);have y:=Qh (X.out.below V);have ry:=Qh o;have Hd:=Qh Y;clear G V o Y c0 c1 c2 c3 b c5 c6 c7 d;go_wp2;go_ret;exact⟨rfl,y.out.bel⟩
end
section
variable {w0 w w':World} {K:RK} {a:Nat} {s:RS} {mb:Option Nat} {v:Value} {xs:List MP} {q:Option Addr} {n c:Nat}
theorem Rd.fresh (h:Rd w0 w K a s mb v xs q n c) {b:Nat} (hb:w.heap.size≤b):¬Ot K mb v b∧b≠K.g:=by
 obtain⟨t,hs⟩:=h.src;have h1:=h.gm.lt;have A:=hs.lt;have B:=h.st.lt;have D:=h.map.lt;refine⟨fun e=>?_,by omega⟩;rcases e with e|e|e|e|e
 ·omega
 ·omega
 ·omega
 ·have:=h.st.dF e;omega
 ·have:=(h.row.lt b e).2;omega
theorem Rd.LD {wo:World} {a0:Nat} (ho:Rd w0 wo K a0 s mb v xs q n c) (h:Rd w0 w K a s mb v xs q n c) (hk:Kept (fun k=>wo.heap.size≤k) w w'):Rd w0 w' K a s mb v xs q n c:=by
 obtain⟨t0,B⟩:=ho.src;obtain⟨t,hs⟩:=h.src;have I:=ho.gm.lt;have J:=B.lt;have L:=ho.st.lt;have M:=ho.map.lt;have G:=ho.bel.size
 exact {
  bel:=h.bel.trans (hk.below h.bel.size (fun k hk=>Nat.le_trans G hk))
  gm:=h.gm.bG hk (by omega)
  src:=⟨t,hs.kept hk (by omega) (fun A y hy e=>by have:=kV B.iZ A hy;omega) (fun A y hy e=>by have:=wW B.L8 A hy;omega)⟩
  off:=h.off
  st:=h.st.kept hk (fun k jb e=>by
   rcases jb with rfl|jb
   ·omega
   ·have:=ho.st.dF jb;omega)
  map:=h.map.kept hk (by omega)
  own:=cM h.own hk (fun A y hy e=>by
   obtain⟨b',o,D,H,_⟩:=ho.own.2 A;rw[hy]at D
   cases D
   have e:wo.heap.size≤b':=e
   omega)
  oz:=h.oz
  row:=b6 h.row hk (fun k jb e=>by have:=(ho.row.lt k jb).2;omega)
  out:=h.out
  bodies:=fun x E=>(h.bodies x E).kept hk (fun A y hy e=>by have:=kV (ho.bodies x E).iZ A hy;omega)
  apart:=h.apart
  sp:=h.sp
  sq:=h.sq
  ne:=h.ne
  uc:=h.uc
  re:=h.re
  base:=h.base
  many:=h.many
  gl:=h.gl
  ol:=h.ol
  nl:=h.nl
  ll:=h.ll}
theorem EU (hr:Rd w0 w K (a+512) s mb v xs q n c) (h:ak) (hf:s.out.length<4096) (hk:fp h.kind=true) (hN:Need w0) (h0:0≤h.size) (h1:h.name.length≤1048576) (h2:h.link.length≤1048576) (ah:ak) (zW:ch (aD s.cF) s.own (dN h s)=(ah,0)) (qF:(cZ ah).2=0) (k:Nat) (hsz:ah.size=(k:Int)) (jI:k≤1048576) (hl:K.S.n<a+512+ei k):
 Calls Tryz.prog 76 #[.pointer (some ⟨K.r,0,none⟩),.agg (aa h)] w fun e w'=>e=.returned (.int .i64 2)∧Below w0.heap.size w0 w':=by
 obtain⟨vp,vc,hv,_,_,_⟩:=iQ hr.row hr.bodies;subst hv;have l:xs.length=s.out.length:=by have:=congrArg List.length hr.out;simpa using this
 obtain⟨W1,Y⟩:∃W1,w.alloc (.cells (aa h) 66)=W1:=⟨_,rfl⟩
 have X:Below w.heap.size w W1:=by rw[←Y];exact(Below.refl _ w).alloc (Qk _) _
 have o9:ao W1 w.heap.size 66 (aa h):=by rw[←Y];exact ao.new w _ _
 have m:=hr.below X;have x3:=m.c3;have E:=Qh hr;have bT:=Qh X;have mA:=Qh o9;have Hc:=Qh m;have He:=Qh l;clear hr X o9 m;have Hq:((xs.length:Int)==4096)=false:=by rw[l];simpa using (by omega:¬(s.out.length:Int)=4096)
 clear l;have k2:=mA.out.cell 2;simp only[aa,Qc,Qa,Qb]at k2;have bV:=iv h.kind W1;rw[hk]at bV;obtain⟨⟨f,on,d⟩,u⟩:∃x,xm s q n c=x:=⟨_,rfl⟩
 have Ll:Hid (∀wi,Rd w0 wi K (a+512) s mb (.slice vp xs.length vc) xs q n c→((wi.cell? ⟨K.r,1,none⟩=some (.pointer (some ⟨K.gs,0,none⟩))∧wi.cell? ⟨K.r,2,none⟩=some (.map (some K.mw)))∧(Instr.lookup 89 (.map (some K.mw)) (.int .u8 120) false).run Tryz.prog wi=.ok (.agg #[.string ⟨#[]⟩,.slice f on d]) wi)):=
  Qh (fun wi hi=>⟨⟨hi.c1,hi.c2⟩,rb hi.map u⟩)
 have NK:Hid (∀wi,Rd w0 wi K (a+512) s mb (.slice vp xs.length vc) xs q n c→Calls Tryz.prog 112 #[.pointer (some ⟨K.gs,0,none⟩),.agg (aa (dN h s)),.slice f on d] wi fun e w'=>e=.returned (.tuple #[.agg (aa ah),.int .i64 0])∧Below wi.heap.size wi w'):=
  Qh (fun wi hi=>by have:=nI h hi u (dN h s);rw[zW]at this;exact this)
 have Lh:=Qh zW;clear u zW
 have nv:Hid (0≤ah.size∧ah.name.length≤1048576∧ah.link.length≤1048576):=Qh (by
  have:=nH h E.out h0 h1 h2;rw[Lh.out]at this
  exact this)
 have lW:=Qh hN;clear hN h0 h1 h2;obtain⟨⟨A,fe⟩,N⟩:∃x,cZ ah=x:=⟨_,rfl⟩
 have R:A.body=[]:=by have:=kh ah;rw[N]at this;exact this
 have QQ:Hid (∀wi,Tabs wi→Calls Tryz.prog 80 #[.agg (aa ah)] wi fun e w'=>e=.returned (.tuple #[.agg #[.string (str A.path),.string (str A.target),.int .u8 (A.kind.toNat:Int),.int .i64 A.mode,.int .i64 A.uid,.int .i64 A.gid,.int .i64 A.time,.slice none 0 0],.int .i64 fe])∧Below wi.heap.size wi w'):=
  Qh (fun wi hT=>by
   obtain⟨_,b1,b2⟩:=nv.out;have:=ib ah wi (by omega) (by omega) hT;rw[N]at this;unfold cI at this;simp only[R,List.length_nil]at this
   exact this)
 have PY:=Qh N;have Xp:=Qh R;clear N R;rw[PY.out]at qF;simp only at qF;subst qF;have tL:=Qh hl;have nB:=Qh jI;have Z:=Qh hsz;clear hl jI hsz
 go_enter Tryz.func76,Tryz.ntmps76
 go_upto_region 1 with fail
 clear Y;go_wp2_with fail;refine bV.mono ?_;rintro e w1 ⟨rfl,rfl⟩;go_upto_region 5 with fail;refine wp_region_any (by kernel_rfl) (jc (w:=w) (w1:=W1) K.r K.gs K.mw w.heap.size h (dN h s) f on d ah 0 (show 73≤73 from Qk 73) rfl rfl (Qk _) bT.out mA.out (fun wi I=>Ll.out wi (E.out.below I)) (fun wi I=>jr h (E.out.below I)) (fun wi I=>NK.out wi (E.out.below I)) ?_);intro W5 b zZ;have vQ:=Qh b;have O:=Qh zZ;have z:=Qh (E.out.below b);clear b zZ k2 x3;simp only[Exit.then]
 apply_assumption
 have B:=O.out;have c0:=B.cell 0;have c1:=B.cell 1;have c2:=B.cell 2;have c3:=B.cell 3;have c4:=B.cell 4;have c5:=B.cell 5;have c6:=B.cell 6;have c7:=B.cell 7;have c8:=B.cell 8;simp only[aa,Qc,Qa,Qb]at c0 c1 c2 c3 c4 c5 c6 c7 c8;clear B;go_wp2_with fail;refine(QQ.out _ (z.out.Gc lW.out).xD).mono ?_;rintro e D ⟨rfl,M⟩;have o:=M.alloc M.size (.cells #[.string (str A.path),.string (str A.target),.int .u8 (A.kind.toNat:Int),.int .i64 A.mode,.int .i64 A.uid,.int .i64 A.gid,.int .i64 A.time,.slice none 0 0] 48);have q7:=ao.new D 48 #[.string (str A.path),.string (str A.target),.int .u8 (A.kind.toNat:Int),.int .i64 A.mode,.int .i64 A.uid,.int .i64 A.gid,.int .i64 A.time,.slice none 0 0];have FP:w.heap.size<D.heap.size:=Nat.lt_of_lt_of_le O.out.lt M.size;have U:=Qh (O.out.below o O.out.lt);have T:=Qh (z.out.below o);have ry:=Qh q7;have J:=Qh FP;clear M o q7 FP c0 c1 c2 c3 c4 c5 c6 c7 c8;obtain⟨W7,W⟩:∃W7,D.alloc (.cells #[.string (str A.path),.string (str A.target),.int .u8 (A.kind.toNat:Int),.int .i64 A.mode,.int .i64 A.uid,.int .i64 A.gid,.int .i64 A.time,.slice none 0 0] 48)=W7:=⟨_,rfl⟩
 rw[W]at U T ry;have U6:=Qh W;clear W;have x0:=T.out.c0;have y:=U.out.cell 7;simp only[aa,Qc,Qa,Qb,Z.out]at y;have L:=T.out.idle ((Kept.refl af W7).drew);obtain⟨t,hs⟩:=L.src
 have cE:w.heap.size≠K.g∧D.heap.size≠K.g:=by
  obtain⟨t',ng⟩:=E.out.src;have:=ng.lt;have:=J.out;exact⟨by omega,by omega⟩
 have xR:=Qh L;have pG:=Qh cE;have hB:=Dg W7.drew K.g (a+512) t K.S hs L.off k nB.out tL.out;clear hs L cE;go_upto_region 11 with fail;rw[U6.out]
 go_region_held_law (fun w'=>w'.cell? ⟨K.r,0,none⟩=some (.pointer (some ⟨K.g,0,none⟩))∧w'.cell? ⟨w.heap.size,7,none⟩=some (.int .i64 (k:Int))) (first|exact⟨x0,y⟩|exact RH|exact TV)
  (first
   |(go_at_call 108
     refine hB.mono ?_;rintro e G ⟨t',rfl,h4,H⟩;have V:=Qh (xR.out.eS H ⟨t',h4⟩);have Ro:Hid (ao G w.heap.size 66 (aa ah)):=Qh ((U.out.drew).bG H pG.out.1);have tG:Hid (ao G D.heap.size 48 #[.string (str A.path),.string (str A.target),.int .u8 (A.kind.toNat:Int),.int .i64 A.mode,.int .i64 A.uid,.int .i64 A.gid,.int .i64 A.time,.slice none 0 0]):=Qh ((ry.out.drew).bG H pG.out.2);have K3:=Qh H;have RH:G.cell? ⟨K.r,0,none⟩=some (.pointer (some ⟨K.g,0,none⟩))∧G.cell? ⟨w.heap.size,7,none⟩=some (.int .i64 (k:Int)):=⟨V.out.c0,by have:=Ro.out.cell 7;simp only[aa,Qc,Qa,Qb,Z.out]at this;exact this⟩
     have TV:(G.setCell ⟨D.heap.size,7,none⟩ (.slice none 0 0)).cell? ⟨K.r,0,none⟩=some (.pointer (some ⟨K.g,0,none⟩))∧(G.setCell ⟨D.heap.size,7,none⟩ (.slice none 0 0)).cell? ⟨w.heap.size,7,none⟩=some (.int .i64 (k:Int)):=
      ⟨(V.out.gm.other (b':=D.heap.size) (i:=7) (by have:=E.out.gm.lt;have:=J.out;omega) _).cell 0,by have:=(Ro.out.other (b':=D.heap.size) (i:=7) (by have:=J.out;omega) (.slice none 0 0)).cell 7;simp only[aa,Qc,Qa,Qb,Z.out]at this;exact this⟩
     have m7:=tG.out.cell 7;have XS:=tG.out.frozen 7;simp only[Qc,Qa,Qb]at m7
     clear h4 H))
 clear hB RH x0 y;go_wp2;go_ret;exact⟨rfl,V.out.bel.setCell (p:=⟨D.heap.size,7,none⟩) (Nat.le_trans E.out.bel.size (Nat.le_of_lt J.out)) _⟩
theorem Oi (hr:Rd w0 w K (a+512) s mb v xs q n c) (h:ak) (hf:s.out.length<4096) (hk:fp h.kind=true) (hN:Need w0) (h0:0≤h.size) (h1:h.name.length≤1048576) (h2:h.link.length≤1048576) (ah:ak) (zW:ch (aD s.cF) s.own (dN h s)=(ah,0)) (qF:(cZ ah).2=0) (k:Nat) (hsz:ah.size=(k:Int)) (jI:k≤1048576) (X:List UInt8) (hX:(K.S.bs.drop (a+512)).take k=X) (hl:a+512+ei k≤K.S.n):
 Calls Tryz.prog 76 #[.pointer (some ⟨K.r,0,none⟩),.agg (aa h)] w fun e w'=>e=.returned (.int .i64 0)∧Left w0 K (a+512+ei k) {s with out:=s.out++[{(cZ ah).1 with body:=X}],own:=[],name:=none,link:=none,dU:=false} w':=by
 have ju:Hid (X.length=k):=Qh (by
  obtain⟨t,hs⟩:=hr.src;have:=jo k;have:=hs.len
  rw[←hX,Qg,Qe];omega)
 obtain⟨vp,L,hv,_,_,_⟩:=iQ hr.row hr.bodies;subst hv;have q9:xs.length=s.out.length:=by have:=congrArg List.length hr.out;simpa using this
 obtain⟨W1,c9⟩:∃W1,w.alloc (.cells (aa h) 66)=W1:=⟨_,rfl⟩
 have y:Below w.heap.size w W1:=by rw[←c9];exact(Below.refl _ w).alloc (Qk _) _
 have o9:ao W1 w.heap.size 66 (aa h):=by rw[←c9];exact ao.new w _ _
 have rV:=hr.below y;have x3:=rV.c3;have G:=Qh hr;have bT:=Qh y;have mA:=Qh o9;have Hc:=Qh rV;have He:=Qh q9;clear hr y o9 rV;have Hq:((xs.length:Int)==4096)=false:=by rw[q9];simpa using (by omega:¬(s.out.length:Int)=4096)
 clear q9;have k2:=mA.out.cell 2;simp only[aa,Qc,Qa,Qb]at k2;have bV:=iv h.kind W1;rw[hk]at bV;obtain⟨⟨oq,on,oc⟩,xM⟩:∃x,xm s q n c=x:=⟨_,rfl⟩
 have Ll:Hid (∀wi,Rd w0 wi K (a+512) s mb (.slice vp xs.length L) xs q n c→((wi.cell? ⟨K.r,1,none⟩=some (.pointer (some ⟨K.gs,0,none⟩))∧wi.cell? ⟨K.r,2,none⟩=some (.map (some K.mw)))∧(Instr.lookup 89 (.map (some K.mw)) (.int .u8 120) false).run Tryz.prog wi=.ok (.agg #[.string ⟨#[]⟩,.slice oq on oc]) wi)):=
  Qh (fun wi hi=>⟨⟨hi.c1,hi.c2⟩,rb hi.map xM⟩)
 have NK:Hid (∀wi,Rd w0 wi K (a+512) s mb (.slice vp xs.length L) xs q n c→Calls Tryz.prog 112 #[.pointer (some ⟨K.gs,0,none⟩),.agg (aa (dN h s)),.slice oq on oc] wi fun e w'=>e=.returned (.tuple #[.agg (aa ah),.int .i64 0])∧Below wi.heap.size wi w'):=
  Qh (fun wi hi=>by have:=nI h hi xM (dN h s);rw[zW]at this;exact this)
 have Lh:=Qh zW;clear xM zW
 have nv:Hid (0≤ah.size∧ah.name.length≤1048576∧ah.link.length≤1048576):=Qh (by
  have:=nH h G.out h0 h1 h2;rw[Lh.out]at this
  exact this)
 have lW:=Qh hN;clear hN h0 h1 h2;obtain⟨⟨A,fe⟩,U⟩:∃x,cZ ah=x:=⟨_,rfl⟩
 have W:A.body=[]:=by have:=kh ah;rw[U]at this;exact this
 have QQ:Hid (∀wi,Tabs wi→Calls Tryz.prog 80 #[.agg (aa ah)] wi fun e w'=>e=.returned (.tuple #[.agg #[.string (str A.path),.string (str A.target),.int .u8 (A.kind.toNat:Int),.int .i64 A.mode,.int .i64 A.uid,.int .i64 A.gid,.int .i64 A.time,.slice none 0 0],.int .i64 fe])∧Below wi.heap.size wi w'):=
  Qh (fun wi hT=>by
   obtain⟨_,b1,b2⟩:=nv.out;have:=ib ah wi (by omega) (by omega) hT;rw[U]at this;unfold cI at this;simp only[W,List.length_nil]at this
   exact this)
 have PY:=Qh U;have Xp:=Qh W;clear U W;rw[PY.out]at qF;simp only at qF;subst qF;rw[PY.out];have HF:=Qh hf;have tL:=Qh (And.intro hX hl);have nB:=Qh jI;have fF:=Qh hsz;clear hl jI hsz hX hf
 go_enter Tryz.func76,Tryz.ntmps76
 go_upto_region 1 with fail
 clear c9;go_wp2_with fail;refine bV.mono ?_;rintro e w1 ⟨rfl,rfl⟩;go_upto_region 5 with fail;refine wp_region_any (by kernel_rfl) (jc (w:=w) (w1:=W1) K.r K.gs K.mw w.heap.size h (dN h s) oq on oc ah 0 (show 73≤73 from Qk 73) rfl rfl (Qk _) bT.out mA.out (fun wi J=>Ll.out wi (G.out.below J)) (fun wi J=>jr h (G.out.below J)) (fun wi J=>NK.out wi (G.out.below J)) ?_);intro W5 nU zZ;have vQ:=Qh nU;have V:=Qh zZ;have Af:=Qh (G.out.below nU);clear nU zZ k2 x3;simp only[Exit.then]
 apply_assumption
 have E:=V.out;have c0:=E.cell 0;have c1:=E.cell 1;have c2:=E.cell 2;have c3:=E.cell 3;have c4:=E.cell 4;have c5:=E.cell 5;have c6:=E.cell 6;have c7:=E.cell 7;have c8:=E.cell 8;simp only[aa,Qc,Qa,Qb]at c0 c1 c2 c3 c4 c5 c6 c7 c8;clear E;go_wp2_with fail;refine(QQ.out _ (Af.out.Gc lW.out).xD).mono ?_;rintro e B ⟨rfl,R⟩;have xL:=R.alloc R.size (.cells #[.string (str A.path),.string (str A.target),.int .u8 (A.kind.toNat:Int),.int .i64 A.mode,.int .i64 A.uid,.int .i64 A.gid,.int .i64 A.time,.slice none 0 0] 48);have q7:=ao.new B 48 #[.string (str A.path),.string (str A.target),.int .u8 (A.kind.toNat:Int),.int .i64 A.mode,.int .i64 A.uid,.int .i64 A.gid,.int .i64 A.time,.slice none 0 0];have FP:w.heap.size<B.heap.size:=Nat.lt_of_lt_of_le V.out.lt R.size;have Z:=Qh (V.out.below xL V.out.lt);have Y:=Qh (Af.out.below xL);have ry:=Qh q7;have M:=Qh FP;clear R xL q7 FP c0 c1 c2 c3 c4 c5 c6 c7 c8;obtain⟨W7,d⟩:∃W7,B.alloc (.cells #[.string (str A.path),.string (str A.target),.int .u8 (A.kind.toNat:Int),.int .i64 A.mode,.int .i64 A.uid,.int .i64 A.gid,.int .i64 A.time,.slice none 0 0] 48)=W7:=⟨_,rfl⟩
 rw[d]at Z Y ry;have U6:=Qh d;clear d;have x0:=Y.out.c0;have z7:=Z.out.cell 7;simp only[aa,Qc,Qa,Qb,fF.out]at z7;have O:=Y.out.idle ((Kept.refl af W7).drew);obtain⟨t,hs⟩:=O.src
 have cE:w.heap.size≠K.g∧B.heap.size≠K.g:=by
  obtain⟨t',ng⟩:=G.out.src;have:=ng.lt;have:=M.out;exact⟨by omega,by omega⟩
 have xR:=Qh O;have pG:=Qh cE;have hB:=lX W7.drew K.g (a+512) t K.S hs O.off k nB.out X tL.out.1 tL.out.2;clear hs O cE;go_upto_region 11 with fail;rw[U6.out]
 go_region_held_law (fun w'=>w'.cell? ⟨K.r,0,none⟩=some (.pointer (some ⟨K.g,0,none⟩))∧w'.cell? ⟨w.heap.size,7,none⟩=some (.int .i64 (k:Int))) (first|exact⟨x0,z7⟩|exact RH|exact TV)
  (first
   |(go_at_call 108
     refine hB.mono ?_;rintro e D ⟨p,t',rfl,h2,h3,h4,N⟩;have b:=Qh (xR.out.eS N ⟨t',h4⟩);have Ro:Hid (ao D w.heap.size 66 (aa ah)):=Qh ((Z.out.drew).bG N pG.out.1);have tG:Hid (ao D B.heap.size 48 #[.string (str A.path),.string (str A.target),.int .u8 (A.kind.toNat:Int),.int .i64 A.mode,.int .i64 A.uid,.int .i64 A.gid,.int .i64 A.time,.slice none 0 0]):=Qh ((ry.out.drew).bG N pG.out.2);have f:=Qh (And.intro h2 h3);have RH:D.cell? ⟨K.r,0,none⟩=some (.pointer (some ⟨K.g,0,none⟩))∧D.cell? ⟨w.heap.size,7,none⟩=some (.int .i64 (k:Int)):=⟨b.out.c0,by have:=Ro.out.cell 7;simp only[aa,Qc,Qa,Qb,fF.out]at this;exact this⟩
     have TV:(D.setCell ⟨B.heap.size,7,none⟩ (.slice p k k)).cell? ⟨K.r,0,none⟩=some (.pointer (some ⟨K.g,0,none⟩))∧(D.setCell ⟨B.heap.size,7,none⟩ (.slice p k k)).cell? ⟨w.heap.size,7,none⟩=some (.int .i64 (k:Int)):=
      ⟨(b.out.gm.other (b':=B.heap.size) (i:=7) (by have:=G.out.gm.lt;have:=M.out;omega) _).cell 0,by have:=(Ro.out.other (b':=B.heap.size) (i:=7) (by have:=M.out;omega) (.slice p k k)).cell 7;simp only[aa,Qc,Qa,Qb,fF.out]at this;exact this⟩
     have m7:=tG.out.cell 7;have XS:=tG.out.frozen 7;simp only[Qc,Qa,Qb]at m7
     clear h2 h3 h4 N))
 clear hB RH x0 z7
 have m:ao (D.setCell ⟨B.heap.size,7,none⟩ (.slice p k k)) B.heap.size 48 (MP.mk {A with body:=X} p k).cs:=by
  have h9:=tG.out.set 7 (.slice p k k) (by decide:7<8);have e:(MP.mk {A with body:=X} p k).cs=#[.string (str A.path),.string (str A.target),.int .u8 (A.kind.toNat:Int),.int .i64 A.mode,.int .i64 A.uid,.int .i64 A.gid,.int .i64 A.time,.slice p X.length k]:=rfl;rw[e,ju.out];exact h9
 have Qy:Kept (fun k=>w.heap.size≤k) D (D.setCell ⟨B.heap.size,7,none⟩ (.slice p k k)):=(Kept.refl _ D).setCell (a:=⟨B.heap.size,7,none⟩) (.inr (Nat.le_of_lt M.out)) _;have o:=Rd.LD G.out b.out Qy
 have l:cj (D.setCell ⟨B.heap.size,7,none⟩ (.slice p k k)) p k X:=f.out.1.kept ((Kept.refl (aw B.heap.size) D).setCell (a:=⟨B.heap.size,7,none⟩) (.inr rfl) _) (fun _ x hx e=>by
  have h1:=f.out.2 x hx;have h2:=ry.out.lt;have h3:x.block=B.heap.size:=e;have h4:W7.drew.heap.size=W7.heap.size:=rfl
  omega)
 obtain⟨W9,u⟩:∃W9,D.setCell ⟨B.heap.size,7,none⟩ (.slice p k k)=W9:=⟨_,rfl⟩
 rw[u]at m o l;have ZR:=Qh u;have vU:=Qh m;have I:=Qh o;have PW:=Qh l;clear m o l Qy TV m7 XS u;go_upto_region 14 with fail;rw[ZR.out];refine wp_region_any (by kernel_rfl) (vX (w1:=W9) w0.heap.size K.r B.heap.size (.slice vp xs.length L) xs (MP.mk {A with body:=X} p k) (D1 K (.slice vp xs.length L)) (show 73≤73 from Qk 73) rfl rfl vU.out I.out.gm rfl (fun e=>(I.out.re _ e).1 rfl) I.out.row I.out.bel.size (by have:=He.out;have:=HF.out;omega) ?_);intro γ wB hA;obtain⟨T,g1,g2,g3,g4⟩:=hA;have H:=I.out.below g1;have tU:=H.F7 (v':=γ.va) g3;have Yy:Kept (fun k=>(Value.slice vp xs.length L).ownBlock=some k) T wB:=(Kept.refl _ T).grown g3 (fun k hk=>.inr hk);have Yi:=((H.gm.bG Yy (fun e=>(H.re _ e).1 rfl)).set 3 γ.va (by decide:3<4)).cell 2;have c2:(wB.setCell ⟨K.r,3,none⟩ γ.va).cell? ⟨K.r,2,none⟩=some (.map (some K.mw)):=Yi;obtain⟨w2,dt,KS,cU,uS⟩:=tU.Ly Tryz.underlying89 0;have hy:dx T (MP.mk {A with body:=X} p k):=⟨by show cj T p X.length X;rw[ju.out];exact PW.out.below g1,by show X.length≤k;rw[ju.out];exact Qk _,by show k≤maxLen;have:=nB.out;unfold maxLen;omega⟩
 have F:=Qh (H.added g2 g3 g4 hy (fun _ z hz=>xR.out.fresh (f.out.2 z hz)) HF.out KS cU);clear g1 g2 g3 g4 H tU Yy Yi KS cU uS hy;simp only[Exit.then]
 apply_assumption
 go_wp2;go_ret;exact⟨rfl,mb,γ.va,_,none,0,0,F.out⟩
end
end Mem
end Go.Proofs.YtdhibldkldlfpaaGreatDoor
