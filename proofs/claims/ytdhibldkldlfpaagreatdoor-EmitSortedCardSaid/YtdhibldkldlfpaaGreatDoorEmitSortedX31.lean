/- Merged. -/
import Derived.Test.YtdhibldkldlfpaaGreatDoorEmitSortedX30
import Derived.Laws.EntriesVeiled
namespace Go.Proofs.YtdhibldkldlfpaaGreatDoor
set_option linter.unusedVariables false
set_option maxHeartbeats 4000000
set_option maxRecDepth 100000
namespace Wr
open Go.ChangeShapes Go.WideShapes Go.ChangeAt Go.RowKit Base bM cr Bk Hp Head Rec Attr Mem Go.Lib
variable {w:World}
theorem Mv (l:List UInt8):∃a b,Head.cutV l=.tuple #[.string a,.string b,.bool (gq l).isSome]:=by
 unfold Head.cutV
 cases gq l with
 |none=>exact⟨_,_,rfl⟩
 |some x=>exact⟨_,_,rfl⟩
def HC (a b:List UInt8) (k:UInt8) (md ui gi ti bl:Int):Array Value:=#[.string (str a),.string (str b),.int .u8 (k.toNat:Int),.int .i64 md,.int .i64 ui,.int .i64 gi,.int .i64 ti,.int .i64 bl,.bool false]
theorem lI {g:Nat} {cs:Array Value} (h:ao w g 66 cs) (hs:cs.size=9) (v0 v1 v2 v3 v4 v5 v6 v7 v8:Value):
 ao (((((((((w.setCell ⟨g,0,none⟩ v0).setCell ⟨g,1,none⟩ v1).setCell ⟨g,2,none⟩ v2).setCell ⟨g,3,none⟩ v3).setCell ⟨g,4,none⟩ v4).setCell ⟨g,5,none⟩ v5).setCell ⟨g,6,none⟩ v6).setCell ⟨g,7,none⟩ v7).setCell ⟨g,8,none⟩ v8) g 66 #[v0,v1,v2,v3,v4,v5,v6,v7,v8]:=by
 obtain⟨a0,A,a2,a3,a4,a5,B,D,E,rfl⟩:∃a0 A a2 a3 a4 a5 B D E,cs=#[a0,A,a2,a3,a4,a5,B,D,E]:=by
  obtain⟨l⟩:=cs
  match l,hs with
  |[a0,A,a2,a3,a4,a5,B,D,E],_=>exact⟨_,_,_,_,_,_,_,_,_,rfl⟩
 exact((((((((h.set 0 v0 (by show 0<9;decide)).set 1 v1 (by show 1<9;decide)).set 2 v2 (by show 2<9;decide)).set 3 v3 (by show 3<9;decide)).set 4 v4 (by show 4<9;decide)).set 5 v5 (by show 5<9;decide)).set 6 v6 (by show 6<9;decide)).set 7 v7 (by show 7<9;decide)).set 8 v8 (by show 8<9;decide)
theorem qI (g:Nat) (v0 v1 v2 v3 v4 v5 v6 v7 v8:Value):
 Kept (aA g) w (((((((((w.setCell ⟨g,0,none⟩ v0).setCell ⟨g,1,none⟩ v1).setCell ⟨g,2,none⟩ v2).setCell ⟨g,3,none⟩ v3).setCell ⟨g,4,none⟩ v4).setCell ⟨g,5,none⟩ v5).setCell ⟨g,6,none⟩ v6).setCell ⟨g,7,none⟩ v7).setCell ⟨g,8,none⟩ v8):=
 (((((((((Kept.refl (aA g) w).setCell (a:=⟨g,0,none⟩) (.inr rfl) v0).setCell (a:=⟨g,1,none⟩) (.inr rfl) v1).setCell (a:=⟨g,2,none⟩) (.inr rfl) v2).setCell (a:=⟨g,3,none⟩) (.inr rfl) v3).setCell (a:=⟨g,4,none⟩) (.inr rfl) v4).setCell (a:=⟨g,5,none⟩) (.inr rfl) v5).setCell (a:=⟨g,6,none⟩) (.inr rfl) v6).setCell (a:=⟨g,7,none⟩) (.inr rfl) v7).setCell (a:=⟨g,8,none⟩) (.inr rfl) v8
theorem IE {fn:Func} (hf:fn.results=#[.cell 2 66,.tmp 3]) (tmps:Array Value) (w:World) (g:Nat) (v:Value) (ht:tmps.getD 2 undef=.pointer (some ⟨g,0,none⟩)) (hv:tmps.getD 3 undef=v)
 (h:ak) (hb:ao w g 66 (aa h)):(results fn tmps).run Tryz.prog w=.ok (.tuple #[.agg (aa h),v]) w:=by
 have hl:=mQ w g (str h.name) (str h.link) _ _ _ _ _ _ _ hb;have B:tmps[2]?.getD undef=.pointer (some ⟨g,0,none⟩):=by simpa using ht
 have A:tmps[3]?.getD undef=v:=by simpa using hv
 simp only[results,hf];simp[Result.andThen,B,A,asAddr,hl,aa]
def FN (w:World) (m:aq) (e:Ending) (w':World):Prop:=
 ∃q d,e=.returned (.tuple #[.agg (aa (bh m)),.slice q (aO m).length d])∧(aO m).length≤d∧d≤maxLen∧cf w' q (aO m).length (aO m)∧Below w.heap.size w w'
theorem SP.done {wx wy:World} {M H:Array Value} {m:aq} (h:SP w M H (aO m) wx) (hk:Kept (aA (w.heap.size+1)) wx wy) {q:Option Addr} {n d:Nat} (hl:ao wx (w.heap.size+3) 64 #[.slice q n d]):
 (aO m).length=n∧(aO m).length≤d∧d≤maxLen∧cf wy q (aO m).length (aO m)∧Below w.heap.size w wy:=by
 obtain⟨v,h1,B⟩:=h.ls
 have e:v=.slice q n d:=by
  have c1:=h1.cell 0;rw[hl.cell 0]at c1
  simpa using c1.symm
 have D:=bQ B hk (fun k J e=>by
  have:=(B.lt k J).1;have:k=w.heap.size+1:=e
  omega)
 obtain⟨N,L,A,E,G,I⟩:=ml D;rw[e]at A
 cases A
 exact⟨rfl,E,G,I,h.bel.trans (hk.below h.bel.size (fun k hk=>by have:k=w.heap.size+1:=hk;omega))⟩
theorem IB (m:aq):aO m=((((([]:ca)++(if ix m then[(aI 4,m.path)]else[]))++(if gh m then[(aI 5,m.target)]else[]))++(if 2097151<m.uid then[(aI 0,aJ m.uid.toNat)]else[]))++
 (if 2097151<m.gid then[(aI 1,aJ m.gid.toNat)]else[]))++(if 8589934591<m.time then[(aI 2,aJ m.time.toNat)]else[]):=by
 rw[List.nil_append];rfl
theorem IQ (m:aq) (p:Option Addr) (c:Nat) (w:World) (hg:dd m) (hN:Need w):
 Calls Tryz.prog 81 #[.agg (cP m p c)] w (FN w m):=by
 have Hf:=hg.tN;have zX:=hg.xk;obtain⟨bl,jy⟩:∃bl,m.body.length=bl:=⟨_,rfl⟩
 obtain⟨u,hu⟩:∃u:Nat,m.uid=(u:Int):=⟨m.uid.toNat,by have:=hg.uid;omega⟩
 obtain⟨g,R⟩:∃g:Nat,m.gid=(g:Int):=⟨m.gid.toNat,by have:=hg.gid;omega⟩
 obtain⟨t,V⟩:∃t:Nat,m.time=(t:Int):=⟨m.time.toNat,by have:=hg.time;omega⟩
 have lq:u≤9223372036854775807:=by have:=hg.uid;omega
 have uP:g≤9223372036854775807:=by have:=hg.gid;omega
 have J:t≤9223372036854775807:=by have:=hg.time;omega
 obtain⟨b0,Jn⟩:∃b,(gq m.path).isSome=b:=⟨_,rfl⟩
 obtain⟨A,T⟩:∃b,ix m=b:=⟨_,rfl⟩
 obtain⟨ll,N⟩:∃b,gh m=b:=⟨_,rfl⟩
 obtain⟨f1,Bt⟩:∃f1,decide (m.target.length≤100)=f1:=⟨_,rfl⟩
 have HLP:Hid ((!b0||!ke m.path)=A):=Qh (by
  rw[←T,←Jn];unfold ix
  cases gq m.path<;>rfl)
 have Jz:Hid ((!f1||!ke m.target)=ll):=Qh (by
  rw[←N,←Bt];unfold gh
  congr 1
  by_cases h:m.target.length≤100
  ·simp[h]
  ·simp[h];omega)
 have X0:decide (((str m.target).size:Int)≤100)=f1:=by
  rw[←Bt,au]
  by_cases h:m.target.length≤100
  ·rw[decide_eq_true h,decide_eq_true (by omega)]
  ·rw[decide_eq_false h,decide_eq_false (by omega)]
 obtain⟨RV,M⟩:∃RV:ca,(if A=true then[]++[(aI 4,m.path)]else[])=RV:=⟨_,rfl⟩
 obtain⟨RW,W⟩:∃RW:ca,(if ll=true then RV++[(aI 5,m.target)]else RV)=RW:=⟨_,rfl⟩
 obtain⟨RX,O⟩:∃RX:ca,(if 2097151<u then RW++[(aI 0,aJ u)]else RW)=RX:=⟨_,rfl⟩
 obtain⟨RY,Y⟩:∃RY:ca,(if 2097151<g then RX++[(aI 1,aJ g)]else RX)=RY:=⟨_,rfl⟩
 obtain⟨Wf,KV⟩:∃Wf:ca,(if 8589934591<t then RY++[(aI 2,aJ t)]else RY)=Wf:=⟨_,rfl⟩
 have l1:RV.length≤1:=by rw[←M];split<;>simp
 have l2:RW.length≤2:=by rw[←W];split;(rw[Qf];simp only[List.length_cons,List.length_nil];omega);omega
 have l3:RX.length≤3:=by rw[←O];split;(rw[Qf];simp only[List.length_cons,List.length_nil];omega);omega
 have l4:RY.length≤4:=by rw[←Y];split;(rw[Qf];simp only[List.length_cons,List.length_nil];omega);omega
 have BH:Hid (aO m=Wf):=Qh (by
  have e:∀(c:Prop) [Decidable c] (a:ca) (r:List UInt8 × List UInt8),a++(if c then[r]else[])=if c then a++[r]else a:=fun c _ a r=>by split<;>simp
  have c1:((2097151:Int)<(u:Int))↔2097151<u:=by omega
  have c2:((2097151:Int)<(g:Int))↔2097151<g:=by omega
  have c3:((8589934591:Int)<(t:Int))↔8589934591<t:=by omega
  rw[IB,e,e,e,e,e,T,N,hu,R,V,←KV,←Y,←O,←W,←M]
  simp only[Int.toNat_natCast,c1,c2,c3])
 have HH5:Hid (aa (bh m)=HC (if A=true then bp else m.path) (if ll=true then bp else m.target) m.kind m.mode (if 2097151<u then 0 else(u:Int)) (if 2097151<g then 0 else(g:Int)) (if 8589934591<t then 0 else(t:Int)) (bl:Int)):=Qh (by
  unfold bh HC aa;rw[T,N,hu,R,V,jy];have c1:((2097151:Int)<(u:Int))↔2097151<u:=by omega
  have c2:((2097151:Int)<(g:Int))↔2097151<g:=by omega
  have c3:((8589934591:Int)<(t:Int))↔8589934591<t:=by omega
  simp only[c1,c2,c3])
 unfold cP;rw[jy,hu,R,V]
 obtain⟨W1,dG⟩:∃W1,((((w.alloc (.cells #[.string (str m.path),.string (str m.target),.int .u8 (m.kind.toNat:Int),.int .i64 m.mode,.int .i64 (u:Int),.int .i64 (g:Int),.int .i64 (t:Int),.slice p bl c] 48)).alloc
  (.cells #[.string ⟨#[]⟩,.string ⟨#[]⟩,.int .u8 0,.int .i64 0,.int .i64 0,.int .i64 0,.int .i64 0,.int .i64 0,.bool false] 66)).alloc
  (.cells #[.string (str m.path),.string (str m.target),.int .u8 (m.kind.toNat:Int),.int .i64 m.mode,.int .i64 (u:Int),.int .i64 (g:Int),.int .i64 (t:Int),.int .i64 (bl:Int),.bool false] 66)).alloc
  (.cells #[.slice none 0 0] 64)).alloc (.cells #[.func (.func 120) #[] #[.pointer (some ⟨w.heap.size+3,0,none⟩)]] 189)=W1:=⟨_,rfl⟩
 have Z9:SP w #[.string (str m.path),.string (str m.target),.int .u8 (m.kind.toNat:Int),.int .i64 m.mode,.int .i64 (u:Int),.int .i64 (g:Int),.int .i64 (t:Int),.slice p bl c] (HC m.path m.target m.kind m.mode (u:Int) (g:Int) (t:Int) (bl:Int)) [] W1:=by
  rw[←dG];have G:=fun(w:World) (o:Obj)=>World.size_alloc w o
  have b1:=ao.new (w.alloc (.cells #[.string (str m.path),.string (str m.target),.int .u8 (m.kind.toNat:Int),.int .i64 m.mode,.int .i64 (u:Int),.int .i64 (g:Int),.int .i64 (t:Int),.slice p bl c] 48)) 66 #[.string ⟨#[]⟩,.string ⟨#[]⟩,.int .u8 0,.int .i64 0,.int .i64 0,.int .i64 0,.int .i64 0,.int .i64 0,.bool false];rw[G]at b1;obtain⟨V1,U⟩:∃V1,(w.alloc (.cells #[.string (str m.path),.string (str m.target),.int .u8 (m.kind.toNat:Int),.int .i64 m.mode,.int .i64 (u:Int),.int .i64 (g:Int),.int .i64 (t:Int),.slice p bl c] 48)).alloc (.cells #[.string ⟨#[]⟩,.string ⟨#[]⟩,.int .u8 0,.int .i64 0,.int .i64 0,.int .i64 0,.int .i64 0,.int .i64 0,.bool false] 66)=V1:=⟨_,rfl⟩
  have H:V1.heap.size=w.heap.size+2:=by rw[←U,G,G]
  have m1:ao V1 w.heap.size 48 #[.string (str m.path),.string (str m.target),.int .u8 (m.kind.toNat:Int),.int .i64 m.mode,.int .i64 (u:Int),.int .i64 (g:Int),.int .i64 (t:Int),.slice p bl c]:=by rw[←U];exact(ao.new w _ _).alloc _
  have E:Below w.heap.size w V1:=by rw[←U];exact((Below.refl _ w).alloc (Qk _) _).alloc (by simp) _
  rw[U]at b1⊢;have B:=ao.new V1 66 (HC m.path m.target m.kind m.mode (u:Int) (g:Int) (t:Int) (bl:Int));rw[H]at B;have b3:=ao.new (V1.alloc (.cells (HC m.path m.target m.kind m.mode (u:Int) (g:Int) (t:Int) (bl:Int)) 66)) 64 #[.slice none 0 0];rw[G,H]at b3;have b4:=ao.new ((V1.alloc (.cells (HC m.path m.target m.kind m.mode (u:Int) (g:Int) (t:Int) (bl:Int)) 66)).alloc (.cells #[.slice none 0 0] 64)) 189 #[.func (.func 120) #[] #[.pointer (some ⟨w.heap.size+3,0,none⟩)]];rw[G,G,H]at b4;exact⟨((E.alloc E.size _).alloc (E.alloc E.size _).size _).alloc ((E.alloc E.size _).alloc (E.alloc E.size _).size _).size _,((m1.alloc _).alloc _).alloc _,((b1.alloc _).alloc _).alloc _,(B.alloc _).alloc _,⟨_,b3.alloc _,World.ownsRow_nil _ _ _ _⟩,b4⟩
 have Qp:=Qh dG;have ZC:=Qh Z9;have L:=Qh hN;have WS:=Qh (And.intro Hf zX);have JF:=Qh (And.intro lq (And.intro uP J));have X:=Qh (And.intro l1 (And.intro l2 (And.intro l3 l4)));obtain⟨cx,cy,XY⟩:=Mv m.path;rw[Jn]at XY;have HCV:=Qh XY;have Em:=Qh M;have nY:=Qh W;have Vx:=Qh O;have BG:=Qh Y;have WK:=Qh KV;have hmf:∀(fn:Fn) (first cap:Array Value) (w:World),(Instr.makeFunc fn first cap).run Tryz.prog w=.ok (.func fn first cap) w:=fun _ _ _ _=>rfl
 clear Z9 hN hg jy dG Hf zX XY hu R V lq uP J Jn T N Bt M W O Y KV l1 l2 l3 l4
 go_enter Tryz.func81,Tryz.ntmps81
 have E1:Hid ((if A=true then(HC m.path m.target m.kind m.mode (u:Int) (g:Int) (t:Int) (bl:Int)).setIfInBounds 0 (.string (str bp))else(HC m.path m.target m.kind m.mode (u:Int) (g:Int) (t:Int) (bl:Int)))=(HC (if A=true then bp else m.path) m.target m.kind m.mode (u:Int) (g:Int) (t:Int) (bl:Int))):=Qh (by split<;>simp[HC]);have E2:Hid ((if ll=true then(HC (if A=true then bp else m.path) m.target m.kind m.mode (u:Int) (g:Int) (t:Int) (bl:Int)).setIfInBounds 1 (.string (str bp))else(HC (if A=true then bp else m.path) m.target m.kind m.mode (u:Int) (g:Int) (t:Int) (bl:Int)))=(HC (if A=true then bp else m.path) (if ll=true then bp else m.target) m.kind m.mode (u:Int) (g:Int) (t:Int) (bl:Int))):=Qh (by split<;>simp[HC]);have E3:Hid ((if 2097151<u then(HC (if A=true then bp else m.path) (if ll=true then bp else m.target) m.kind m.mode (u:Int) (g:Int) (t:Int) (bl:Int)).setIfInBounds 4 (.int .i64 0)else(HC (if A=true then bp else m.path) (if ll=true then bp else m.target) m.kind m.mode (u:Int) (g:Int) (t:Int) (bl:Int)))=(HC (if A=true then bp else m.path) (if ll=true then bp else m.target) m.kind m.mode (if 2097151<u then 0 else(u:Int)) (g:Int) (t:Int) (bl:Int))):=Qh (by split<;>simp[HC]);have E4:Hid ((if 2097151<g then(HC (if A=true then bp else m.path) (if ll=true then bp else m.target) m.kind m.mode (if 2097151<u then 0 else(u:Int)) (g:Int) (t:Int) (bl:Int)).setIfInBounds 5 (.int .i64 0)else(HC (if A=true then bp else m.path) (if ll=true then bp else m.target) m.kind m.mode (if 2097151<u then 0 else(u:Int)) (g:Int) (t:Int) (bl:Int)))=(HC (if A=true then bp else m.path) (if ll=true then bp else m.target) m.kind m.mode (if 2097151<u then 0 else(u:Int)) (if 2097151<g then 0 else(g:Int)) (t:Int) (bl:Int))):=Qh (by split<;>simp[HC])
 have E5:Hid ((if 8589934591<t then(HC (if A=true then bp else m.path) (if ll=true then bp else m.target) m.kind m.mode (if 2097151<u then 0 else(u:Int)) (if 2097151<g then 0 else(g:Int)) (t:Int) (bl:Int)).setIfInBounds 6 (.int .i64 0)else(HC (if A=true then bp else m.path) (if ll=true then bp else m.target) m.kind m.mode (if 2097151<u then 0 else(u:Int)) (if 2097151<g then 0 else(g:Int)) (t:Int) (bl:Int)))=(HC (if A=true then bp else m.path) (if ll=true then bp else m.target) m.kind m.mode (if 2097151<u then 0 else(u:Int)) (if 2097151<g then 0 else(g:Int)) (if 8589934591<t then 0 else(t:Int)) (bl:Int))):=Qh (by split<;>simp[HC]);go_upto_region 6 with fail;rw[Qp.out];have y0:=ZC.out.mem.cell 0;simp only[Qc,Qa]at y0;go_wp2_with fail;refine(zO (str m.path) W1 (by rw[au];have:=WS.out.1;omega)).mono ?_;rw[bg,HCV.out];rintro e w2 ⟨rfl,dt⟩;have ly:=Qh (ZC.out.kept dt);have Zy:=Qh (L.out.below ly.out.bel);clear dt y0;go_wp2_with fail;refine(qo w w2 #[.string (str m.path),.string (str m.target),.int .u8 (m.kind.toNat:Int),.int .i64 m.mode,.int .i64 (u:Int),.int .i64 (g:Int),.int .i64 (t:Int),.slice p bl c] (HC m.path m.target m.kind m.mode (u:Int) (g:Int) (t:Int) (bl:Int)) (HC (if A=true then bp else m.path) m.target m.kind m.mode (u:Int) (g:Int) (t:Int) (bl:Int)) [] RV 0 (aI 4) m.path b0 A ly.out (by show 0<9;decide) rfl HLP.out E1.out Em.out (by have:=WS.out.1;omega) (by simp)).mono ?_;rintro e w3 ⟨rfl,hs⟩;have Sh:=Qh hs;clear hs;have y1:=Sh.out.mem.cell 1;simp only[Qc,Qa,Qb]at y1;go_wp2_with fail
 refine(qo w w3 #[.string (str m.path),.string (str m.target),.int .u8 (m.kind.toNat:Int),.int .i64 m.mode,.int .i64 (u:Int),.int .i64 (g:Int),.int .i64 (t:Int),.slice p bl c] (HC (if A=true then bp else m.path) m.target m.kind m.mode (u:Int) (g:Int) (t:Int) (bl:Int)) (HC (if A=true then bp else m.path) (if ll=true then bp else m.target) m.kind m.mode (u:Int) (g:Int) (t:Int) (bl:Int)) RV RW 1 (aI 5) m.target f1 ll Sh.out (by show 1<9;decide) rfl Jz.out E2.out nY.out (by have:=WS.out.2;omega) (by have:=X.out.1;omega)).mono ?_;rintro e w4 ⟨rfl,hs⟩;have Si:=Qh hs;clear hs y1 X0;have HN4:=Qh (L.out.below Si.out.bel);go_wp2_with fail;refine(jU w w4 #[.string (str m.path),.string (str m.target),.int .u8 (m.kind.toNat:Int),.int .i64 m.mode,.int .i64 (u:Int),.int .i64 (g:Int),.int .i64 (t:Int),.slice p bl c] (HC (if A=true then bp else m.path) (if ll=true then bp else m.target) m.kind m.mode (u:Int) (g:Int) (t:Int) (bl:Int)) (HC (if A=true then bp else m.path) (if ll=true then bp else m.target) m.kind m.mode (if 2097151<u then 0 else(u:Int)) (g:Int) (t:Int) (bl:Int)) RW RX 4 (aI 0) u 2097151 Si.out (by show 4<9;decide) rfl E3.out Vx.out JF.out.1 (by have:=X.out.2.1;omega) HN4.out).mono ?_;rintro e w5 ⟨rfl,hs⟩;have Qm:=Qh hs;clear hs;have Wx:=Qh (L.out.below Qm.out.bel);go_wp2_with fail;refine(jU w w5 #[.string (str m.path),.string (str m.target),.int .u8 (m.kind.toNat:Int),.int .i64 m.mode,.int .i64 (u:Int),.int .i64 (g:Int),.int .i64 (t:Int),.slice p bl c] (HC (if A=true then bp else m.path) (if ll=true then bp else m.target) m.kind m.mode (if 2097151<u then 0 else(u:Int)) (g:Int) (t:Int) (bl:Int)) (HC (if A=true then bp else m.path) (if ll=true then bp else m.target) m.kind m.mode (if 2097151<u then 0 else(u:Int)) (if 2097151<g then 0 else(g:Int)) (t:Int) (bl:Int)) RX RY 5 (aI 1) g 2097151 Qm.out (by show 5<9;decide) rfl E4.out BG.out JF.out.2.1 (by have:=X.out.2.2.1;omega) Wx.out).mono ?_;rintro e w6 ⟨rfl,hs⟩;have ZD:=Qh hs;clear hs;have Wy:=Qh (L.out.below ZD.out.bel);go_wp2_with fail
 refine(jU w w6 #[.string (str m.path),.string (str m.target),.int .u8 (m.kind.toNat:Int),.int .i64 m.mode,.int .i64 (u:Int),.int .i64 (g:Int),.int .i64 (t:Int),.slice p bl c] (HC (if A=true then bp else m.path) (if ll=true then bp else m.target) m.kind m.mode (if 2097151<u then 0 else(u:Int)) (if 2097151<g then 0 else(g:Int)) (t:Int) (bl:Int)) (HC (if A=true then bp else m.path) (if ll=true then bp else m.target) m.kind m.mode (if 2097151<u then 0 else(u:Int)) (if 2097151<g then 0 else(g:Int)) (if 8589934591<t then 0 else(t:Int)) (bl:Int)) RY Wf 6 (aI 2) t 8589934591 ZD.out (by show 6<9;decide) rfl E5.out WK.out JF.out.2.2 (by have:=X.out.2.2.2;omega) Wy.out).mono ?_;rintro e w7 ⟨rfl,hs⟩;have hH:=HH5.out;obtain⟨Z,I⟩:∃x,(if A=true then bp else m.path)=x:=⟨_,rfl⟩
 obtain⟨f,ZU⟩:∃x,(if ll=true then bp else m.target)=x:=⟨_,rfl⟩
 obtain⟨l,ZV⟩:∃x:Int,(if 2097151<u then 0 else(u:Int))=x:=⟨_,rfl⟩
 obtain⟨y,ZW⟩:∃x:Int,(if 2097151<g then 0 else(g:Int))=x:=⟨_,rfl⟩
 obtain⟨z,ZX⟩:∃x:Int,(if 8589934591<t then 0 else(t:Int))=x:=⟨_,rfl⟩
 rw[I,ZU,ZV,ZW,ZX]at hs hH;rw[←BH.out]at hs;have ZE:=Qh hs;have HHF:=Qh hH;obtain⟨v,hl,cJ⟩:=hs.ls;obtain⟨q,d,rfl,_,_,_⟩:=ml cJ;obtain⟨n,hn⟩:∃n,(aO m).length=n:=⟨_,rfl⟩
 rw[hn]at hl;have q0:=hl.cell 0;simp only[Qc,Qa]at q0;have HL:=Qh hl;have D:=hs.hd;have z0:=D.cell 0;have H:=D.cell 1;have z2:=D.cell 2;have z3:=D.cell 3;have z4:=D.cell 4;have z5:=D.cell 5;have z6:=D.cell 6;have z7:=D.cell 7;have z8:=D.cell 8;simp only[HC,Qc,Qa,Qb]at z0 H z2 z3 z4 z5 z6 z7 z8;have B:=hs.res;have r0:=B.cell 0;have r1:=B.cell 1;have r2:=B.cell 2;have r3:=B.cell 3;have r4:=B.cell 4;have r5:=B.cell 5;have r6:=B.cell 6;have r7:=B.cell 7;have r8:=B.cell 8;have f0:=B.frozen 0;have f1':=B.frozen 1;have f2:=B.frozen 2;have f3:=B.frozen 3;have f4:=B.frozen 4;have f5:=B.frozen 5;have f6:=B.frozen 6;have f7:=B.frozen 7;have f8:=B.frozen 8;simp only[aa,bI,Qc,Qa,Qb]at r0 r1 r2 r3 r4 r5 r6 r7 r8;clear hs hl cJ D B I ZU ZV ZW ZX hH hn;go_upto_region 12 with fail
 go_region
 all_goals
  clear r0 r1 r2 r3 r4 r5 r6 r7 r8 f0 f1' f2 f3 f4 f5 f6 f7 f8 z0 H z2 z3 z4 z5 z6 z7 z8 q0;go_wp2;have Mz:=Qh (lI ZE.out.res rfl (.string (str Z)) (.string (str f)) (.int .u8 (m.kind.toNat:Int)) (.int .i64 m.mode) (.int .i64 l) (.int .i64 y) (.int .i64 z) (.int .i64 (bl:Int)) (.bool false)).drew;have Vt:=Qh (qI (w:=w7) (w.heap.size+1) (.string (str Z)) (.string (str f)) (.int .u8 (m.kind.toNat:Int)) (.int .i64 m.mode) (.int .i64 l) (.int .i64 y) (.int .i64 z) (.int .i64 (bl:Int)) (.bool false)).drew;obtain⟨W8,hW8⟩:∃W8,(((((((((w7.setCell ⟨w.heap.size+1,0,none⟩ (.string (str Z))).setCell ⟨w.heap.size+1,1,none⟩ (.string (str f))).setCell ⟨w.heap.size+1,2,none⟩ (.int .u8 (m.kind.toNat:Int))).setCell ⟨w.heap.size+1,3,none⟩ (.int .i64 m.mode)).setCell ⟨w.heap.size+1,4,none⟩ (.int .i64 l)).setCell ⟨w.heap.size+1,5,none⟩ (.int .i64 y)).setCell ⟨w.heap.size+1,6,none⟩ (.int .i64 z)).setCell ⟨w.heap.size+1,7,none⟩ (.int .i64 (bl:Int))).setCell ⟨w.heap.size+1,8,none⟩ (.bool false)).drew=W8:=⟨_,rfl⟩
  rw[hW8]at Mz Vt⊢;have My:ao W8 (w.heap.size+1) 66 (aa (bh m)):=by rw[HHF.out];exact Mz.out
  refine bodyPost_ret (IE rfl _ _ (w.heap.size+1) (.slice q n d) rfl rfl (bh m) My) rfl ?_;obtain⟨e1,e2,e3,e4,e5⟩:=ZE.out.done Vt.out HL.out;exact⟨q,d,by rw[e1],e2,e3,e4,e5⟩
end Wr
end Go.Proofs.YtdhibldkldlfpaaGreatDoor
