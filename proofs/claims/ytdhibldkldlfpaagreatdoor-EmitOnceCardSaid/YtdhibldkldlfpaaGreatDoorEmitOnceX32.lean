/- Merged. -/
import Derived.Test.YtdhibldkldlfpaaGreatDoorEmitOnceX31
import Derived.Laws.EntriesVeiled
namespace Go.Proofs.YtdhibldkldlfpaaGreatDoor
set_option linter.unusedVariables false
set_option maxHeartbeats 4000000
set_option maxRecDepth 100000
namespace Wr
open Go.ChangeShapes Go.WideShapes Go.ChangeAt Go.RowKit Base bJ cr Bk Hp Head Rec Attr Mem Go.Lib
variable {w:World}
theorem KG (l:List UInt8):∃a b,Head.cutV l=.tuple #[.string a,.string b,.bool (fH l).isSome]:=by
 unfold Head.cutV
 cases fH l with
 |none=>exact⟨_,_,rfl⟩
 |some x=>exact⟨_,_,rfl⟩
def HC (a b:List UInt8) (k:UInt8) (md ui gi ti bl:Int):Array Value:=#[.string (str a),.string (str b),.int .u8 (k.toNat:Int),.int .i64 md,.int .i64 ui,.int .i64 gi,.int .i64 ti,.int .i64 bl,.bool false]
theorem oU {g:Nat} {cs:Array Value} (h:ao w g 66 cs) (hs:cs.size=9) (v0 v1 v2 v3 v4 v5 v6 v7 v8:Value):
 ao (((((((((w.setCell ⟨g,0,none⟩ v0).setCell ⟨g,1,none⟩ v1).setCell ⟨g,2,none⟩ v2).setCell ⟨g,3,none⟩ v3).setCell ⟨g,4,none⟩ v4).setCell ⟨g,5,none⟩ v5).setCell ⟨g,6,none⟩ v6).setCell ⟨g,7,none⟩ v7).setCell ⟨g,8,none⟩ v8) g 66 #[v0,v1,v2,v3,v4,v5,v6,v7,v8]:=by
 obtain⟨a0,A,a2,a3,a4,a5,B,D,E,rfl⟩:∃a0 A a2 a3 a4 a5 B D E,cs=#[a0,A,a2,a3,a4,a5,B,D,E]:=by
  obtain⟨l⟩:=cs
  match l,hs with
  |[a0,A,a2,a3,a4,a5,B,D,E],_=>exact⟨_,_,_,_,_,_,_,_,_,rfl⟩
 exact((((((((h.set 0 v0 (by show 0<9;decide)).set 1 v1 (by show 1<9;decide)).set 2 v2 (by show 2<9;decide)).set 3 v3 (by show 3<9;decide)).set 4 v4 (by show 4<9;decide)).set 5 v5 (by show 5<9;decide)).set 6 v6 (by show 6<9;decide)).set 7 v7 (by show 7<9;decide)).set 8 v8 (by show 8<9;decide)
theorem qa (g:Nat) (v0 v1 v2 v3 v4 v5 v6 v7 v8:Value):
 Kept (aw g) w (((((((((w.setCell ⟨g,0,none⟩ v0).setCell ⟨g,1,none⟩ v1).setCell ⟨g,2,none⟩ v2).setCell ⟨g,3,none⟩ v3).setCell ⟨g,4,none⟩ v4).setCell ⟨g,5,none⟩ v5).setCell ⟨g,6,none⟩ v6).setCell ⟨g,7,none⟩ v7).setCell ⟨g,8,none⟩ v8):=
 (((((((((Kept.refl (aw g) w).setCell (a:=⟨g,0,none⟩) (.inr rfl) v0).setCell (a:=⟨g,1,none⟩) (.inr rfl) v1).setCell (a:=⟨g,2,none⟩) (.inr rfl) v2).setCell (a:=⟨g,3,none⟩) (.inr rfl) v3).setCell (a:=⟨g,4,none⟩) (.inr rfl) v4).setCell (a:=⟨g,5,none⟩) (.inr rfl) v5).setCell (a:=⟨g,6,none⟩) (.inr rfl) v6).setCell (a:=⟨g,7,none⟩) (.inr rfl) v7).setCell (a:=⟨g,8,none⟩) (.inr rfl) v8
theorem GA {fn:Func} (hf:fn.results=#[.cell 2 66,.tmp 3]) (tmps:Array Value) (w:World) (g:Nat) (v:Value) (ht:tmps.getD 2 undef=.pointer (some ⟨g,0,none⟩)) (hv:tmps.getD 3 undef=v)
 (h:ak) (hb:ao w g 66 (aa h)):(results fn tmps).run Tryz.prog w=.ok (.tuple #[.agg (aa h),v]) w:=by
 have hl:=me w g (str h.name) (str h.link) _ _ _ _ _ _ _ hb;have B:tmps[2]?.getD undef=.pointer (some ⟨g,0,none⟩):=by simpa using ht
 have A:tmps[3]?.getD undef=v:=by simpa using hv
 simp only[results,hf];simp[Result.andThen,B,A,asAddr,hl,aa]
def Eh (w:World) (m:aq) (e:Ending) (w':World):Prop:=
 ∃q d,e=.returned (.tuple #[.agg (aa (aV m)),.slice q (aJ m).length d])∧(aJ m).length≤d∧d≤maxLen∧bN w' q (aJ m).length (aJ m)∧Below w.heap.size w w'
theorem SP.done {wx wy:World} {M H:Array Value} {m:aq} (h:SP w M H (aJ m) wx) (hk:Kept (aw (w.heap.size+1)) wx wy) {q:Option Addr} {n d:Nat} (hl:ao wx (w.heap.size+3) 64 #[.slice q n d]):
 (aJ m).length=n∧(aJ m).length≤d∧d≤maxLen∧bN wy q (aJ m).length (aJ m)∧Below w.heap.size w wy:=by
 obtain⟨v,h1,B⟩:=h.ls
 have e:v=.slice q n d:=by
  have c1:=h1.cell 0;rw[hl.cell 0]at c1
  simpa using c1.symm
 have D:=b6 B hk (fun k J e=>by
  have:=(B.lt k J).1;have:k=w.heap.size+1:=e
  omega)
 obtain⟨N,L,A,E,G,I⟩:=lN D;rw[e]at A
 cases A
 exact⟨rfl,E,G,I,h.bel.trans (hk.below h.bel.size (fun k hk=>by have:k=w.heap.size+1:=hk;omega))⟩
theorem Gx (m:aq):aJ m=((((([]:bM)++(if gS m then[(aF 4,m.path)]else[]))++(if fD m then[(aF 5,m.target)]else[]))++(if 2097151<m.uid then[(aF 0,aG m.uid.toNat)]else[]))++
 (if 2097151<m.gid then[(aF 1,aG m.gid.toNat)]else[]))++(if 8589934591<m.time then[(aF 2,aG m.time.toNat)]else[]):=by
 rw[List.nil_append];rfl
theorem GL (m:aq) (p:Option Addr) (c:Nat) (w:World) (hg:cG m) (hN:Need w):
 Calls Tryz.prog 81 #[.agg (cI m p c)] w (Eh w m):=by
 have L2:=hg.qg;have DD:=hg.vJ;obtain⟨bl,jP⟩:∃bl,m.body.length=bl:=⟨_,rfl⟩
 obtain⟨u,hu⟩:∃u:Nat,m.uid=(u:Int):=⟨m.uid.toNat,by have:=hg.uid;omega⟩
 obtain⟨g,O⟩:∃g:Nat,m.gid=(g:Int):=⟨m.gid.toNat,by have:=hg.gid;omega⟩
 obtain⟨t,U⟩:∃t:Nat,m.time=(t:Int):=⟨m.time.toNat,by have:=hg.time;omega⟩
 have j5:u≤9223372036854775807:=by have:=hg.uid;omega
 have tT:g≤9223372036854775807:=by have:=hg.gid;omega
 have Y3:t≤9223372036854775807:=by have:=hg.time;omega
 obtain⟨b0,Hj⟩:∃b,(fH m.path).isSome=b:=⟨_,rfl⟩
 obtain⟨A,R⟩:∃b,gS m=b:=⟨_,rfl⟩
 obtain⟨ll,M⟩:∃b,fD m=b:=⟨_,rfl⟩
 obtain⟨f1,z⟩:∃f1,decide (m.target.length≤100)=f1:=⟨_,rfl⟩
 have ZA:Hid ((!b0||!jO m.path)=A):=Qh (by
  rw[←R,←Hj];unfold gS
  cases fH m.path<;>rfl)
 have Hx:Hid ((!f1||!jO m.target)=ll):=Qh (by
  rw[←M,←z];unfold fD
  congr 1
  by_cases h:m.target.length≤100
  ·simp[h]
  ·simp[h];omega)
 have VY:decide (((str m.target).size:Int)≤100)=f1:=by
  rw[←z,aA]
  by_cases h:m.target.length≤100
  ·rw[decide_eq_true h,decide_eq_true (by omega)]
  ·rw[decide_eq_false h,decide_eq_false (by omega)]
 obtain⟨PJ,J⟩:∃PJ:bM,(if A=true then[]++[(aF 4,m.path)]else[])=PJ:=⟨_,rfl⟩
 obtain⟨PK,V⟩:∃PK:bM,(if ll=true then PJ++[(aF 5,m.target)]else PJ)=PK:=⟨_,rfl⟩
 obtain⟨PL,N⟩:∃PL:bM,(if 2097151<u then PK++[(aF 0,aG u)]else PK)=PL:=⟨_,rfl⟩
 obtain⟨PN,W⟩:∃PN:bM,(if 2097151<g then PL++[(aF 1,aG g)]else PL)=PN:=⟨_,rfl⟩
 obtain⟨Ul,Jl⟩:∃Ul:bM,(if 8589934591<t then PN++[(aF 2,aG t)]else PN)=Ul:=⟨_,rfl⟩
 have l1:PJ.length≤1:=by rw[←J];split<;>simp
 have l2:PK.length≤2:=by rw[←V];split;(rw[Qf];simp only[List.length_cons,List.length_nil];omega);omega
 have l3:PL.length≤3:=by rw[←N];split;(rw[Qf];simp only[List.length_cons,List.length_nil];omega);omega
 have l4:PN.length≤4:=by rw[←W];split;(rw[Qf];simp only[List.length_cons,List.length_nil];omega);omega
 have Af:Hid (aJ m=Ul):=Qh (by
  have e:∀(c:Prop) [Decidable c] (a:bM) (r:List UInt8 × List UInt8),a++(if c then[r]else[])=if c then a++[r]else a:=fun c _ a r=>by split<;>simp
  have c1:((2097151:Int)<(u:Int))↔2097151<u:=by omega
  have c2:((2097151:Int)<(g:Int))↔2097151<g:=by omega
  have c3:((8589934591:Int)<(t:Int))↔8589934591<t:=by omega
  rw[Gx,e,e,e,e,e,R,M,hu,O,U,←Jl,←W,←N,←V,←J]
  simp only[Int.toNat_natCast,c1,c2,c3])
 have Zr:Hid (aa (aV m)=HC (if A=true then aY else m.path) (if ll=true then aY else m.target) m.kind m.mode (if 2097151<u then 0 else(u:Int)) (if 2097151<g then 0 else(g:Int)) (if 8589934591<t then 0 else(t:Int)) (bl:Int)):=Qh (by
  unfold aV HC aa;rw[R,M,hu,O,U,jP];have c1:((2097151:Int)<(u:Int))↔2097151<u:=by omega
  have c2:((2097151:Int)<(g:Int))↔2097151<g:=by omega
  have c3:((8589934591:Int)<(t:Int))↔8589934591<t:=by omega
  simp only[c1,c2,c3])
 unfold cI;rw[jP,hu,O,U]
 obtain⟨W1,c9⟩:∃W1,((((w.alloc (.cells #[.string (str m.path),.string (str m.target),.int .u8 (m.kind.toNat:Int),.int .i64 m.mode,.int .i64 (u:Int),.int .i64 (g:Int),.int .i64 (t:Int),.slice p bl c] 48)).alloc
  (.cells #[.string ⟨#[]⟩,.string ⟨#[]⟩,.int .u8 0,.int .i64 0,.int .i64 0,.int .i64 0,.int .i64 0,.int .i64 0,.bool false] 66)).alloc
  (.cells #[.string (str m.path),.string (str m.target),.int .u8 (m.kind.toNat:Int),.int .i64 m.mode,.int .i64 (u:Int),.int .i64 (g:Int),.int .i64 (t:Int),.int .i64 (bl:Int),.bool false] 66)).alloc
  (.cells #[.slice none 0 0] 64)).alloc (.cells #[.func (.func 120) #[] #[.pointer (some ⟨w.heap.size+3,0,none⟩)]] 189)=W1:=⟨_,rfl⟩
 have Ya:SP w #[.string (str m.path),.string (str m.target),.int .u8 (m.kind.toNat:Int),.int .i64 m.mode,.int .i64 (u:Int),.int .i64 (g:Int),.int .i64 (t:Int),.slice p bl c] (HC m.path m.target m.kind m.mode (u:Int) (g:Int) (t:Int) (bl:Int)) [] W1:=by
  rw[←c9];have G:=fun(w:World) (o:Obj)=>World.size_alloc w o
  have b1:=ao.new (w.alloc (.cells #[.string (str m.path),.string (str m.target),.int .u8 (m.kind.toNat:Int),.int .i64 m.mode,.int .i64 (u:Int),.int .i64 (g:Int),.int .i64 (t:Int),.slice p bl c] 48)) 66 #[.string ⟨#[]⟩,.string ⟨#[]⟩,.int .u8 0,.int .i64 0,.int .i64 0,.int .i64 0,.int .i64 0,.int .i64 0,.bool false];rw[G]at b1;obtain⟨V1,T⟩:∃V1,(w.alloc (.cells #[.string (str m.path),.string (str m.target),.int .u8 (m.kind.toNat:Int),.int .i64 m.mode,.int .i64 (u:Int),.int .i64 (g:Int),.int .i64 (t:Int),.slice p bl c] 48)).alloc (.cells #[.string ⟨#[]⟩,.string ⟨#[]⟩,.int .u8 0,.int .i64 0,.int .i64 0,.int .i64 0,.int .i64 0,.int .i64 0,.bool false] 66)=V1:=⟨_,rfl⟩
  have H:V1.heap.size=w.heap.size+2:=by rw[←T,G,G]
  have m1:ao V1 w.heap.size 48 #[.string (str m.path),.string (str m.target),.int .u8 (m.kind.toNat:Int),.int .i64 m.mode,.int .i64 (u:Int),.int .i64 (g:Int),.int .i64 (t:Int),.slice p bl c]:=by rw[←T];exact(ao.new w _ _).alloc _
  have E:Below w.heap.size w V1:=by rw[←T];exact((Below.refl _ w).alloc (Qk _) _).alloc (by simp) _
  rw[T]at b1⊢;have B:=ao.new V1 66 (HC m.path m.target m.kind m.mode (u:Int) (g:Int) (t:Int) (bl:Int));rw[H]at B;have b3:=ao.new (V1.alloc (.cells (HC m.path m.target m.kind m.mode (u:Int) (g:Int) (t:Int) (bl:Int)) 66)) 64 #[.slice none 0 0];rw[G,H]at b3;have b4:=ao.new ((V1.alloc (.cells (HC m.path m.target m.kind m.mode (u:Int) (g:Int) (t:Int) (bl:Int)) 66)).alloc (.cells #[.slice none 0 0] 64)) 189 #[.func (.func 120) #[] #[.pointer (some ⟨w.heap.size+3,0,none⟩)]];rw[G,G,H]at b4;exact⟨((E.alloc E.size _).alloc (E.alloc E.size _).size _).alloc ((E.alloc E.size _).alloc (E.alloc E.size _).size _).size _,((m1.alloc _).alloc _).alloc _,((b1.alloc _).alloc _).alloc _,(B.alloc _).alloc _,⟨_,b3.alloc _,World.ownsRow_nil _ _ _ _⟩,b4⟩
 have N8:=Qh c9;have XE:=Qh Ya;have L:=Qh hN;have U3:=Qh (And.intro L2 DD);have C9:=Qh (And.intro j5 (And.intro tT Y3));have X:=Qh (And.intro l1 (And.intro l2 (And.intro l3 l4)));obtain⟨cx,cy,VW⟩:=KG m.path;rw[Hj]at VW;have Zl:=Qh VW;have Hc:=Qh J;have oQ:=Qh V;have TA:=Qh N;have Ae:=Qh W;have UW:=Qh Jl;have hmf:∀(fn:Fn) (first cap:Array Value) (w:World),(Instr.makeFunc fn first cap).run Tryz.prog w=.ok (.func fn first cap) w:=fun _ _ _ _=>rfl
 clear Ya hN hg jP c9 L2 DD VW hu O U j5 tT Y3 Hj R M z J V N W Jl l1 l2 l3 l4
 go_enter Tryz.func81,Tryz.ntmps81
 have E1:Hid ((if A=true then(HC m.path m.target m.kind m.mode (u:Int) (g:Int) (t:Int) (bl:Int)).setIfInBounds 0 (.string (str aY))else(HC m.path m.target m.kind m.mode (u:Int) (g:Int) (t:Int) (bl:Int)))=(HC (if A=true then aY else m.path) m.target m.kind m.mode (u:Int) (g:Int) (t:Int) (bl:Int))):=Qh (by split<;>simp[HC]);have E2:Hid ((if ll=true then(HC (if A=true then aY else m.path) m.target m.kind m.mode (u:Int) (g:Int) (t:Int) (bl:Int)).setIfInBounds 1 (.string (str aY))else(HC (if A=true then aY else m.path) m.target m.kind m.mode (u:Int) (g:Int) (t:Int) (bl:Int)))=(HC (if A=true then aY else m.path) (if ll=true then aY else m.target) m.kind m.mode (u:Int) (g:Int) (t:Int) (bl:Int))):=Qh (by split<;>simp[HC]);have E3:Hid ((if 2097151<u then(HC (if A=true then aY else m.path) (if ll=true then aY else m.target) m.kind m.mode (u:Int) (g:Int) (t:Int) (bl:Int)).setIfInBounds 4 (.int .i64 0)else(HC (if A=true then aY else m.path) (if ll=true then aY else m.target) m.kind m.mode (u:Int) (g:Int) (t:Int) (bl:Int)))=(HC (if A=true then aY else m.path) (if ll=true then aY else m.target) m.kind m.mode (if 2097151<u then 0 else(u:Int)) (g:Int) (t:Int) (bl:Int))):=Qh (by split<;>simp[HC]);have E4:Hid ((if 2097151<g then(HC (if A=true then aY else m.path) (if ll=true then aY else m.target) m.kind m.mode (if 2097151<u then 0 else(u:Int)) (g:Int) (t:Int) (bl:Int)).setIfInBounds 5 (.int .i64 0)else(HC (if A=true then aY else m.path) (if ll=true then aY else m.target) m.kind m.mode (if 2097151<u then 0 else(u:Int)) (g:Int) (t:Int) (bl:Int)))=(HC (if A=true then aY else m.path) (if ll=true then aY else m.target) m.kind m.mode (if 2097151<u then 0 else(u:Int)) (if 2097151<g then 0 else(g:Int)) (t:Int) (bl:Int))):=Qh (by split<;>simp[HC])
 have E5:Hid ((if 8589934591<t then(HC (if A=true then aY else m.path) (if ll=true then aY else m.target) m.kind m.mode (if 2097151<u then 0 else(u:Int)) (if 2097151<g then 0 else(g:Int)) (t:Int) (bl:Int)).setIfInBounds 6 (.int .i64 0)else(HC (if A=true then aY else m.path) (if ll=true then aY else m.target) m.kind m.mode (if 2097151<u then 0 else(u:Int)) (if 2097151<g then 0 else(g:Int)) (t:Int) (bl:Int)))=(HC (if A=true then aY else m.path) (if ll=true then aY else m.target) m.kind m.mode (if 2097151<u then 0 else(u:Int)) (if 2097151<g then 0 else(g:Int)) (if 8589934591<t then 0 else(t:Int)) (bl:Int))):=Qh (by split<;>simp[HC]);go_upto_region 6 with fail;rw[N8.out];have y0:=XE.out.mem.cell 0;simp only[Qc,Qa]at y0;go_wp2_with fail;refine(yC (str m.path) W1 (by rw[aA];have:=U3.out.1;omega)).mono ?_;rw[bg,Zl.out];rintro e w2 ⟨rfl,cU⟩;have my:=Qh (XE.out.kept cU);have Xz:=Qh (L.out.below my.out.bel);clear cU y0;go_wp2_with fail;refine(pJ w w2 #[.string (str m.path),.string (str m.target),.int .u8 (m.kind.toNat:Int),.int .i64 m.mode,.int .i64 (u:Int),.int .i64 (g:Int),.int .i64 (t:Int),.slice p bl c] (HC m.path m.target m.kind m.mode (u:Int) (g:Int) (t:Int) (bl:Int)) (HC (if A=true then aY else m.path) m.target m.kind m.mode (u:Int) (g:Int) (t:Int) (bl:Int)) [] PJ 0 (aF 4) m.path b0 A my.out (by show 0<9;decide) rfl ZA.out E1.out Hc.out (by have:=U3.out.1;omega) (by simp)).mono ?_;rintro e w3 ⟨rfl,hs⟩;have TD:=Qh hs;clear hs;have y1:=TD.out.mem.cell 1;simp only[Qc,Qa,Qb]at y1;go_wp2_with fail
 refine(pJ w w3 #[.string (str m.path),.string (str m.target),.int .u8 (m.kind.toNat:Int),.int .i64 m.mode,.int .i64 (u:Int),.int .i64 (g:Int),.int .i64 (t:Int),.slice p bl c] (HC (if A=true then aY else m.path) m.target m.kind m.mode (u:Int) (g:Int) (t:Int) (bl:Int)) (HC (if A=true then aY else m.path) (if ll=true then aY else m.target) m.kind m.mode (u:Int) (g:Int) (t:Int) (bl:Int)) PJ PK 1 (aF 5) m.target f1 ll TD.out (by show 1<9;decide) rfl Hx.out E2.out oQ.out (by have:=U3.out.2;omega) (by have:=X.out.1;omega)).mono ?_;rintro e w4 ⟨rfl,hs⟩;have P5:=Qh hs;clear hs y1 VY;have UJ:=Qh (L.out.below P5.out.bel);go_wp2_with fail;refine(jv w w4 #[.string (str m.path),.string (str m.target),.int .u8 (m.kind.toNat:Int),.int .i64 m.mode,.int .i64 (u:Int),.int .i64 (g:Int),.int .i64 (t:Int),.slice p bl c] (HC (if A=true then aY else m.path) (if ll=true then aY else m.target) m.kind m.mode (u:Int) (g:Int) (t:Int) (bl:Int)) (HC (if A=true then aY else m.path) (if ll=true then aY else m.target) m.kind m.mode (if 2097151<u then 0 else(u:Int)) (g:Int) (t:Int) (bl:Int)) PK PL 4 (aF 0) u 2097151 P5.out (by show 4<9;decide) rfl E3.out TA.out C9.out.1 (by have:=X.out.2.1;omega) UJ.out).mono ?_;rintro e w5 ⟨rfl,hs⟩;have N5:=Qh hs;clear hs;have UK:=Qh (L.out.below N5.out.bel);go_wp2_with fail;refine(jv w w5 #[.string (str m.path),.string (str m.target),.int .u8 (m.kind.toNat:Int),.int .i64 m.mode,.int .i64 (u:Int),.int .i64 (g:Int),.int .i64 (t:Int),.slice p bl c] (HC (if A=true then aY else m.path) (if ll=true then aY else m.target) m.kind m.mode (if 2097151<u then 0 else(u:Int)) (g:Int) (t:Int) (bl:Int)) (HC (if A=true then aY else m.path) (if ll=true then aY else m.target) m.kind m.mode (if 2097151<u then 0 else(u:Int)) (if 2097151<g then 0 else(g:Int)) (t:Int) (bl:Int)) PL PN 5 (aF 1) g 2097151 N5.out (by show 5<9;decide) rfl E4.out Ae.out C9.out.2.1 (by have:=X.out.2.2.1;omega) UK.out).mono ?_;rintro e w6 ⟨rfl,hs⟩;have XF:=Qh hs;clear hs;have Q0:=Qh (L.out.below XF.out.bel);go_wp2_with fail
 refine(jv w w6 #[.string (str m.path),.string (str m.target),.int .u8 (m.kind.toNat:Int),.int .i64 m.mode,.int .i64 (u:Int),.int .i64 (g:Int),.int .i64 (t:Int),.slice p bl c] (HC (if A=true then aY else m.path) (if ll=true then aY else m.target) m.kind m.mode (if 2097151<u then 0 else(u:Int)) (if 2097151<g then 0 else(g:Int)) (t:Int) (bl:Int)) (HC (if A=true then aY else m.path) (if ll=true then aY else m.target) m.kind m.mode (if 2097151<u then 0 else(u:Int)) (if 2097151<g then 0 else(g:Int)) (if 8589934591<t then 0 else(t:Int)) (bl:Int)) PN Ul 6 (aF 2) t 8589934591 XF.out (by show 6<9;decide) rfl E5.out UW.out C9.out.2.2 (by have:=X.out.2.2.2;omega) Q0.out).mono ?_;rintro e w7 ⟨rfl,hs⟩;have hH:=Zr.out;obtain⟨Y,I⟩:∃x,(if A=true then aY else m.path)=x:=⟨_,rfl⟩
 obtain⟨Z,XV⟩:∃x,(if ll=true then aY else m.target)=x:=⟨_,rfl⟩
 obtain⟨f,XW⟩:∃x:Int,(if 2097151<u then 0 else(u:Int))=x:=⟨_,rfl⟩
 obtain⟨l,XX⟩:∃x:Int,(if 2097151<g then 0 else(g:Int))=x:=⟨_,rfl⟩
 obtain⟨y,XY⟩:∃x:Int,(if 8589934591<t then 0 else(t:Int))=x:=⟨_,rfl⟩
 rw[I,XV,XW,XX,XY]at hs hH;rw[←Af.out]at hs;have XG:=Qh hs;have Zs:=Qh hH;obtain⟨v,hl,cO⟩:=hs.ls;obtain⟨q,d,rfl,_,_,_⟩:=lN cO;obtain⟨n,hn⟩:∃n,(aJ m).length=n:=⟨_,rfl⟩
 rw[hn]at hl;have q0:=hl.cell 0;simp only[Qc,Qa]at q0;have HL:=Qh hl;have D:=hs.hd;have z0:=D.cell 0;have H:=D.cell 1;have z2:=D.cell 2;have z3:=D.cell 3;have z4:=D.cell 4;have z5:=D.cell 5;have z6:=D.cell 6;have z7:=D.cell 7;have z8:=D.cell 8;simp only[HC,Qc,Qa,Qb]at z0 H z2 z3 z4 z5 z6 z7 z8;have B:=hs.res;have r0:=B.cell 0;have r1:=B.cell 1;have r2:=B.cell 2;have r3:=B.cell 3;have r4:=B.cell 4;have r5:=B.cell 5;have r6:=B.cell 6;have r7:=B.cell 7;have r8:=B.cell 8;have f0:=B.frozen 0;have f1':=B.frozen 1;have f2:=B.frozen 2;have f3:=B.frozen 3;have f4:=B.frozen 4;have f5:=B.frozen 5;have f6:=B.frozen 6;have f7:=B.frozen 7;have f8:=B.frozen 8;simp only[aa,br,Qc,Qa,Qb]at r0 r1 r2 r3 r4 r5 r6 r7 r8;clear hs hl cO D B I XV XW XX XY hH hn;go_upto_region 12 with fail
 go_region
 all_goals
  clear r0 r1 r2 r3 r4 r5 r6 r7 r8 f0 f1' f2 f3 f4 f5 f6 f7 f8 z0 H z2 z3 z4 z5 z6 z7 z8 q0;go_wp2;have PW:=Qh (oU XG.out.res rfl (.string (str Y)) (.string (str Z)) (.int .u8 (m.kind.toNat:Int)) (.int .i64 m.mode) (.int .i64 f) (.int .i64 l) (.int .i64 y) (.int .i64 (bl:Int)) (.bool false)).drew;have Tu:=Qh (qa (w:=w7) (w.heap.size+1) (.string (str Y)) (.string (str Z)) (.int .u8 (m.kind.toNat:Int)) (.int .i64 m.mode) (.int .i64 f) (.int .i64 l) (.int .i64 y) (.int .i64 (bl:Int)) (.bool false)).drew;obtain⟨W8,hW8⟩:∃W8,(((((((((w7.setCell ⟨w.heap.size+1,0,none⟩ (.string (str Y))).setCell ⟨w.heap.size+1,1,none⟩ (.string (str Z))).setCell ⟨w.heap.size+1,2,none⟩ (.int .u8 (m.kind.toNat:Int))).setCell ⟨w.heap.size+1,3,none⟩ (.int .i64 m.mode)).setCell ⟨w.heap.size+1,4,none⟩ (.int .i64 f)).setCell ⟨w.heap.size+1,5,none⟩ (.int .i64 l)).setCell ⟨w.heap.size+1,6,none⟩ (.int .i64 y)).setCell ⟨w.heap.size+1,7,none⟩ (.int .i64 (bl:Int))).setCell ⟨w.heap.size+1,8,none⟩ (.bool false)).drew=W8:=⟨_,rfl⟩
  rw[hW8]at PW Tu⊢;have K3:ao W8 (w.heap.size+1) 66 (aa (aV m)):=by rw[Zs.out];exact PW.out
  refine bodyPost_ret (GA rfl _ _ (w.heap.size+1) (.slice q n d) rfl rfl (aV m) K3) rfl ?_;obtain⟨e1,e2,e3,e4,e5⟩:=XG.out.done Tu.out HL.out;exact⟨q,d,by rw[e1],e2,e3,e4,e5⟩
end Wr
end Go.Proofs.YtdhibldkldlfpaaGreatDoor
