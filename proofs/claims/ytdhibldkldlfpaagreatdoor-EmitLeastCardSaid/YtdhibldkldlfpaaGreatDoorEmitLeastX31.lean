/- Merged. -/
import Derived.Test.YtdhibldkldlfpaaGreatDoorEmitLeastX30
import Derived.Laws.EntriesVeiled
namespace Go.Proofs.YtdhibldkldlfpaaGreatDoor
set_option linter.unusedVariables false
set_option maxHeartbeats 4000000
set_option maxRecDepth 100000
namespace Wr
open Go.ChangeShapes Go.WideShapes Go.ChangeAt Go.RowKit Base bJ cn Bk Hp Head Rec Attr Mem Go.Lib
variable {w:World}
theorem Mc (l:List UInt8):∃a b,Head.cutV l=.tuple #[.string a,.string b,.bool (gh l).isSome]:=by
 unfold Head.cutV
 cases gh l with
 |none=>exact⟨_,_,rfl⟩
 |some x=>exact⟨_,_,rfl⟩
def HC (a b:List UInt8) (k:UInt8) (md ui gi ti bl:Int):Array Value:=#[.string (str a),.string (str b),.int .u8 (k.toNat:Int),.int .i64 md,.int .i64 ui,.int .i64 gi,.int .i64 ti,.int .i64 bl,.bool false]
theorem lG {g:Nat} {cs:Array Value} (h:ao w g 66 cs) (hs:cs.size=9) (v0 v1 v2 v3 v4 v5 v6 v7 v8:Value):
 ao (((((((((w.setCell ⟨g,0,none⟩ v0).setCell ⟨g,1,none⟩ v1).setCell ⟨g,2,none⟩ v2).setCell ⟨g,3,none⟩ v3).setCell ⟨g,4,none⟩ v4).setCell ⟨g,5,none⟩ v5).setCell ⟨g,6,none⟩ v6).setCell ⟨g,7,none⟩ v7).setCell ⟨g,8,none⟩ v8) g 66 #[v0,v1,v2,v3,v4,v5,v6,v7,v8]:=by
 obtain⟨a0,A,a2,a3,a4,a5,B,D,E,rfl⟩:∃a0 A a2 a3 a4 a5 B D E,cs=#[a0,A,a2,a3,a4,a5,B,D,E]:=by
  obtain⟨l⟩:=cs
  match l,hs with
  |[a0,A,a2,a3,a4,a5,B,D,E],_=>exact⟨_,_,_,_,_,_,_,_,_,rfl⟩
 exact((((((((h.set 0 v0 (by show 0<9;decide)).set 1 v1 (by show 1<9;decide)).set 2 v2 (by show 2<9;decide)).set 3 v3 (by show 3<9;decide)).set 4 v4 (by show 4<9;decide)).set 5 v5 (by show 5<9;decide)).set 6 v6 (by show 6<9;decide)).set 7 v7 (by show 7<9;decide)).set 8 v8 (by show 8<9;decide)
theorem qB (g:Nat) (v0 v1 v2 v3 v4 v5 v6 v7 v8:Value):
 Kept (aA g) w (((((((((w.setCell ⟨g,0,none⟩ v0).setCell ⟨g,1,none⟩ v1).setCell ⟨g,2,none⟩ v2).setCell ⟨g,3,none⟩ v3).setCell ⟨g,4,none⟩ v4).setCell ⟨g,5,none⟩ v5).setCell ⟨g,6,none⟩ v6).setCell ⟨g,7,none⟩ v7).setCell ⟨g,8,none⟩ v8):=
 (((((((((Kept.refl (aA g) w).setCell (a:=⟨g,0,none⟩) (.inr rfl) v0).setCell (a:=⟨g,1,none⟩) (.inr rfl) v1).setCell (a:=⟨g,2,none⟩) (.inr rfl) v2).setCell (a:=⟨g,3,none⟩) (.inr rfl) v3).setCell (a:=⟨g,4,none⟩) (.inr rfl) v4).setCell (a:=⟨g,5,none⟩) (.inr rfl) v5).setCell (a:=⟨g,6,none⟩) (.inr rfl) v6).setCell (a:=⟨g,7,none⟩) (.inr rfl) v7).setCell (a:=⟨g,8,none⟩) (.inr rfl) v8
theorem Im {fn:Func} (hf:fn.results=#[.cell 2 66,.tmp 3]) (tmps:Array Value) (w:World) (g:Nat) (v:Value) (ht:tmps.getD 2 undef=.pointer (some ⟨g,0,none⟩)) (hv:tmps.getD 3 undef=v)
 (h:ak) (hb:ao w g 66 (aa h)):(results fn tmps).run Tryz.prog w=.ok (.tuple #[.agg (aa h),v]) w:=by
 have hl:=mP w g (str h.name) (str h.link) _ _ _ _ _ _ _ hb;have B:tmps[2]?.getD undef=.pointer (some ⟨g,0,none⟩):=by simpa using ht
 have A:tmps[3]?.getD undef=v:=by simpa using hv
 simp only[results,hf];simp[Result.andThen,B,A,asAddr,hl,aa]
def Fz (w:World) (m:av) (e:Ending) (w':World):Prop:=
 ∃q d,e=.returned (.tuple #[.agg (aa (bj m)),.slice q (aO m).length d])∧(aO m).length≤d∧d≤maxLen∧cd w' q (aO m).length (aO m)∧Below w.heap.size w w'
theorem SP.done {wx wy:World} {M H:Array Value} {m:av} (h:SP w M H (aO m) wx) (hk:Kept (aA (w.heap.size+1)) wx wy) {q:Option Addr} {n d:Nat} (hl:ao wx (w.heap.size+3) 64 #[.slice q n d]):
 (aO m).length=n∧(aO m).length≤d∧d≤maxLen∧cd wy q (aO m).length (aO m)∧Below w.heap.size w wy:=by
 obtain⟨v,h1,B⟩:=h.ls
 have e:v=.slice q n d:=by
  have c1:=h1.cell 0;rw[hl.cell 0]at c1
  simpa using c1.symm
 have D:=bN B hk (fun k J e=>by
  have:=(B.lt k J).1;have:k=w.heap.size+1:=e
  omega)
 obtain⟨N,L,A,E,G,I⟩:=mj D;rw[e]at A
 cases A
 exact⟨rfl,E,G,I,h.bel.trans (hk.below h.bel.size (fun k hk=>by have:k=w.heap.size+1:=hk;omega))⟩
theorem Ij (m:av):aO m=((((([]:ca)++(if iv m then[(aI 4,m.path)]else[]))++(if fY m then[(aI 5,m.target)]else[]))++(if 2097151<m.uid then[(aI 0,aJ m.uid.toNat)]else[]))++
 (if 2097151<m.gid then[(aI 1,aJ m.gid.toNat)]else[]))++(if 8589934591<m.time then[(aI 2,aJ m.time.toNat)]else[]):=by
 rw[List.nil_append];rfl
theorem Iz (m:av) (p:Option Addr) (c:Nat) (w:World) (hg:dh m) (hN:Need w):
 Calls Tryz.prog 81 #[.agg (cO m p c)] w (Fz w m):=by
 have G1:=hg.wC;have zB:=hg.AK;obtain⟨bl,iE⟩:∃bl,m.body.length=bl:=⟨_,rfl⟩
 obtain⟨u,hu⟩:∃u:Nat,m.uid=(u:Int):=⟨m.uid.toNat,by have:=hg.uid;omega⟩
 obtain⟨g,R⟩:∃g:Nat,m.gid=(g:Int):=⟨m.gid.toNat,by have:=hg.gid;omega⟩
 obtain⟨t,V⟩:∃t:Nat,m.time=(t:Int):=⟨m.time.toNat,by have:=hg.time;omega⟩
 have lj:u≤9223372036854775807:=by have:=hg.uid;omega
 have uD:g≤9223372036854775807:=by have:=hg.gid;omega
 have J:t≤9223372036854775807:=by have:=hg.time;omega
 obtain⟨b0,I7⟩:∃b,(gh m.path).isSome=b:=⟨_,rfl⟩
 obtain⟨A,T⟩:∃b,iv m=b:=⟨_,rfl⟩
 obtain⟨ll,N⟩:∃b,fY m=b:=⟨_,rfl⟩
 obtain⟨f1,l⟩:∃f1,decide (m.target.length≤100)=f1:=⟨_,rfl⟩
 have HLP:Hid ((!b0||!j7 m.path)=A):=Qh (by
  rw[←T,←I7];unfold iv
  cases gh m.path<;>rfl)
 have Jk:Hid ((!f1||!j7 m.target)=ll):=Qh (by
  rw[←N,←l];unfold fY
  congr 1
  by_cases h:m.target.length≤100
  ·simp[h]
  ·simp[h];omega)
 have XC:decide (((str m.target).size:Int)≤100)=f1:=by
  rw[←l,aq]
  by_cases h:m.target.length≤100
  ·rw[decide_eq_true h,decide_eq_true (by omega)]
  ·rw[decide_eq_false h,decide_eq_false (by omega)]
 obtain⟨Rt,L⟩:∃Rt:ca,(if A=true then[]++[(aI 4,m.path)]else[])=Rt:=⟨_,rfl⟩
 obtain⟨Ru,W⟩:∃Ru:ca,(if ll=true then Rt++[(aI 5,m.target)]else Rt)=Ru:=⟨_,rfl⟩
 obtain⟨Rv,O⟩:∃Rv:ca,(if 2097151<u then Ru++[(aI 0,aJ u)]else Ru)=Rv:=⟨_,rfl⟩
 obtain⟨Rx,X⟩:∃Rx:ca,(if 2097151<g then Rv++[(aI 1,aJ g)]else Rv)=Rx:=⟨_,rfl⟩
 obtain⟨VO,KC⟩:∃VO:ca,(if 8589934591<t then Rx++[(aI 2,aJ t)]else Rx)=VO:=⟨_,rfl⟩
 have l1:Rt.length≤1:=by rw[←L];split<;>simp
 have l2:Ru.length≤2:=by rw[←W];split;(rw[Qf];simp only[List.length_cons,List.length_nil];omega);omega
 have l3:Rv.length≤3:=by rw[←O];split;(rw[Qf];simp only[List.length_cons,List.length_nil];omega);omega
 have l4:Rx.length≤4:=by rw[←X];split;(rw[Qf];simp only[List.length_cons,List.length_nil];omega);omega
 have Bh:Hid (aO m=VO):=Qh (by
  have e:∀(c:Prop) [Decidable c] (a:ca) (r:List UInt8 × List UInt8),a++(if c then[r]else[])=if c then a++[r]else a:=fun c _ a r=>by split<;>simp
  have c1:((2097151:Int)<(u:Int))↔2097151<u:=by omega
  have c2:((2097151:Int)<(g:Int))↔2097151<g:=by omega
  have c3:((8589934591:Int)<(t:Int))↔8589934591<t:=by omega
  rw[Ij,e,e,e,e,e,T,N,hu,R,V,←KC,←X,←O,←W,←L]
  simp only[Int.toNat_natCast,c1,c2,c3])
 have HH5:Hid (aa (bj m)=HC (if A=true then bq else m.path) (if ll=true then bq else m.target) m.kind m.mode (if 2097151<u then 0 else(u:Int)) (if 2097151<g then 0 else(g:Int)) (if 8589934591<t then 0 else(t:Int)) (bl:Int)):=Qh (by
  unfold bj HC aa;rw[T,N,hu,R,V,iE];have c1:((2097151:Int)<(u:Int))↔2097151<u:=by omega
  have c2:((2097151:Int)<(g:Int))↔2097151<g:=by omega
  have c3:((8589934591:Int)<(t:Int))↔8589934591<t:=by omega
  simp only[c1,c2,c3])
 unfold cO;rw[iE,hu,R,V]
 obtain⟨W1,dH⟩:∃W1,((((w.alloc (.cells #[.string (str m.path),.string (str m.target),.int .u8 (m.kind.toNat:Int),.int .i64 m.mode,.int .i64 (u:Int),.int .i64 (g:Int),.int .i64 (t:Int),.slice p bl c] 48)).alloc
  (.cells #[.string ⟨#[]⟩,.string ⟨#[]⟩,.int .u8 0,.int .i64 0,.int .i64 0,.int .i64 0,.int .i64 0,.int .i64 0,.bool false] 66)).alloc
  (.cells #[.string (str m.path),.string (str m.target),.int .u8 (m.kind.toNat:Int),.int .i64 m.mode,.int .i64 (u:Int),.int .i64 (g:Int),.int .i64 (t:Int),.int .i64 (bl:Int),.bool false] 66)).alloc
  (.cells #[.slice none 0 0] 64)).alloc (.cells #[.func (.func 120) #[] #[.pointer (some ⟨w.heap.size+3,0,none⟩)]] 189)=W1:=⟨_,rfl⟩
 have ZD:SP w #[.string (str m.path),.string (str m.target),.int .u8 (m.kind.toNat:Int),.int .i64 m.mode,.int .i64 (u:Int),.int .i64 (g:Int),.int .i64 (t:Int),.slice p bl c] (HC m.path m.target m.kind m.mode (u:Int) (g:Int) (t:Int) (bl:Int)) [] W1:=by
  rw[←dH];have G:=fun(w:World) (o:Obj)=>World.size_alloc w o
  have b1:=ao.new (w.alloc (.cells #[.string (str m.path),.string (str m.target),.int .u8 (m.kind.toNat:Int),.int .i64 m.mode,.int .i64 (u:Int),.int .i64 (g:Int),.int .i64 (t:Int),.slice p bl c] 48)) 66 #[.string ⟨#[]⟩,.string ⟨#[]⟩,.int .u8 0,.int .i64 0,.int .i64 0,.int .i64 0,.int .i64 0,.int .i64 0,.bool false];rw[G]at b1;obtain⟨V1,U⟩:∃V1,(w.alloc (.cells #[.string (str m.path),.string (str m.target),.int .u8 (m.kind.toNat:Int),.int .i64 m.mode,.int .i64 (u:Int),.int .i64 (g:Int),.int .i64 (t:Int),.slice p bl c] 48)).alloc (.cells #[.string ⟨#[]⟩,.string ⟨#[]⟩,.int .u8 0,.int .i64 0,.int .i64 0,.int .i64 0,.int .i64 0,.int .i64 0,.bool false] 66)=V1:=⟨_,rfl⟩
  have H:V1.heap.size=w.heap.size+2:=by rw[←U,G,G]
  have m1:ao V1 w.heap.size 48 #[.string (str m.path),.string (str m.target),.int .u8 (m.kind.toNat:Int),.int .i64 m.mode,.int .i64 (u:Int),.int .i64 (g:Int),.int .i64 (t:Int),.slice p bl c]:=by rw[←U];exact(ao.new w _ _).alloc _
  have E:Below w.heap.size w V1:=by rw[←U];exact((Below.refl _ w).alloc (Qk _) _).alloc (by simp) _
  rw[U]at b1⊢;have B:=ao.new V1 66 (HC m.path m.target m.kind m.mode (u:Int) (g:Int) (t:Int) (bl:Int));rw[H]at B;have b3:=ao.new (V1.alloc (.cells (HC m.path m.target m.kind m.mode (u:Int) (g:Int) (t:Int) (bl:Int)) 66)) 64 #[.slice none 0 0];rw[G,H]at b3;have b4:=ao.new ((V1.alloc (.cells (HC m.path m.target m.kind m.mode (u:Int) (g:Int) (t:Int) (bl:Int)) 66)).alloc (.cells #[.slice none 0 0] 64)) 189 #[.func (.func 120) #[] #[.pointer (some ⟨w.heap.size+3,0,none⟩)]];rw[G,G,H]at b4;exact⟨((E.alloc E.size _).alloc (E.alloc E.size _).size _).alloc ((E.alloc E.size _).alloc (E.alloc E.size _).size _).size _,((m1.alloc _).alloc _).alloc _,((b1.alloc _).alloc _).alloc _,(B.alloc _).alloc _,⟨_,b3.alloc _,World.ownsRow_nil _ _ _ _⟩,b4⟩
 have PV:=Qh dH;have Y8:=Qh ZD;have M:=Qh hN;have Wq:=Qh (And.intro G1 zB);have Jq:=Qh (And.intro lj (And.intro uD J));have Y:=Qh (And.intro l1 (And.intro l2 (And.intro l3 l4)));obtain⟨cx,cy,XA⟩:=Mc m.path;rw[I7]at XA;have HCV:=Qh XA;have I0:=Qh L;have po:=Qh W;have U8:=Qh O;have Bg:=Qh X;have Wi:=Qh KC;have hmf:∀(fn:Fn) (first cap:Array Value) (w:World),(Instr.makeFunc fn first cap).run Tryz.prog w=.ok (.func fn first cap) w:=fun _ _ _ _=>rfl
 clear ZD hN hg iE dH G1 zB XA hu R V lj uD J I7 T N l L W O X KC l1 l2 l3 l4
 go_enter Tryz.func81,Tryz.ntmps81
 have E1:Hid ((if A=true then(HC m.path m.target m.kind m.mode (u:Int) (g:Int) (t:Int) (bl:Int)).setIfInBounds 0 (.string (str bq))else(HC m.path m.target m.kind m.mode (u:Int) (g:Int) (t:Int) (bl:Int)))=(HC (if A=true then bq else m.path) m.target m.kind m.mode (u:Int) (g:Int) (t:Int) (bl:Int))):=Qh (by split<;>simp[HC]);have E2:Hid ((if ll=true then(HC (if A=true then bq else m.path) m.target m.kind m.mode (u:Int) (g:Int) (t:Int) (bl:Int)).setIfInBounds 1 (.string (str bq))else(HC (if A=true then bq else m.path) m.target m.kind m.mode (u:Int) (g:Int) (t:Int) (bl:Int)))=(HC (if A=true then bq else m.path) (if ll=true then bq else m.target) m.kind m.mode (u:Int) (g:Int) (t:Int) (bl:Int))):=Qh (by split<;>simp[HC]);have E3:Hid ((if 2097151<u then(HC (if A=true then bq else m.path) (if ll=true then bq else m.target) m.kind m.mode (u:Int) (g:Int) (t:Int) (bl:Int)).setIfInBounds 4 (.int .i64 0)else(HC (if A=true then bq else m.path) (if ll=true then bq else m.target) m.kind m.mode (u:Int) (g:Int) (t:Int) (bl:Int)))=(HC (if A=true then bq else m.path) (if ll=true then bq else m.target) m.kind m.mode (if 2097151<u then 0 else(u:Int)) (g:Int) (t:Int) (bl:Int))):=Qh (by split<;>simp[HC]);have E4:Hid ((if 2097151<g then(HC (if A=true then bq else m.path) (if ll=true then bq else m.target) m.kind m.mode (if 2097151<u then 0 else(u:Int)) (g:Int) (t:Int) (bl:Int)).setIfInBounds 5 (.int .i64 0)else(HC (if A=true then bq else m.path) (if ll=true then bq else m.target) m.kind m.mode (if 2097151<u then 0 else(u:Int)) (g:Int) (t:Int) (bl:Int)))=(HC (if A=true then bq else m.path) (if ll=true then bq else m.target) m.kind m.mode (if 2097151<u then 0 else(u:Int)) (if 2097151<g then 0 else(g:Int)) (t:Int) (bl:Int))):=Qh (by split<;>simp[HC])
 have E5:Hid ((if 8589934591<t then(HC (if A=true then bq else m.path) (if ll=true then bq else m.target) m.kind m.mode (if 2097151<u then 0 else(u:Int)) (if 2097151<g then 0 else(g:Int)) (t:Int) (bl:Int)).setIfInBounds 6 (.int .i64 0)else(HC (if A=true then bq else m.path) (if ll=true then bq else m.target) m.kind m.mode (if 2097151<u then 0 else(u:Int)) (if 2097151<g then 0 else(g:Int)) (t:Int) (bl:Int)))=(HC (if A=true then bq else m.path) (if ll=true then bq else m.target) m.kind m.mode (if 2097151<u then 0 else(u:Int)) (if 2097151<g then 0 else(g:Int)) (if 8589934591<t then 0 else(t:Int)) (bl:Int))):=Qh (by split<;>simp[HC]);go_upto_region 6 with fail;rw[PV.out];have y0:=Y8.out.mem.cell 0;simp only[Qc,Qa]at y0;go_wp2_with fail;refine(zr (str m.path) W1 (by rw[aq];have:=Wq.out.1;omega)).mono ?_;rw[bg,HCV.out];rintro e w2 ⟨rfl,dc⟩;have mY:=Qh (Y8.out.kept dc);have Y4:=Qh (M.out.below mY.out.bel);clear dc y0;go_wp2_with fail;refine(qg w w2 #[.string (str m.path),.string (str m.target),.int .u8 (m.kind.toNat:Int),.int .i64 m.mode,.int .i64 (u:Int),.int .i64 (g:Int),.int .i64 (t:Int),.slice p bl c] (HC m.path m.target m.kind m.mode (u:Int) (g:Int) (t:Int) (bl:Int)) (HC (if A=true then bq else m.path) m.target m.kind m.mode (u:Int) (g:Int) (t:Int) (bl:Int)) [] Rt 0 (aI 4) m.path b0 A mY.out (by show 0<9;decide) rfl HLP.out E1.out I0.out (by have:=Wq.out.1;omega) (by simp)).mono ?_;rintro e w3 ⟨rfl,hs⟩;have U9:=Qh hs;clear hs;have y1:=U9.out.mem.cell 1;simp only[Qc,Qa,Qb]at y1;go_wp2_with fail
 refine(qg w w3 #[.string (str m.path),.string (str m.target),.int .u8 (m.kind.toNat:Int),.int .i64 m.mode,.int .i64 (u:Int),.int .i64 (g:Int),.int .i64 (t:Int),.slice p bl c] (HC (if A=true then bq else m.path) m.target m.kind m.mode (u:Int) (g:Int) (t:Int) (bl:Int)) (HC (if A=true then bq else m.path) (if ll=true then bq else m.target) m.kind m.mode (u:Int) (g:Int) (t:Int) (bl:Int)) Rt Ru 1 (aI 5) m.target f1 ll U9.out (by show 1<9;decide) rfl Jk.out E2.out po.out (by have:=Wq.out.2;omega) (by have:=Y.out.1;omega)).mono ?_;rintro e w4 ⟨rfl,hs⟩;have RP:=Qh hs;clear hs y1 XC;have HN4:=Qh (M.out.below RP.out.bel);go_wp2_with fail;refine(jN w w4 #[.string (str m.path),.string (str m.target),.int .u8 (m.kind.toNat:Int),.int .i64 m.mode,.int .i64 (u:Int),.int .i64 (g:Int),.int .i64 (t:Int),.slice p bl c] (HC (if A=true then bq else m.path) (if ll=true then bq else m.target) m.kind m.mode (u:Int) (g:Int) (t:Int) (bl:Int)) (HC (if A=true then bq else m.path) (if ll=true then bq else m.target) m.kind m.mode (if 2097151<u then 0 else(u:Int)) (g:Int) (t:Int) (bl:Int)) Ru Rv 4 (aI 0) u 2097151 RP.out (by show 4<9;decide) rfl E3.out U8.out Jq.out.1 (by have:=Y.out.2.1;omega) HN4.out).mono ?_;rintro e w5 ⟨rfl,hs⟩;have PS:=Qh hs;clear hs;have V7:=Qh (M.out.below PS.out.bel);go_wp2_with fail;refine(jN w w5 #[.string (str m.path),.string (str m.target),.int .u8 (m.kind.toNat:Int),.int .i64 m.mode,.int .i64 (u:Int),.int .i64 (g:Int),.int .i64 (t:Int),.slice p bl c] (HC (if A=true then bq else m.path) (if ll=true then bq else m.target) m.kind m.mode (if 2097151<u then 0 else(u:Int)) (g:Int) (t:Int) (bl:Int)) (HC (if A=true then bq else m.path) (if ll=true then bq else m.target) m.kind m.mode (if 2097151<u then 0 else(u:Int)) (if 2097151<g then 0 else(g:Int)) (t:Int) (bl:Int)) Rv Rx 5 (aI 1) g 2097151 PS.out (by show 5<9;decide) rfl E4.out Bg.out Jq.out.2.1 (by have:=Y.out.2.2.1;omega) V7.out).mono ?_;rintro e w6 ⟨rfl,hs⟩;have Y9:=Qh hs;clear hs;have V8:=Qh (M.out.below Y9.out.bel);go_wp2_with fail
 refine(jN w w6 #[.string (str m.path),.string (str m.target),.int .u8 (m.kind.toNat:Int),.int .i64 m.mode,.int .i64 (u:Int),.int .i64 (g:Int),.int .i64 (t:Int),.slice p bl c] (HC (if A=true then bq else m.path) (if ll=true then bq else m.target) m.kind m.mode (if 2097151<u then 0 else(u:Int)) (if 2097151<g then 0 else(g:Int)) (t:Int) (bl:Int)) (HC (if A=true then bq else m.path) (if ll=true then bq else m.target) m.kind m.mode (if 2097151<u then 0 else(u:Int)) (if 2097151<g then 0 else(g:Int)) (if 8589934591<t then 0 else(t:Int)) (bl:Int)) Rx VO 6 (aI 2) t 8589934591 Y9.out (by show 6<9;decide) rfl E5.out Wi.out Jq.out.2.2 (by have:=Y.out.2.2.2;omega) V8.out).mono ?_;rintro e w7 ⟨rfl,hs⟩;have hH:=HH5.out;obtain⟨Z,I⟩:∃x,(if A=true then bq else m.path)=x:=⟨_,rfl⟩
 obtain⟨f,Zo⟩:∃x,(if ll=true then bq else m.target)=x:=⟨_,rfl⟩
 obtain⟨y,Zp⟩:∃x:Int,(if 2097151<u then 0 else(u:Int))=x:=⟨_,rfl⟩
 obtain⟨z,Zq⟩:∃x:Int,(if 2097151<g then 0 else(g:Int))=x:=⟨_,rfl⟩
 obtain⟨A6,Zr⟩:∃x:Int,(if 8589934591<t then 0 else(t:Int))=x:=⟨_,rfl⟩
 rw[I,Zo,Zp,Zq,Zr]at hs hH;rw[←Bh.out]at hs;have Za:=Qh hs;have HHF:=Qh hH;obtain⟨v,hl,cN⟩:=hs.ls;obtain⟨q,d,rfl,_,_,_⟩:=mj cN;obtain⟨n,hn⟩:∃n,(aO m).length=n:=⟨_,rfl⟩
 rw[hn]at hl;have q0:=hl.cell 0;simp only[Qc,Qa]at q0;have HL:=Qh hl;have D:=hs.hd;have z0:=D.cell 0;have H:=D.cell 1;have z2:=D.cell 2;have z3:=D.cell 3;have z4:=D.cell 4;have z5:=D.cell 5;have z6:=D.cell 6;have z7:=D.cell 7;have z8:=D.cell 8;simp only[HC,Qc,Qa,Qb]at z0 H z2 z3 z4 z5 z6 z7 z8;have B:=hs.res;have r0:=B.cell 0;have r1:=B.cell 1;have r2:=B.cell 2;have r3:=B.cell 3;have r4:=B.cell 4;have r5:=B.cell 5;have r6:=B.cell 6;have r7:=B.cell 7;have r8:=B.cell 8;have f0:=B.frozen 0;have f1':=B.frozen 1;have f2:=B.frozen 2;have f3:=B.frozen 3;have f4:=B.frozen 4;have f5:=B.frozen 5;have f6:=B.frozen 6;have f7:=B.frozen 7;have f8:=B.frozen 8;simp only[aa,bG,Qc,Qa,Qb]at r0 r1 r2 r3 r4 r5 r6 r7 r8;clear hs hl cN D B I Zo Zp Zq Zr hH hn;go_upto_region 12 with fail
 go_region
 all_goals
  clear r0 r1 r2 r3 r4 r5 r6 r7 r8 f0 f1' f2 f3 f4 f5 f6 f7 f8 z0 H z2 z3 z4 z5 z6 z7 z8 q0;go_wp2;have RF:=Qh (lG Za.out.res rfl (.string (str Z)) (.string (str f)) (.int .u8 (m.kind.toNat:Int)) (.int .i64 m.mode) (.int .i64 y) (.int .i64 z) (.int .i64 A6) (.int .i64 (bl:Int)) (.bool false)).drew;have U3:=Qh (qB (w:=w7) (w.heap.size+1) (.string (str Z)) (.string (str f)) (.int .u8 (m.kind.toNat:Int)) (.int .i64 m.mode) (.int .i64 y) (.int .i64 z) (.int .i64 A6) (.int .i64 (bl:Int)) (.bool false)).drew;obtain⟨W8,hW8⟩:∃W8,(((((((((w7.setCell ⟨w.heap.size+1,0,none⟩ (.string (str Z))).setCell ⟨w.heap.size+1,1,none⟩ (.string (str f))).setCell ⟨w.heap.size+1,2,none⟩ (.int .u8 (m.kind.toNat:Int))).setCell ⟨w.heap.size+1,3,none⟩ (.int .i64 m.mode)).setCell ⟨w.heap.size+1,4,none⟩ (.int .i64 y)).setCell ⟨w.heap.size+1,5,none⟩ (.int .i64 z)).setCell ⟨w.heap.size+1,6,none⟩ (.int .i64 A6)).setCell ⟨w.heap.size+1,7,none⟩ (.int .i64 (bl:Int))).setCell ⟨w.heap.size+1,8,none⟩ (.bool false)).drew=W8:=⟨_,rfl⟩
  rw[hW8]at RF U3⊢;have RE:ao W8 (w.heap.size+1) 66 (aa (bj m)):=by rw[HHF.out];exact RF.out
  refine bodyPost_ret (Im rfl _ _ (w.heap.size+1) (.slice q n d) rfl rfl (bj m) RE) rfl ?_;obtain⟨e1,e2,e3,e4,e5⟩:=Za.out.done U3.out HL.out;exact⟨q,d,by rw[e1],e2,e3,e4,e5⟩
end Wr
end Go.Proofs.YtdhibldkldlfpaaGreatDoor
