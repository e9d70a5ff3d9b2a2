/- Merged. -/
import Derived.Test.YtdhibldkldlfpaaGreatDoorEmitPacksX30
import Derived.Laws.EntriesVeiled
namespace Go.Proofs.YtdhibldkldlfpaaGreatDoor
set_option linter.unusedVariables false
set_option maxHeartbeats 4000000
set_option maxRecDepth 100000
namespace Wr
open Go.ChangeShapes Go.WideShapes Go.ChangeAt Go.RowKit Base cf cN Bk Hp Head Rec Attr Mem Go.Lib
variable {w:World}
theorem Qw (l:List UInt8):∃a b,Head.cutV l=.tuple #[.string a,.string b,.bool (fR l).isSome]:=by
 unfold Head.cutV
 cases fR l with
 |none=>exact⟨_,_,rfl⟩
 |some x=>exact⟨_,_,rfl⟩
def HC (a b:List UInt8) (k:UInt8) (md ui gi ti bl:Int):Array Value:=#[.string (str a),.string (str b),.int .u8 (k.toNat:Int),.int .i64 md,.int .i64 ui,.int .i64 gi,.int .i64 ti,.int .i64 bl,.bool false]
theorem mZ {g:Nat} {cs:Array Value} (h:au w g 66 cs) (hs:cs.size=9) (v0 v1 v2 v3 v4 v5 v6 v7 v8:Value):
 au (((((((((w.setCell ⟨g,0,none⟩ v0).setCell ⟨g,1,none⟩ v1).setCell ⟨g,2,none⟩ v2).setCell ⟨g,3,none⟩ v3).setCell ⟨g,4,none⟩ v4).setCell ⟨g,5,none⟩ v5).setCell ⟨g,6,none⟩ v6).setCell ⟨g,7,none⟩ v7).setCell ⟨g,8,none⟩ v8) g 66 #[v0,v1,v2,v3,v4,v5,v6,v7,v8]:=by
 obtain⟨a0,A,a2,a3,a4,a5,B,D,E,rfl⟩:∃a0 A a2 a3 a4 a5 B D E,cs=#[a0,A,a2,a3,a4,a5,B,D,E]:=by
  obtain⟨l⟩:=cs
  match l,hs with
  |[a0,A,a2,a3,a4,a5,B,D,E],_=>exact⟨_,_,_,_,_,_,_,_,_,rfl⟩
 exact((((((((h.set 0 v0 (by show 0<9;decide)).set 1 v1 (by show 1<9;decide)).set 2 v2 (by show 2<9;decide)).set 3 v3 (by show 3<9;decide)).set 4 v4 (by show 4<9;decide)).set 5 v5 (by show 5<9;decide)).set 6 v6 (by show 6<9;decide)).set 7 v7 (by show 7<9;decide)).set 8 v8 (by show 8<9;decide)
theorem sU (g:Nat) (v0 v1 v2 v3 v4 v5 v6 v7 v8:Value):
 Kept (ay g) w (((((((((w.setCell ⟨g,0,none⟩ v0).setCell ⟨g,1,none⟩ v1).setCell ⟨g,2,none⟩ v2).setCell ⟨g,3,none⟩ v3).setCell ⟨g,4,none⟩ v4).setCell ⟨g,5,none⟩ v5).setCell ⟨g,6,none⟩ v6).setCell ⟨g,7,none⟩ v7).setCell ⟨g,8,none⟩ v8):=
 (((((((((Kept.refl (ay g) w).setCell (a:=⟨g,0,none⟩) (.inr rfl) v0).setCell (a:=⟨g,1,none⟩) (.inr rfl) v1).setCell (a:=⟨g,2,none⟩) (.inr rfl) v2).setCell (a:=⟨g,3,none⟩) (.inr rfl) v3).setCell (a:=⟨g,4,none⟩) (.inr rfl) v4).setCell (a:=⟨g,5,none⟩) (.inr rfl) v5).setCell (a:=⟨g,6,none⟩) (.inr rfl) v6).setCell (a:=⟨g,7,none⟩) (.inr rfl) v7).setCell (a:=⟨g,8,none⟩) (.inr rfl) v8
theorem L0 {fn:Func} (hf:fn.results=#[.cell 2 66,.tmp 3]) (tmps:Array Value) (w:World) (g:Nat) (v:Value) (ht:tmps.getD 2 undef=.pointer (some ⟨g,0,none⟩)) (hv:tmps.getD 3 undef=v)
 (h:aq) (hb:au w g 66 (af h)):(results fn tmps).run Tryz.prog w=.ok (.tuple #[.agg (af h),v]) w:=by
 have hl:=oF w g (str h.name) (str h.link) _ _ _ _ _ _ _ hb;have B:tmps[2]?.getD undef=.pointer (some ⟨g,0,none⟩):=by simpa using ht
 have A:tmps[3]?.getD undef=v:=by simpa using hv
 simp only[results,hf];simp[Result.andThen,B,A,asAddr,hl,af]
def Jv (w:World) (m:aw) (e:Ending) (w':World):Prop:=
 ∃q d,e=.returned (.tuple #[.agg (af (bF m)),.slice q (aT m).length d])∧(aT m).length≤d∧d≤maxLen∧cM w' q (aT m).length (aT m)∧Below w.heap.size w w'
theorem SP.done {wx wy:World} {M H:Array Value} {m:aw} (h:SP w M H (aT m) wx) (hk:Kept (ay (w.heap.size+1)) wx wy) {q:Option Addr} {n d:Nat} (hl:au wx (w.heap.size+3) 64 #[.slice q n d]):
 (aT m).length=n∧(aT m).length≤d∧d≤maxLen∧cM wy q (aT m).length (aT m)∧Below w.heap.size w wy:=by
 obtain⟨v,h1,B⟩:=h.ls
 have e:v=.slice q n d:=by
  have c1:=h1.cell 0;rw[hl.cell 0]at c1
  simpa using c1.symm
 have D:=bh B hk (fun k J e=>by
  have:=(B.lt k J).1;have:k=w.heap.size+1:=e
  omega)
 obtain⟨N,L,A,E,G,I⟩:=nP D;rw[e]at A
 cases A
 exact⟨rfl,E,G,I,h.bel.trans (hk.below h.bel.size (fun k hk=>by have:k=w.heap.size+1:=hk;omega))⟩
theorem LX (m:aw):aT m=((((([]:cH)++(if ik m then[(aB 4,m.path)]else[]))++(if gP m then[(aB 5,m.target)]else[]))++(if 2097151<m.uid then[(aB 0,ax m.uid.toNat)]else[]))++
 (if 2097151<m.gid then[(aB 1,ax m.gid.toNat)]else[]))++(if 8589934591<m.time then[(aB 2,ax m.time.toNat)]else[]):=by
 rw[List.nil_append];rfl
theorem Mf (m:aw) (p:Option Addr) (c:Nat) (w:World) (hg:dz m) (hN:Need w):
 Calls Tryz.prog 81 #[.agg (dj m p c)] w (Jv w m):=by
 have xI:=hg.wJ;have yK:=hg.DL;obtain⟨bl,iN⟩:∃bl,m.body.length=bl:=⟨_,rfl⟩
 obtain⟨u,hu⟩:∃u:Nat,m.uid=(u:Int):=⟨m.uid.toNat,by have:=hg.uid;omega⟩
 obtain⟨g,X⟩:∃g:Nat,m.gid=(g:Int):=⟨m.gid.toNat,by have:=hg.gid;omega⟩
 obtain⟨t,f⟩:∃t:Nat,m.time=(t:Int):=⟨m.time.toNat,by have:=hg.time;omega⟩
 have ig:u≤9223372036854775807:=by have:=hg.uid;omega
 have pT:g≤9223372036854775807:=by have:=hg.gid;omega
 have KX:t≤9223372036854775807:=by have:=hg.time;omega
 obtain⟨b0,D0⟩:∃b,(fR m.path).isSome=b:=⟨_,rfl⟩
 obtain⟨A,W⟩:∃b,ik m=b:=⟨_,rfl⟩
 obtain⟨ll,z⟩:∃b,gP m=b:=⟨_,rfl⟩
 obtain⟨f1,yF⟩:∃f1,decide (m.target.length≤100)=f1:=⟨_,rfl⟩
 have HLP:Hid ((!b0||!gm m.path)=A):=Qh (by
  rw[←W,←D0];unfold ik
  cases fR m.path<;>rfl)
 have zF:Hid ((!f1||!gm m.target)=ll):=Qh (by
  rw[←z,←yF];unfold gP
  congr 1
  by_cases h:m.target.length≤100
  ·simp[h]
  ·simp[h];omega)
 have Fu:decide (((str m.target).size:Int)≤100)=f1:=by
  rw[←yF,ak]
  by_cases h:m.target.length≤100
  ·rw[decide_eq_true h,decide_eq_true (by omega)]
  ·rw[decide_eq_false h,decide_eq_false (by omega)]
 obtain⟨Wu,Y⟩:∃Wu:cH,(if A=true then[]++[(aB 4,m.path)]else[])=Wu:=⟨_,rfl⟩
 obtain⟨Wv,l⟩:∃Wv:cH,(if ll=true then Wu++[(aB 5,m.target)]else Wu)=Wv:=⟨_,rfl⟩
 obtain⟨Ww,Z⟩:∃Ww:cH,(if 2097151<u then Wv++[(aB 0,ax u)]else Wv)=Ww:=⟨_,rfl⟩
 obtain⟨Wx,xw⟩:∃Wx:cH,(if 2097151<g then Ww++[(aB 1,ax g)]else Ww)=Wx:=⟨_,rfl⟩
 obtain⟨rs5,Aj⟩:∃rs5:cH,(if 8589934591<t then Wx++[(aB 2,ax t)]else Wx)=rs5:=⟨_,rfl⟩
 have l1:Wu.length≤1:=by rw[←Y];split<;>simp
 have l2:Wv.length≤2:=by rw[←l];split;(rw[Qf];simp only[List.length_cons,List.length_nil];omega);omega
 have l3:Ww.length≤3:=by rw[←Z];split;(rw[Qf];simp only[List.length_cons,List.length_nil];omega);omega
 have l4:Wx.length≤4:=by rw[←xw];split;(rw[Qf];simp only[List.length_cons,List.length_nil];omega);omega
 have yh:Hid (aT m=rs5):=Qh (by
  have e:∀(c:Prop) [Decidable c] (a:cH) (r:List UInt8 × List UInt8),a++(if c then[r]else[])=if c then a++[r]else a:=fun c _ a r=>by split<;>simp
  have c1:((2097151:Int)<(u:Int))↔2097151<u:=by omega
  have c2:((2097151:Int)<(g:Int))↔2097151<g:=by omega
  have c3:((8589934591:Int)<(t:Int))↔8589934591<t:=by omega
  rw[LX,e,e,e,e,e,W,z,hu,X,f,←Aj,←xw,←Z,←l,←Y]
  simp only[Int.toNat_natCast,c1,c2,c3])
 have XU:Hid (af (bF m)=HC (if A=true then bz else m.path) (if ll=true then bz else m.target) m.kind m.mode (if 2097151<u then 0 else(u:Int)) (if 2097151<g then 0 else(g:Int)) (if 8589934591<t then 0 else(t:Int)) (bl:Int)):=Qh (by
  unfold bF HC af;rw[W,z,hu,X,f,iN];have c1:((2097151:Int)<(u:Int))↔2097151<u:=by omega
  have c2:((2097151:Int)<(g:Int))↔2097151<g:=by omega
  have c3:((8589934591:Int)<(t:Int))↔8589934591<t:=by omega
  simp only[c1,c2,c3])
 unfold dj;rw[iN,hu,X,f]
 obtain⟨W1,ef⟩:∃W1,((((w.alloc (.cells #[.string (str m.path),.string (str m.target),.int .u8 (m.kind.toNat:Int),.int .i64 m.mode,.int .i64 (u:Int),.int .i64 (g:Int),.int .i64 (t:Int),.slice p bl c] 48)).alloc
  (.cells #[.string ⟨#[]⟩,.string ⟨#[]⟩,.int .u8 0,.int .i64 0,.int .i64 0,.int .i64 0,.int .i64 0,.int .i64 0,.bool false] 66)).alloc
  (.cells #[.string (str m.path),.string (str m.target),.int .u8 (m.kind.toNat:Int),.int .i64 m.mode,.int .i64 (u:Int),.int .i64 (g:Int),.int .i64 (t:Int),.int .i64 (bl:Int),.bool false] 66)).alloc
  (.cells #[.slice none 0 0] 64)).alloc (.cells #[.func (.func 120) #[] #[.pointer (some ⟨w.heap.size+3,0,none⟩)]] 189)=W1:=⟨_,rfl⟩
 have U:SP w #[.string (str m.path),.string (str m.target),.int .u8 (m.kind.toNat:Int),.int .i64 m.mode,.int .i64 (u:Int),.int .i64 (g:Int),.int .i64 (t:Int),.slice p bl c] (HC m.path m.target m.kind m.mode (u:Int) (g:Int) (t:Int) (bl:Int)) [] W1:=by
  rw[←ef];have H:=fun(w:World) (o:Obj)=>World.size_alloc w o
  have b1:=au.new (w.alloc (.cells #[.string (str m.path),.string (str m.target),.int .u8 (m.kind.toNat:Int),.int .i64 m.mode,.int .i64 (u:Int),.int .i64 (g:Int),.int .i64 (t:Int),.slice p bl c] 48)) 66 #[.string ⟨#[]⟩,.string ⟨#[]⟩,.int .u8 0,.int .i64 0,.int .i64 0,.int .i64 0,.int .i64 0,.int .i64 0,.bool false];rw[H]at b1;obtain⟨V1,E⟩:∃V1,(w.alloc (.cells #[.string (str m.path),.string (str m.target),.int .u8 (m.kind.toNat:Int),.int .i64 m.mode,.int .i64 (u:Int),.int .i64 (g:Int),.int .i64 (t:Int),.slice p bl c] 48)).alloc (.cells #[.string ⟨#[]⟩,.string ⟨#[]⟩,.int .u8 0,.int .i64 0,.int .i64 0,.int .i64 0,.int .i64 0,.int .i64 0,.bool false] 66)=V1:=⟨_,rfl⟩
  have I:V1.heap.size=w.heap.size+2:=by rw[←E,H,H]
  have m1:au V1 w.heap.size 48 #[.string (str m.path),.string (str m.target),.int .u8 (m.kind.toNat:Int),.int .i64 m.mode,.int .i64 (u:Int),.int .i64 (g:Int),.int .i64 (t:Int),.slice p bl c]:=by rw[←E];exact(au.new w _ _).alloc _
  have G:Below w.heap.size w V1:=by rw[←E];exact((Below.refl _ w).alloc (Qk _) _).alloc (by simp) _
  rw[E]at b1⊢;have B:=au.new V1 66 (HC m.path m.target m.kind m.mode (u:Int) (g:Int) (t:Int) (bl:Int));rw[I]at B;have b3:=au.new (V1.alloc (.cells (HC m.path m.target m.kind m.mode (u:Int) (g:Int) (t:Int) (bl:Int)) 66)) 64 #[.slice none 0 0];rw[H,I]at b3;have b4:=au.new ((V1.alloc (.cells (HC m.path m.target m.kind m.mode (u:Int) (g:Int) (t:Int) (bl:Int)) 66)).alloc (.cells #[.slice none 0 0] 64)) 189 #[.func (.func 120) #[] #[.pointer (some ⟨w.heap.size+3,0,none⟩)]];rw[H,H,I]at b4;exact⟨((G.alloc G.size _).alloc (G.alloc G.size _).size _).alloc ((G.alloc G.size _).alloc (G.alloc G.size _).size _).size _,((m1.alloc _).alloc _).alloc _,((b1.alloc _).alloc _).alloc _,(B.alloc _).alloc _,⟨_,b3.alloc _,World.ownsRow_nil _ _ _ _⟩,b4⟩
 have Rr:=Qh ef;have J:=Qh U;have V:=Qh hN;have BB:=Qh (And.intro xI yK);have xy:=Qh (And.intro ig (And.intro pT KX));have y:=Qh (And.intro l1 (And.intro l2 (And.intro l3 l4)));obtain⟨cx,cy,VB⟩:=Qw m.path;rw[D0]at VB;have HCV:=Qh VB;have MG:=Qh Y;have rq:=Qh l;have Xc:=Qh Z;have xq:=Qh xw;have ad0:=Qh Aj;have hmf:∀(fn:Fn) (first cap:Array Value) (w:World),(Instr.makeFunc fn first cap).run Tryz.prog w=.ok (.func fn first cap) w:=fun _ _ _ _=>rfl
 clear U hN hg iN ef xI yK VB hu X f ig pT KX D0 W z yF Y l Z xw Aj l1 l2 l3 l4
 go_enter Tryz.func81,Tryz.ntmps81
 have E1:Hid ((if A=true then(HC m.path m.target m.kind m.mode (u:Int) (g:Int) (t:Int) (bl:Int)).setIfInBounds 0 (.string (str bz))else(HC m.path m.target m.kind m.mode (u:Int) (g:Int) (t:Int) (bl:Int)))=(HC (if A=true then bz else m.path) m.target m.kind m.mode (u:Int) (g:Int) (t:Int) (bl:Int))):=Qh (by split<;>simp[HC]);have E2:Hid ((if ll=true then(HC (if A=true then bz else m.path) m.target m.kind m.mode (u:Int) (g:Int) (t:Int) (bl:Int)).setIfInBounds 1 (.string (str bz))else(HC (if A=true then bz else m.path) m.target m.kind m.mode (u:Int) (g:Int) (t:Int) (bl:Int)))=(HC (if A=true then bz else m.path) (if ll=true then bz else m.target) m.kind m.mode (u:Int) (g:Int) (t:Int) (bl:Int))):=Qh (by split<;>simp[HC]);have E3:Hid ((if 2097151<u then(HC (if A=true then bz else m.path) (if ll=true then bz else m.target) m.kind m.mode (u:Int) (g:Int) (t:Int) (bl:Int)).setIfInBounds 4 (.int .i64 0)else(HC (if A=true then bz else m.path) (if ll=true then bz else m.target) m.kind m.mode (u:Int) (g:Int) (t:Int) (bl:Int)))=(HC (if A=true then bz else m.path) (if ll=true then bz else m.target) m.kind m.mode (if 2097151<u then 0 else(u:Int)) (g:Int) (t:Int) (bl:Int))):=Qh (by split<;>simp[HC]);have E4:Hid ((if 2097151<g then(HC (if A=true then bz else m.path) (if ll=true then bz else m.target) m.kind m.mode (if 2097151<u then 0 else(u:Int)) (g:Int) (t:Int) (bl:Int)).setIfInBounds 5 (.int .i64 0)else(HC (if A=true then bz else m.path) (if ll=true then bz else m.target) m.kind m.mode (if 2097151<u then 0 else(u:Int)) (g:Int) (t:Int) (bl:Int)))=(HC (if A=true then bz else m.path) (if ll=true then bz else m.target) m.kind m.mode (if 2097151<u then 0 else(u:Int)) (if 2097151<g then 0 else(g:Int)) (t:Int) (bl:Int))):=Qh (by split<;>simp[HC])
 have E5:Hid ((if 8589934591<t then(HC (if A=true then bz else m.path) (if ll=true then bz else m.target) m.kind m.mode (if 2097151<u then 0 else(u:Int)) (if 2097151<g then 0 else(g:Int)) (t:Int) (bl:Int)).setIfInBounds 6 (.int .i64 0)else(HC (if A=true then bz else m.path) (if ll=true then bz else m.target) m.kind m.mode (if 2097151<u then 0 else(u:Int)) (if 2097151<g then 0 else(g:Int)) (t:Int) (bl:Int)))=(HC (if A=true then bz else m.path) (if ll=true then bz else m.target) m.kind m.mode (if 2097151<u then 0 else(u:Int)) (if 2097151<g then 0 else(g:Int)) (if 8589934591<t then 0 else(t:Int)) (bl:Int))):=Qh (by split<;>simp[HC]);go_upto_region 6 with fail;rw[Rr.out];have y0:=J.out.mem.cell 0;simp only[Qc,Qa]at y0;go_wp2_with fail;refine(Cj (str m.path) W1 (by rw[ak];have:=BB.out.1;omega)).mono ?_;rw[aU,HCV.out];rintro e w2 ⟨rfl,dr⟩;have oT:=Qh (J.out.kept dr);have HN2:=Qh (V.out.below oT.out.bel);clear dr y0;go_wp2_with fail;refine(sB w w2 #[.string (str m.path),.string (str m.target),.int .u8 (m.kind.toNat:Int),.int .i64 m.mode,.int .i64 (u:Int),.int .i64 (g:Int),.int .i64 (t:Int),.slice p bl c] (HC m.path m.target m.kind m.mode (u:Int) (g:Int) (t:Int) (bl:Int)) (HC (if A=true then bz else m.path) m.target m.kind m.mode (u:Int) (g:Int) (t:Int) (bl:Int)) [] Wu 0 (aB 4) m.path b0 A oT.out (by show 0<9;decide) rfl HLP.out E1.out MG.out (by have:=BB.out.1;omega) (by simp)).mono ?_;rintro e w3 ⟨rfl,hs⟩;have QC:=Qh hs;clear hs;have y1:=QC.out.mem.cell 1;simp only[Qc,Qa,Qb]at y1;go_wp2_with fail
 refine(sB w w3 #[.string (str m.path),.string (str m.target),.int .u8 (m.kind.toNat:Int),.int .i64 m.mode,.int .i64 (u:Int),.int .i64 (g:Int),.int .i64 (t:Int),.slice p bl c] (HC (if A=true then bz else m.path) m.target m.kind m.mode (u:Int) (g:Int) (t:Int) (bl:Int)) (HC (if A=true then bz else m.path) (if ll=true then bz else m.target) m.kind m.mode (u:Int) (g:Int) (t:Int) (bl:Int)) Wu Wv 1 (aB 5) m.target f1 ll QC.out (by show 1<9;decide) rfl zF.out E2.out rq.out (by have:=BB.out.2;omega) (by have:=y.out.1;omega)).mono ?_;rintro e w4 ⟨rfl,hs⟩;have Xd:=Qh hs;clear hs y1 Fu;have HN4:=Qh (V.out.below Xd.out.bel);go_wp2_with fail;refine(kR w w4 #[.string (str m.path),.string (str m.target),.int .u8 (m.kind.toNat:Int),.int .i64 m.mode,.int .i64 (u:Int),.int .i64 (g:Int),.int .i64 (t:Int),.slice p bl c] (HC (if A=true then bz else m.path) (if ll=true then bz else m.target) m.kind m.mode (u:Int) (g:Int) (t:Int) (bl:Int)) (HC (if A=true then bz else m.path) (if ll=true then bz else m.target) m.kind m.mode (if 2097151<u then 0 else(u:Int)) (g:Int) (t:Int) (bl:Int)) Wv Ww 4 (aB 0) u 2097151 Xd.out (by show 4<9;decide) rfl E3.out Xc.out xy.out.1 (by have:=y.out.2.1;omega) HN4.out).mono ?_;rintro e w5 ⟨rfl,hs⟩;have UT:=Qh hs;clear hs;have UG:=Qh (V.out.below UT.out.bel);go_wp2_with fail;refine(kR w w5 #[.string (str m.path),.string (str m.target),.int .u8 (m.kind.toNat:Int),.int .i64 m.mode,.int .i64 (u:Int),.int .i64 (g:Int),.int .i64 (t:Int),.slice p bl c] (HC (if A=true then bz else m.path) (if ll=true then bz else m.target) m.kind m.mode (if 2097151<u then 0 else(u:Int)) (g:Int) (t:Int) (bl:Int)) (HC (if A=true then bz else m.path) (if ll=true then bz else m.target) m.kind m.mode (if 2097151<u then 0 else(u:Int)) (if 2097151<g then 0 else(g:Int)) (t:Int) (bl:Int)) Ww Wx 5 (aB 1) g 2097151 UT.out (by show 5<9;decide) rfl E4.out xq.out xy.out.2.1 (by have:=y.out.2.2.1;omega) UG.out).mono ?_;rintro e w6 ⟨rfl,hs⟩;have Yj:=Qh hs;clear hs;have HN6:=Qh (V.out.below Yj.out.bel);go_wp2_with fail
 refine(kR w w6 #[.string (str m.path),.string (str m.target),.int .u8 (m.kind.toNat:Int),.int .i64 m.mode,.int .i64 (u:Int),.int .i64 (g:Int),.int .i64 (t:Int),.slice p bl c] (HC (if A=true then bz else m.path) (if ll=true then bz else m.target) m.kind m.mode (if 2097151<u then 0 else(u:Int)) (if 2097151<g then 0 else(g:Int)) (t:Int) (bl:Int)) (HC (if A=true then bz else m.path) (if ll=true then bz else m.target) m.kind m.mode (if 2097151<u then 0 else(u:Int)) (if 2097151<g then 0 else(g:Int)) (if 8589934591<t then 0 else(t:Int)) (bl:Int)) Wx rs5 6 (aB 2) t 8589934591 Yj.out (by show 6<9;decide) rfl E5.out ad0.out xy.out.2.2 (by have:=y.out.2.2.2;omega) HN6.out).mono ?_;rintro e w7 ⟨rfl,hs⟩;have hH:=XU.out;obtain⟨A0,M⟩:∃x,(if A=true then bz else m.path)=x:=⟨_,rfl⟩
 obtain⟨A1,N⟩:∃x,(if ll=true then bz else m.target)=x:=⟨_,rfl⟩
 obtain⟨A4,O⟩:∃x:Int,(if 2097151<u then 0 else(u:Int))=x:=⟨_,rfl⟩
 obtain⟨A5,R⟩:∃x:Int,(if 2097151<g then 0 else(g:Int))=x:=⟨_,rfl⟩
 obtain⟨A6,T⟩:∃x:Int,(if 8589934591<t then 0 else(t:Int))=x:=⟨_,rfl⟩
 rw[M,N,O,R,T]at hs hH;rw[←yh.out]at hs;have L:=Qh hs;have HHF:=Qh hH;obtain⟨v,hl,bC⟩:=hs.ls;obtain⟨q,d,rfl,_,_,_⟩:=nP bC;obtain⟨n,hn⟩:∃n,(aT m).length=n:=⟨_,rfl⟩
 rw[hn]at hl;have q0:=hl.cell 0;simp only[Qc,Qa]at q0;have HL:=Qh hl;have D:=hs.hd;have z0:=D.cell 0;have I:=D.cell 1;have z2:=D.cell 2;have z3:=D.cell 3;have z4:=D.cell 4;have z5:=D.cell 5;have z6:=D.cell 6;have z7:=D.cell 7;have z8:=D.cell 8;simp only[HC,Qc,Qa,Qb]at z0 I z2 z3 z4 z5 z6 z7 z8;have B:=hs.res;have r0:=B.cell 0;have r1:=B.cell 1;have r2:=B.cell 2;have r3:=B.cell 3;have r4:=B.cell 4;have r5:=B.cell 5;have r6:=B.cell 6;have r7:=B.cell 7;have r8:=B.cell 8;have f0:=B.frozen 0;have f1':=B.frozen 1;have f2:=B.frozen 2;have f3:=B.frozen 3;have f4:=B.frozen 4;have f5:=B.frozen 5;have f6:=B.frozen 6;have f7:=B.frozen 7;have f8:=B.frozen 8;simp only[af,ch,Qc,Qa,Qb]at r0 r1 r2 r3 r4 r5 r6 r7 r8;clear hs hl bC D B M N O R T hH hn;go_upto_region 12 with fail
 go_region
 all_goals
  clear r0 r1 r2 r3 r4 r5 r6 r7 r8 f0 f1' f2 f3 f4 f5 f6 f7 f8 z0 I z2 z3 z4 z5 z6 z7 z8 q0;go_wp2;have WL:=Qh (mZ L.out.res rfl (.string (str A0)) (.string (str A1)) (.int .u8 (m.kind.toNat:Int)) (.int .i64 m.mode) (.int .i64 A4) (.int .i64 A5) (.int .i64 A6) (.int .i64 (bl:Int)) (.bool false)).drew;have WU:=Qh (sU (w:=w7) (w.heap.size+1) (.string (str A0)) (.string (str A1)) (.int .u8 (m.kind.toNat:Int)) (.int .i64 m.mode) (.int .i64 A4) (.int .i64 A5) (.int .i64 A6) (.int .i64 (bl:Int)) (.bool false)).drew;obtain⟨W8,hW8⟩:∃W8,(((((((((w7.setCell ⟨w.heap.size+1,0,none⟩ (.string (str A0))).setCell ⟨w.heap.size+1,1,none⟩ (.string (str A1))).setCell ⟨w.heap.size+1,2,none⟩ (.int .u8 (m.kind.toNat:Int))).setCell ⟨w.heap.size+1,3,none⟩ (.int .i64 m.mode)).setCell ⟨w.heap.size+1,4,none⟩ (.int .i64 A4)).setCell ⟨w.heap.size+1,5,none⟩ (.int .i64 A5)).setCell ⟨w.heap.size+1,6,none⟩ (.int .i64 A6)).setCell ⟨w.heap.size+1,7,none⟩ (.int .i64 (bl:Int))).setCell ⟨w.heap.size+1,8,none⟩ (.bool false)).drew=W8:=⟨_,rfl⟩
  rw[hW8]at WL WU⊢;have WK:au W8 (w.heap.size+1) 66 (af (bF m)):=by rw[HHF.out];exact WL.out
  refine bodyPost_ret (L0 rfl _ _ (w.heap.size+1) (.slice q n d) rfl rfl (bF m) WK) rfl ?_;obtain⟨e1,e2,e3,e4,e5⟩:=L.out.done WU.out HL.out;exact⟨q,d,by rw[e1],e2,e3,e4,e5⟩
end Wr
end Go.Proofs.YtdhibldkldlfpaaGreatDoor
