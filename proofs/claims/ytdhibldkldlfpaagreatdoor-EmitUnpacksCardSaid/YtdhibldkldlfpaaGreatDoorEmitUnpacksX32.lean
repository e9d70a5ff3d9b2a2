/- Merged. -/
import Derived.Test.YtdhibldkldlfpaaGreatDoorEmitUnpacksX31
import Derived.Laws.EntriesVeiled
namespace Go.Proofs.YtdhibldkldlfpaaGreatDoor
set_option linter.unusedVariables false
set_option maxHeartbeats 4000000
set_option maxRecDepth 100000
namespace Wr
open Go.ChangeShapes Go.WideShapes Go.ChangeAt Go.RowKit Base cb iK Bk Hp Head Rec Attr Mem Go.Lib
variable {w:World}
theorem Wp (l:List UInt8):∃a b,Head.cutV l=.tuple #[.string a,.string b,.bool (o7 l).isSome]:=by
 unfold Head.cutV
 cases o7 l with
 |none=>exact⟨_,_,rfl⟩
 |some x=>exact⟨_,_,rfl⟩
def HC (a b:List UInt8) (k:UInt8) (md ui gi ti bl:Int):Array Value:=#[.string (str a),.string (str b),.int .u8 (k.toNat:Int),.int .i64 md,.int .i64 ui,.int .i64 gi,.int .i64 ti,.int .i64 bl,.bool false]
theorem uy {g:Nat} {cs:Array Value} (h:au w g 66 cs) (hs:cs.size=9) (v0 v1 v2 v3 v4 v5 v6 v7 v8:Value):
 au (((((((((w.setCell ⟨g,0,none⟩ v0).setCell ⟨g,1,none⟩ v1).setCell ⟨g,2,none⟩ v2).setCell ⟨g,3,none⟩ v3).setCell ⟨g,4,none⟩ v4).setCell ⟨g,5,none⟩ v5).setCell ⟨g,6,none⟩ v6).setCell ⟨g,7,none⟩ v7).setCell ⟨g,8,none⟩ v8) g 66 #[v0,v1,v2,v3,v4,v5,v6,v7,v8]:=by
 obtain⟨a0,A,a2,a3,a4,a5,B,D,E,rfl⟩:∃a0 A a2 a3 a4 a5 B D E,cs=#[a0,A,a2,a3,a4,a5,B,D,E]:=by
  obtain⟨l⟩:=cs
  match l,hs with
  |[a0,A,a2,a3,a4,a5,B,D,E],_=>exact⟨_,_,_,_,_,_,_,_,_,rfl⟩
 exact((((((((h.set 0 v0 (by show 0<9;decide)).set 1 v1 (by show 1<9;decide)).set 2 v2 (by show 2<9;decide)).set 3 v3 (by show 3<9;decide)).set 4 v4 (by show 4<9;decide)).set 5 v5 (by show 5<9;decide)).set 6 v6 (by show 6<9;decide)).set 7 v7 (by show 7<9;decide)).set 8 v8 (by show 8<9;decide)
theorem sC (g:Nat) (v0 v1 v2 v3 v4 v5 v6 v7 v8:Value):
 Kept (aA g) w (((((((((w.setCell ⟨g,0,none⟩ v0).setCell ⟨g,1,none⟩ v1).setCell ⟨g,2,none⟩ v2).setCell ⟨g,3,none⟩ v3).setCell ⟨g,4,none⟩ v4).setCell ⟨g,5,none⟩ v5).setCell ⟨g,6,none⟩ v6).setCell ⟨g,7,none⟩ v7).setCell ⟨g,8,none⟩ v8):=
 (((((((((Kept.refl (aA g) w).setCell (a:=⟨g,0,none⟩) (.inr rfl) v0).setCell (a:=⟨g,1,none⟩) (.inr rfl) v1).setCell (a:=⟨g,2,none⟩) (.inr rfl) v2).setCell (a:=⟨g,3,none⟩) (.inr rfl) v3).setCell (a:=⟨g,4,none⟩) (.inr rfl) v4).setCell (a:=⟨g,5,none⟩) (.inr rfl) v5).setCell (a:=⟨g,6,none⟩) (.inr rfl) v6).setCell (a:=⟨g,7,none⟩) (.inr rfl) v7).setCell (a:=⟨g,8,none⟩) (.inr rfl) v8
theorem RX {fn:Func} (hf:fn.results=#[.cell 2 66,.tmp 3]) (tmps:Array Value) (w:World) (g:Nat) (v:Value) (ht:tmps.getD 2 undef=.pointer (some ⟨g,0,none⟩)) (hv:tmps.getD 3 undef=v)
 (h:af) (hb:au w g 66 (aa h)):(results fn tmps).run Tryz.prog w=.ok (.tuple #[.agg (aa h),v]) w:=by
 have hl:=vL w g (str h.name) (str h.link) _ _ _ _ _ _ _ hb;have B:tmps[2]?.getD undef=.pointer (some ⟨g,0,none⟩):=by simpa using ht
 have A:tmps[3]?.getD undef=v:=by simpa using hv
 simp only[results,hf];simp[Result.andThen,B,A,asAddr,hl,aa]
def Pt (w:World) (m:aB) (e:Ending) (w':World):Prop:=
 ∃q d,e=.returned (.tuple #[.agg (aa (bJ m)),.slice q (bq m).length d])∧(bq m).length≤d∧d≤maxLen∧bG w' q (bq m).length (bq m)∧Below w.heap.size w w'
theorem SP.done {wx wy:World} {M H:Array Value} {m:aB} (h:SP w M H (bq m) wx) (hk:Kept (aA (w.heap.size+1)) wx wy) {q:Option Addr} {n d:Nat} (hl:au wx (w.heap.size+3) 64 #[.slice q n d]):
 (bq m).length=n∧(bq m).length≤d∧d≤maxLen∧bG wy q (bq m).length (bq m)∧Below w.heap.size w wy:=by
 obtain⟨v,h1,B⟩:=h.ls
 have e:v=.slice q n d:=by
  have c1:=h1.cell 0;rw[hl.cell 0]at c1
  simpa using c1.symm
 have D:=cg B hk (fun k J e=>by
  have:=(B.lt k J).1;have:k=w.heap.size+1:=e
  omega)
 obtain⟨N,L,A,E,G,I⟩:=ru D;rw[e]at A
 cases A
 exact⟨rfl,E,G,I,h.bel.trans (hk.below h.bel.size (fun k hk=>by have:k=w.heap.size+1:=hk;omega))⟩
theorem RU (m:aB):bq m=((((([]:bW)++(if rb m then[(aJ 4,m.path)]else[]))++(if pP m then[(aJ 5,m.target)]else[]))++(if 2097151<m.uid then[(aJ 0,aM m.uid.toNat)]else[]))++
 (if 2097151<m.gid then[(aJ 1,aM m.gid.toNat)]else[]))++(if 8589934591<m.time then[(aJ 2,aM m.time.toNat)]else[]):=by
 rw[List.nil_append];rfl
theorem Sg (m:aB) (p:Option Addr) (c:Nat) (w:World) (hg:kS m) (hN:Need w):
 Calls Tryz.prog 81 #[.agg (jB m p c)] w (Pt w m):=by
 have OE:=hg.Fx;have OI:=hg.Ku;obtain⟨bl,oE⟩:∃bl,m.body.length=bl:=⟨_,rfl⟩
 obtain⟨u,hu⟩:∃u:Nat,m.uid=(u:Int):=⟨m.uid.toNat,by have:=hg.uid;omega⟩
 obtain⟨g,ZJ⟩:∃g:Nat,m.gid=(g:Int):=⟨m.gid.toNat,by have:=hg.gid;omega⟩
 obtain⟨t,ht⟩:∃t:Nat,m.time=(t:Int):=⟨m.time.toNat,by have:=hg.time;omega⟩
 have qa:u≤9223372036854775807:=by have:=hg.uid;omega
 have zk:g≤9223372036854775807:=by have:=hg.gid;omega
 have y:t≤9223372036854775807:=by have:=hg.time;omega
 obtain⟨b0,QN⟩:∃b,(o7 m.path).isSome=b:=⟨_,rfl⟩
 obtain⟨A,G⟩:∃b,rb m=b:=⟨_,rfl⟩
 obtain⟨ll,Mc⟩:∃b,pP m=b:=⟨_,rfl⟩
 obtain⟨f1,L7⟩:∃f1,decide (m.target.length≤100)=f1:=⟨_,rfl⟩
 have HLP:Hid ((!b0||!sx m.path)=A):=Qh (by
  rw[←G,←QN];unfold rb
  cases o7 m.path<;>rfl)
 have Te:Hid ((!f1||!sx m.target)=ll):=Qh (by
  rw[←Mc,←L7];unfold pP
  congr 1
  by_cases h:m.target.length≤100
  ·simp[h]
  ·simp[h];omega)
 have hd1:decide (((str m.target).size:Int)≤100)=f1:=by
  rw[←L7,ax]
  by_cases h:m.target.length≤100
  ·rw[decide_eq_true h,decide_eq_true (by omega)]
  ·rw[decide_eq_false h,decide_eq_false (by omega)]
 obtain⟨rs1,z⟩:∃rs1:bW,(if A=true then[]++[(aJ 4,m.path)]else[])=rs1:=⟨_,rfl⟩
 obtain⟨rs2,oU⟩:∃rs2:bW,(if ll=true then rs1++[(aJ 5,m.target)]else rs1)=rs2:=⟨_,rfl⟩
 obtain⟨rs3,OG⟩:∃rs3:bW,(if 2097151<u then rs2++[(aJ 0,aM u)]else rs2)=rs3:=⟨_,rfl⟩
 obtain⟨rs4,GL⟩:∃rs4:bW,(if 2097151<g then rs3++[(aJ 1,aM g)]else rs3)=rs4:=⟨_,rfl⟩
 obtain⟨rs5,UJ⟩:∃rs5:bW,(if 8589934591<t then rs4++[(aJ 2,aM t)]else rs4)=rs5:=⟨_,rfl⟩
 have l1:rs1.length≤1:=by rw[←z];split<;>simp
 have l2:rs2.length≤2:=by rw[←oU];split;(rw[Qf];simp only[List.length_cons,List.length_nil];omega);omega
 have l3:rs3.length≤3:=by rw[←OG];split;(rw[Qf];simp only[List.length_cons,List.length_nil];omega);omega
 have l4:rs4.length≤4:=by rw[←GL];split;(rw[Qf];simp only[List.length_cons,List.length_nil];omega);omega
 have KT:Hid (bq m=rs5):=Qh (by
  have e:∀(c:Prop) [Decidable c] (a:bW) (r:List UInt8 × List UInt8),a++(if c then[r]else[])=if c then a++[r]else a:=fun c _ a r=>by split<;>simp
  have c1:((2097151:Int)<(u:Int))↔2097151<u:=by omega
  have c2:((2097151:Int)<(g:Int))↔2097151<g:=by omega
  have c3:((8589934591:Int)<(t:Int))↔8589934591<t:=by omega
  rw[RU,e,e,e,e,e,G,Mc,hu,ZJ,ht,←UJ,←GL,←OG,←oU,←z]
  simp only[Int.toNat_natCast,c1,c2,c3])
 have HH5:Hid (aa (bJ m)=HC (if A=true then bN else m.path) (if ll=true then bN else m.target) m.kind m.mode (if 2097151<u then 0 else(u:Int)) (if 2097151<g then 0 else(g:Int)) (if 8589934591<t then 0 else(t:Int)) (bl:Int)):=Qh (by
  unfold bJ HC aa;rw[G,Mc,hu,ZJ,ht,oE];have c1:((2097151:Int)<(u:Int))↔2097151<u:=by omega
  have c2:((2097151:Int)<(g:Int))↔2097151<g:=by omega
  have c3:((8589934591:Int)<(t:Int))↔8589934591<t:=by omega
  simp only[c1,c2,c3])
 unfold jB;rw[oE,hu,ZJ,ht]
 obtain⟨W1,jK⟩:∃W1,((((w.alloc (.cells #[.string (str m.path),.string (str m.target),.int .u8 (m.kind.toNat:Int),.int .i64 m.mode,.int .i64 (u:Int),.int .i64 (g:Int),.int .i64 (t:Int),.slice p bl c] 48)).alloc
  (.cells #[.string ⟨#[]⟩,.string ⟨#[]⟩,.int .u8 0,.int .i64 0,.int .i64 0,.int .i64 0,.int .i64 0,.int .i64 0,.bool false] 66)).alloc
  (.cells #[.string (str m.path),.string (str m.target),.int .u8 (m.kind.toNat:Int),.int .i64 m.mode,.int .i64 (u:Int),.int .i64 (g:Int),.int .i64 (t:Int),.int .i64 (bl:Int),.bool false] 66)).alloc
  (.cells #[.slice none 0 0] 64)).alloc (.cells #[.func (.func 120) #[] #[.pointer (some ⟨w.heap.size+3,0,none⟩)]] 189)=W1:=⟨_,rfl⟩
 have l:SP w #[.string (str m.path),.string (str m.target),.int .u8 (m.kind.toNat:Int),.int .i64 m.mode,.int .i64 (u:Int),.int .i64 (g:Int),.int .i64 (t:Int),.slice p bl c] (HC m.path m.target m.kind m.mode (u:Int) (g:Int) (t:Int) (bl:Int)) [] W1:=by
  rw[←jK];have J:=fun(w:World) (o:Obj)=>World.size_alloc w o
  have b1:=au.new (w.alloc (.cells #[.string (str m.path),.string (str m.target),.int .u8 (m.kind.toNat:Int),.int .i64 m.mode,.int .i64 (u:Int),.int .i64 (g:Int),.int .i64 (t:Int),.slice p bl c] 48)) 66 #[.string ⟨#[]⟩,.string ⟨#[]⟩,.int .u8 0,.int .i64 0,.int .i64 0,.int .i64 0,.int .i64 0,.int .i64 0,.bool false];rw[J]at b1;obtain⟨V1,E⟩:∃V1,(w.alloc (.cells #[.string (str m.path),.string (str m.target),.int .u8 (m.kind.toNat:Int),.int .i64 m.mode,.int .i64 (u:Int),.int .i64 (g:Int),.int .i64 (t:Int),.slice p bl c] 48)).alloc (.cells #[.string ⟨#[]⟩,.string ⟨#[]⟩,.int .u8 0,.int .i64 0,.int .i64 0,.int .i64 0,.int .i64 0,.int .i64 0,.bool false] 66)=V1:=⟨_,rfl⟩
  have L:V1.heap.size=w.heap.size+2:=by rw[←E,J,J]
  have m1:au V1 w.heap.size 48 #[.string (str m.path),.string (str m.target),.int .u8 (m.kind.toNat:Int),.int .i64 m.mode,.int .i64 (u:Int),.int .i64 (g:Int),.int .i64 (t:Int),.slice p bl c]:=by rw[←E];exact(au.new w _ _).alloc _
  have H:Below w.heap.size w V1:=by rw[←E];exact((Below.refl _ w).alloc (Qk _) _).alloc (by simp) _
  rw[E]at b1⊢;have B:=au.new V1 66 (HC m.path m.target m.kind m.mode (u:Int) (g:Int) (t:Int) (bl:Int));rw[L]at B;have b3:=au.new (V1.alloc (.cells (HC m.path m.target m.kind m.mode (u:Int) (g:Int) (t:Int) (bl:Int)) 66)) 64 #[.slice none 0 0];rw[J,L]at b3;have b4:=au.new ((V1.alloc (.cells (HC m.path m.target m.kind m.mode (u:Int) (g:Int) (t:Int) (bl:Int)) 66)).alloc (.cells #[.slice none 0 0] 64)) 189 #[.func (.func 120) #[] #[.pointer (some ⟨w.heap.size+3,0,none⟩)]];rw[J,J,L]at b4;exact⟨((H.alloc H.size _).alloc (H.alloc H.size _).size _).alloc ((H.alloc H.size _).alloc (H.alloc H.size _).size _).size _,((m1.alloc _).alloc _).alloc _,((b1.alloc _).alloc _).alloc _,(B.alloc _).alloc _,⟨_,b3.alloc _,World.ownsRow_nil _ _ _ _⟩,b4⟩
 have SH:=Qh jK;have O:=Qh l;have HN:=Qh hN;have I:=Qh (And.intro OE OI);have NZ:=Qh (And.intro qa (And.intro zk y));have Ij:=Qh (And.intro l1 (And.intro l2 (And.intro l3 l4)));obtain⟨cx,cy,X2⟩:=Wp m.path;rw[QN]at X2;have HCV:=Qh X2;have SF:=Qh z;have wv:=Qh oU;have Xw:=Qh OG;have Il:=Qh GL;have az2:=Qh UJ;have hmf:∀(fn:Fn) (first cap:Array Value) (w:World),(Instr.makeFunc fn first cap).run Tryz.prog w=.ok (.func fn first cap) w:=fun _ _ _ _=>rfl
 clear l hN hg oE jK OE OI X2 hu ZJ ht qa zk y QN G Mc L7 z oU OG GL UJ l1 l2 l3 l4
 go_enter Tryz.func81,Tryz.ntmps81
 have E1:Hid ((if A=true then(HC m.path m.target m.kind m.mode (u:Int) (g:Int) (t:Int) (bl:Int)).setIfInBounds 0 (.string (str bN))else(HC m.path m.target m.kind m.mode (u:Int) (g:Int) (t:Int) (bl:Int)))=(HC (if A=true then bN else m.path) m.target m.kind m.mode (u:Int) (g:Int) (t:Int) (bl:Int))):=Qh (by split<;>simp[HC]);have E2:Hid ((if ll=true then(HC (if A=true then bN else m.path) m.target m.kind m.mode (u:Int) (g:Int) (t:Int) (bl:Int)).setIfInBounds 1 (.string (str bN))else(HC (if A=true then bN else m.path) m.target m.kind m.mode (u:Int) (g:Int) (t:Int) (bl:Int)))=(HC (if A=true then bN else m.path) (if ll=true then bN else m.target) m.kind m.mode (u:Int) (g:Int) (t:Int) (bl:Int))):=Qh (by split<;>simp[HC]);have E3:Hid ((if 2097151<u then(HC (if A=true then bN else m.path) (if ll=true then bN else m.target) m.kind m.mode (u:Int) (g:Int) (t:Int) (bl:Int)).setIfInBounds 4 (.int .i64 0)else(HC (if A=true then bN else m.path) (if ll=true then bN else m.target) m.kind m.mode (u:Int) (g:Int) (t:Int) (bl:Int)))=(HC (if A=true then bN else m.path) (if ll=true then bN else m.target) m.kind m.mode (if 2097151<u then 0 else(u:Int)) (g:Int) (t:Int) (bl:Int))):=Qh (by split<;>simp[HC]);have E4:Hid ((if 2097151<g then(HC (if A=true then bN else m.path) (if ll=true then bN else m.target) m.kind m.mode (if 2097151<u then 0 else(u:Int)) (g:Int) (t:Int) (bl:Int)).setIfInBounds 5 (.int .i64 0)else(HC (if A=true then bN else m.path) (if ll=true then bN else m.target) m.kind m.mode (if 2097151<u then 0 else(u:Int)) (g:Int) (t:Int) (bl:Int)))=(HC (if A=true then bN else m.path) (if ll=true then bN else m.target) m.kind m.mode (if 2097151<u then 0 else(u:Int)) (if 2097151<g then 0 else(g:Int)) (t:Int) (bl:Int))):=Qh (by split<;>simp[HC])
 have E5:Hid ((if 8589934591<t then(HC (if A=true then bN else m.path) (if ll=true then bN else m.target) m.kind m.mode (if 2097151<u then 0 else(u:Int)) (if 2097151<g then 0 else(g:Int)) (t:Int) (bl:Int)).setIfInBounds 6 (.int .i64 0)else(HC (if A=true then bN else m.path) (if ll=true then bN else m.target) m.kind m.mode (if 2097151<u then 0 else(u:Int)) (if 2097151<g then 0 else(g:Int)) (t:Int) (bl:Int)))=(HC (if A=true then bN else m.path) (if ll=true then bN else m.target) m.kind m.mode (if 2097151<u then 0 else(u:Int)) (if 2097151<g then 0 else(g:Int)) (if 8589934591<t then 0 else(t:Int)) (bl:Int))):=Qh (by split<;>simp[HC]);go_upto_region 6 with fail;rw[SH.out];have y0:=O.out.mem.cell 0;simp only[Qc,Qa]at y0;go_wp2_with fail;refine(Je (str m.path) W1 (by rw[ax];have:=I.out.1;omega)).mono ?_;rw[aS,HCV.out];rintro e w2 ⟨rfl,jm⟩;have vU:=Qh (O.out.kept jm);have DW:=Qh (HN.out.below vU.out.bel);clear jm y0;go_wp2_with fail;refine(zW w w2 #[.string (str m.path),.string (str m.target),.int .u8 (m.kind.toNat:Int),.int .i64 m.mode,.int .i64 (u:Int),.int .i64 (g:Int),.int .i64 (t:Int),.slice p bl c] (HC m.path m.target m.kind m.mode (u:Int) (g:Int) (t:Int) (bl:Int)) (HC (if A=true then bN else m.path) m.target m.kind m.mode (u:Int) (g:Int) (t:Int) (bl:Int)) [] rs1 0 (aJ 4) m.path b0 A vU.out (by show 0<9;decide) rfl HLP.out E1.out SF.out (by have:=I.out.1;omega) (by simp)).mono ?_;rintro e w3 ⟨rfl,hs⟩;have SG:=Qh hs;clear hs;have y1:=SG.out.mem.cell 1;simp only[Qc,Qa,Qb]at y1;go_wp2_with fail
 refine(zW w w3 #[.string (str m.path),.string (str m.target),.int .u8 (m.kind.toNat:Int),.int .i64 m.mode,.int .i64 (u:Int),.int .i64 (g:Int),.int .i64 (t:Int),.slice p bl c] (HC (if A=true then bN else m.path) m.target m.kind m.mode (u:Int) (g:Int) (t:Int) (bl:Int)) (HC (if A=true then bN else m.path) (if ll=true then bN else m.target) m.kind m.mode (u:Int) (g:Int) (t:Int) (bl:Int)) rs1 rs2 1 (aJ 5) m.target f1 ll SG.out (by show 1<9;decide) rfl Te.out E2.out wv.out (by have:=I.out.2;omega) (by have:=Ij.out.1;omega)).mono ?_;rintro e w4 ⟨rfl,hs⟩;have R:=Qh hs;clear hs y1 hd1;have HN4:=Qh (HN.out.below R.out.bel);go_wp2_with fail;refine(rX w w4 #[.string (str m.path),.string (str m.target),.int .u8 (m.kind.toNat:Int),.int .i64 m.mode,.int .i64 (u:Int),.int .i64 (g:Int),.int .i64 (t:Int),.slice p bl c] (HC (if A=true then bN else m.path) (if ll=true then bN else m.target) m.kind m.mode (u:Int) (g:Int) (t:Int) (bl:Int)) (HC (if A=true then bN else m.path) (if ll=true then bN else m.target) m.kind m.mode (if 2097151<u then 0 else(u:Int)) (g:Int) (t:Int) (bl:Int)) rs2 rs3 4 (aJ 0) u 2097151 R.out (by show 4<9;decide) rfl E3.out Xw.out NZ.out.1 (by have:=Ij.out.2.1;omega) HN4.out).mono ?_;rintro e w5 ⟨rfl,hs⟩;have T:=Qh hs;clear hs;have HN5:=Qh (HN.out.below T.out.bel);go_wp2_with fail;refine(rX w w5 #[.string (str m.path),.string (str m.target),.int .u8 (m.kind.toNat:Int),.int .i64 m.mode,.int .i64 (u:Int),.int .i64 (g:Int),.int .i64 (t:Int),.slice p bl c] (HC (if A=true then bN else m.path) (if ll=true then bN else m.target) m.kind m.mode (if 2097151<u then 0 else(u:Int)) (g:Int) (t:Int) (bl:Int)) (HC (if A=true then bN else m.path) (if ll=true then bN else m.target) m.kind m.mode (if 2097151<u then 0 else(u:Int)) (if 2097151<g then 0 else(g:Int)) (t:Int) (bl:Int)) rs3 rs4 5 (aJ 1) g 2097151 T.out (by show 5<9;decide) rfl E4.out Il.out NZ.out.2.1 (by have:=Ij.out.2.2.1;omega) HN5.out).mono ?_;rintro e w6 ⟨rfl,hs⟩;have U:=Qh hs;clear hs;have HN6:=Qh (HN.out.below U.out.bel);go_wp2_with fail
 refine(rX w w6 #[.string (str m.path),.string (str m.target),.int .u8 (m.kind.toNat:Int),.int .i64 m.mode,.int .i64 (u:Int),.int .i64 (g:Int),.int .i64 (t:Int),.slice p bl c] (HC (if A=true then bN else m.path) (if ll=true then bN else m.target) m.kind m.mode (if 2097151<u then 0 else(u:Int)) (if 2097151<g then 0 else(g:Int)) (t:Int) (bl:Int)) (HC (if A=true then bN else m.path) (if ll=true then bN else m.target) m.kind m.mode (if 2097151<u then 0 else(u:Int)) (if 2097151<g then 0 else(g:Int)) (if 8589934591<t then 0 else(t:Int)) (bl:Int)) rs4 rs5 6 (aJ 2) t 8589934591 U.out (by show 6<9;decide) rfl E5.out az2.out NZ.out.2.2 (by have:=Ij.out.2.2.2;omega) HN6.out).mono ?_;rintro e w7 ⟨rfl,hs⟩;have hH:=HH5.out;obtain⟨A0,W⟩:∃x,(if A=true then bN else m.path)=x:=⟨_,rfl⟩
 obtain⟨A1,X⟩:∃x,(if ll=true then bN else m.target)=x:=⟨_,rfl⟩
 obtain⟨A4,Y⟩:∃x:Int,(if 2097151<u then 0 else(u:Int))=x:=⟨_,rfl⟩
 obtain⟨A5,Z⟩:∃x:Int,(if 2097151<g then 0 else(g:Int))=x:=⟨_,rfl⟩
 obtain⟨A6,f⟩:∃x:Int,(if 8589934591<t then 0 else(t:Int))=x:=⟨_,rfl⟩
 rw[W,X,Y,Z,f]at hs hH;rw[←KT.out]at hs;have V:=Qh hs;have HHF:=Qh hH;obtain⟨v,hl,bM⟩:=hs.ls;obtain⟨q,d,rfl,_,_,_⟩:=ru bM;obtain⟨n,hn⟩:∃n,(bq m).length=n:=⟨_,rfl⟩
 rw[hn]at hl;have q0:=hl.cell 0;simp only[Qc,Qa]at q0;have HL:=Qh hl;have D:=hs.hd;have z0:=D.cell 0;have L:=D.cell 1;have z2:=D.cell 2;have z3:=D.cell 3;have z4:=D.cell 4;have z5:=D.cell 5;have z6:=D.cell 6;have z7:=D.cell 7;have z8:=D.cell 8;simp only[HC,Qc,Qa,Qb]at z0 L z2 z3 z4 z5 z6 z7 z8;have B:=hs.res;have r0:=B.cell 0;have r1:=B.cell 1;have r2:=B.cell 2;have r3:=B.cell 3;have r4:=B.cell 4;have r5:=B.cell 5;have r6:=B.cell 6;have r7:=B.cell 7;have r8:=B.cell 8;have f0:=B.frozen 0;have f1':=B.frozen 1;have f2:=B.frozen 2;have f3:=B.frozen 3;have f4:=B.frozen 4;have f5:=B.frozen 5;have f6:=B.frozen 6;have f7:=B.frozen 7;have f8:=B.frozen 8;simp only[aa,bg,Qc,Qa,Qb]at r0 r1 r2 r3 r4 r5 r6 r7 r8;clear hs hl bM D B W X Y Z f hH hn;go_upto_region 12 with fail
 go_region
 all_goals
  clear r0 r1 r2 r3 r4 r5 r6 r7 r8 f0 f1' f2 f3 f4 f5 f6 f7 f8 z0 L z2 z3 z4 z5 z6 z7 z8 q0;go_wp2;have M:=Qh (uy V.out.res rfl (.string (str A0)) (.string (str A1)) (.int .u8 (m.kind.toNat:Int)) (.int .i64 m.mode) (.int .i64 A4) (.int .i64 A5) (.int .i64 A6) (.int .i64 (bl:Int)) (.bool false)).drew;have N:=Qh (sC (w:=w7) (w.heap.size+1) (.string (str A0)) (.string (str A1)) (.int .u8 (m.kind.toNat:Int)) (.int .i64 m.mode) (.int .i64 A4) (.int .i64 A5) (.int .i64 A6) (.int .i64 (bl:Int)) (.bool false)).drew;obtain⟨W8,hW8⟩:∃W8,(((((((((w7.setCell ⟨w.heap.size+1,0,none⟩ (.string (str A0))).setCell ⟨w.heap.size+1,1,none⟩ (.string (str A1))).setCell ⟨w.heap.size+1,2,none⟩ (.int .u8 (m.kind.toNat:Int))).setCell ⟨w.heap.size+1,3,none⟩ (.int .i64 m.mode)).setCell ⟨w.heap.size+1,4,none⟩ (.int .i64 A4)).setCell ⟨w.heap.size+1,5,none⟩ (.int .i64 A5)).setCell ⟨w.heap.size+1,6,none⟩ (.int .i64 A6)).setCell ⟨w.heap.size+1,7,none⟩ (.int .i64 (bl:Int))).setCell ⟨w.heap.size+1,8,none⟩ (.bool false)).drew=W8:=⟨_,rfl⟩
  rw[hW8]at M N⊢;have Xg:au W8 (w.heap.size+1) 66 (aa (bJ m)):=by rw[HHF.out];exact M.out
  refine bodyPost_ret (RX rfl _ _ (w.heap.size+1) (.slice q n d) rfl rfl (bJ m) Xg) rfl ?_;obtain⟨e1,e2,e3,e4,e5⟩:=V.out.done N.out HL.out;exact⟨q,d,by rw[e1],e2,e3,e4,e5⟩
end Wr
end Go.Proofs.YtdhibldkldlfpaaGreatDoor
