/- Merged. -/
import Derived.Test.YtdhibldkldlfpaaGreatDoorEmitOnceX12
import Derived.RangeFuncNested
import Derived.Test.YtdhibldkldlfpaaGreatDoorEmitOnceX25
import Derived.Test.YtdhibldkldlfpaaGreatDoorEmitOnceX14
import Derived.Test.YtdhibldkldlfpaaGreatDoorEmitOnceX15
import Derived.Test.YtdhibldkldlfpaaGreatDoorEmitOnceX26
import Derived.Test.YtdhibldkldlfpaaGreatDoorEmitOnceX8
import Derived.Test.YtdhibldkldlfpaaGreatDoorEmitOnceX4
namespace Go.Proofs.YtdhibldkldlfpaaGreatDoor
namespace Bk
end Bk
set_option linter.unusedVariables false
set_option maxRecDepth 100000
open Go.ChangeShapes Go.WideShapes Go.ChangeAt Go.RowKit Base bJ
variable {b g i k n o:Nat} {S:Nat→Prop} {p:Option Addr} {W w w':World}
namespace Bk
def ao (W:World) (b:Nat) (t:TypeId) (cs:Array Value):Prop:=W.heap[b]? =some (.cells cs t (0,0))
section
variable {W W':World} {b:Nat} {t:TypeId} {cs:Array Value}
theorem ao.lt (h:ao W b t cs):b<W.heap.size:=(Array.getElem?_eq_some_iff.1 h).1
theorem ao.cell (h:ao W b t cs) (i:Nat):W.cell? ⟨b,i,none⟩=cs[i]? :=by simp[World.cell?,show W.heap[b]? =_ from h]
theorem ao.frozen (h:ao W b t cs) (i:Nat):W.frozen? ⟨b,i,none⟩=false:=by simp[World.frozen?,show W.heap[b]? =_ from h]
theorem ao.new (W:World) (t:TypeId) (cs:Array Value):ao (W.alloc (.cells cs t)) W.heap.size t cs:=World.alloc_heap_new W _
theorem ao.kept (h:ao W b t cs) {row:Option Nat} (hg:W.grownBy W' row) (hr:∀r,row=some r→∃o:Obj,W.heap[r]? =some o∧o.isCells=false):ao W' b t cs:=
 (grownBy_keeps_cells hg hr h rfl).trans h
theorem ao.alloc (h:ao W b t cs) (o:Obj):ao (W.alloc o) b t cs:=h.kept (World.grownBy_alloc W o none) (fun r e=>by cases e)
theorem ao.drewN (h:ao W b t cs) (n:Nat):ao (W.drewN n) b t cs:=h
theorem ao.drew (h:ao W b t cs):ao W.drew b t cs:=h
theorem ao.below (h:ao W b t cs) (hb:Below n W W') (hn:b<n):ao W' b t cs:=(hb.block b hn).trans h
theorem ao.bG (h:ao W b t cs) (hk:Kept S W W') (hn:¬S b):ao W' b t cs:=hk.some_ h hn
theorem ao.set (h:ao W b t cs) (i:Nat) (v:Value) (hi:i<cs.size):ao (W.setCell ⟨b,i,none⟩ v) b t (cs.set i v hi):=by
 obtain⟨hl,he⟩:=Array.getElem?_eq_some_iff.1 h;unfold ao World.setCell;refine Array.getElem?_eq_some_iff.2 ⟨by simpa using hl,?_⟩;rw[Array.getElem_modify,if_pos rfl,he];simp[Array.setIfInBounds,hi]
theorem ao.other (h:ao W b t cs) {b':Nat} (cE:b'≠b) (v:Value):ao (W.setCell ⟨b',i,none⟩ v) b t cs:=by
 unfold ao;rw[Below.heap_setCell _ _ _ _ (fun e=>cE (by simpa using e.symm))];exact h
end
end Bk
namespace Mem
open cr Bk Go.Lib
structure MP where
 m:aq
 p:Option Addr
 c:Nat
def NG:aq:=⟨[],[],0,0,0,0,0,[]⟩
def bB:MP:=⟨NG,none,0⟩
def cI (m:aq) (p:Option Addr) (c:Nat):Array Value:=#[.string (str m.path),.string (str m.target),.int .u8 (m.kind.toNat:Int),.int .i64 m.mode,.int .i64 m.uid,.int .i64 m.gid,.int .i64 m.time,.slice p m.body.length c]
def MP.cs (x:MP):Array Value:=cI x.m x.p x.c
theorem MP.qV (x:MP):x.cs.toList=[.string (str x.m.path),.string (str x.m.target),.int .u8 (x.m.kind.toNat:Int),.int .i64 x.m.mode,.int .i64 x.m.uid,.int .i64 x.m.gid,.int .i64 x.m.time,.slice x.p x.m.body.length x.c]:=rfl
structure dx (w:World) (x:MP):Prop where
 iZ:cj w x.p x.m.body.length x.m.body
 le:x.m.body.length≤x.c
 mx:x.c≤maxLen
theorem dx.kept {x:MP} (h:dx w x) (hk:Kept S w w') (hn:0<x.m.body.length→∀a,x.p=some a→¬S a.block):dx w' x:=⟨h.iZ.kept hk hn,h.le,h.mx⟩
theorem dx.below {x:MP} (h:dx w x) (hb:Below w.heap.size w w'):dx w' x:=⟨h.iZ.below hb,h.le,h.mx⟩
def gA (xs:List MP):List Value:=xs.flatMap fun x=>x.cs.toList
theorem Bb (x:MP) (xs:List MP):gA (x::xs)=x.cs.toList++gA xs:=rfl
theorem Bc (xs:List MP) (x:MP):gA (xs++[x])=gA xs++x.cs.toList:=by simp[gA]
theorem Fv (xs:List MP):∀i,i<xs.length→∀j,j<8→(gA xs)[8*i+j]? =(xs.getD i bB).cs[j]? :=by
 induction xs with
 |nil=>intro i h;simp at h
 |cons x xs ih=>
  intro i h j A;rw[Bb];have hl:x.cs.toList.length=8:=rfl
  cases i with
  |zero=>rw[List.getElem?_append_left (by omega),show 8*0+j=j by omega,Array.getElem?_toList];rfl
  |succ i=>
   rw[List.getElem?_append_right (by omega),hl,show 8*(i+1)+j - 8=8*i+j by omega,ih i (by simpa using h) j A];rfl
theorem Fw (xs:List MP):∀u∈gA xs,u.oneCell'=true:=by
 intro u hu;obtain⟨x,_,A⟩:=List.mem_flatMap.1 hu;rw[MP.qV]at A;simp only[List.mem_cons,List.not_mem_nil,or_false]at A;rcases A with rfl|rfl|rfl|rfl|rfl|rfl|rfl|rfl<;>rfl
def cN (w:World) (p:Option Addr) (n:Nat) (xs:List MP):Prop:=
 xs.length=n∧(∀x∈xs,dx w x)∧(0<n→∃b o,p=some ⟨b,o,none⟩∧b<w.heap.size∧∀i,i<n→∀j,j<8→w.cell? ⟨b,o+8*i+j,none⟩=(xs.getD i bB).cs[j]?)
theorem cN.below {xs:List MP} (h:cN w p n xs) (hb:Below w.heap.size w w'):cN w' p n xs:=by
 refine⟨h.1,fun x E=>(h.2.1 x E).below hb,fun B=>?_⟩;obtain⟨b,o,rfl,A,hc⟩:=h.2.2 B;refine⟨b,o,rfl,Nat.lt_of_lt_of_le A hb.size,fun i hi j D=>?_⟩;rw[hb.cell (p:=⟨b,o+8*i+j,none⟩) A];exact hc i hi j D
theorem sH (w:World) (p:Option Addr):cN w p 0 []:=⟨rfl,fun x A=>by simp at A,fun h=>by omega⟩
theorem iQ {base:Nat} {e:TypeId} {v:Value} {xs:List MP} (h:w.ownsRow base e 8 v xs.length (gA xs)) (hx:∀x∈xs,dx w x):∃p c,v=.slice p xs.length c∧xs.length≤c∧c≤maxLen∧cN w p xs.length xs:=by
 rcases h.2 with⟨rfl,A⟩|⟨g,cap,cur,rfl,hb,hg,hn,hc,hs,ht⟩
 ·exact⟨none,0,by rw[A],by omega,by decide,rfl,hx,fun h=>by omega⟩
 ·refine⟨some ⟨g,0,none⟩,cap,rfl,hn,hc,rfl,hx,fun A=>⟨g,0,rfl,(Array.getElem?_eq_some_iff.1 hg).1,fun i hi j B=>?_⟩⟩
  have get:∀j,j<8*xs.length→w.cell? ⟨g,j,none⟩=(gA xs)[j]? :=fun j B=>by
   unfold World.cell?;rw[hg,←ht,List.getElem?_take,if_pos (by omega)];simp
  rw[Nat.zero_add,get _ (by omega)];exact Fv xs i hi j B
theorem cN.cells {xs:List MP} (h:cN w p n xs) (hi:i<n):∃b o,p=some ⟨b,o,none⟩∧b<w.heap.size∧dx w (xs.getD i bB)∧
 w.cell? ⟨b,o+8*i,none⟩=some (.string (str (xs.getD i bB).m.path))∧w.cell? ⟨b,o+8*i+1,none⟩=some (.string (str (xs.getD i bB).m.target))∧
 w.cell? ⟨b,o+8*i+2,none⟩=some (.int .u8 ((xs.getD i bB).m.kind.toNat:Int))∧w.cell? ⟨b,o+8*i+3,none⟩=some (.int .i64 (xs.getD i bB).m.mode)∧
 w.cell? ⟨b,o+8*i+4,none⟩=some (.int .i64 (xs.getD i bB).m.uid)∧w.cell? ⟨b,o+8*i+5,none⟩=some (.int .i64 (xs.getD i bB).m.gid)∧
 w.cell? ⟨b,o+8*i+6,none⟩=some (.int .i64 (xs.getD i bB).m.time)∧w.cell? ⟨b,o+8*i+7,none⟩=some (.slice (xs.getD i bB).p (xs.getD i bB).m.body.length (xs.getD i bB).c):=by
 obtain⟨b,o,rfl,B,hc⟩:=h.2.2 (by omega)
 have A:dx w (xs.getD i bB):=h.2.1 _ (by
  have hl:i<xs.length:=by rw[h.1];exact hi
  rw[List.getD,Qd hl]
  exact List.getElem_mem hl)
 exact⟨b,o,rfl,B,A,hc i hi 0 (by omega),hc i hi 1 (by omega),hc i hi 2 (by omega),hc i hi 3 (by omega),hc i hi 4 (by omega),hc i hi 5 (by omega),hc i hi 6 (by omega),hc i hi 7 (by omega)⟩
theorem DE:(Tryz.prog.info? 48).map (fun i=>(i.zero,i.size,i.bytes))=some (some (.agg #[.string ⟨#[]⟩,.string ⟨#[]⟩,.int .u8 0,.int .i64 0,.int .i64 0,.int .i64 0,.int .i64 0,.slice none 0 0]),8,96):=by kernel_rfl
theorem qN {P:Program} (base:Nat) (t ty e:TypeId) (i:TypeInfo) (z:Value) (size bytes:Nat) (ht:P.underlying t=some (.slice e)) (hi:P.info? e=some i) (hz:i.zero=some z)
 (eo:i.size=size) (wK:i.bytes=bytes) (Ps:z.cells.size=size) (hsz:0<size)
 (v:Value) (n:Nat) (xs:List Value) (ba:w.ownsRow base e size v n xs)
 (a:Addr) (m c:Nat) (news:List Value) (hl:news.length=m*size) (nV:∀j u,news[j]? =some u→w.cell? (a.add j)=some u) (h1:∀u∈news,u.oneCell'=true)
 (OA:n+m≤maxLen) (nf:(n+m)*bytes≤140737488355328) (eR:base≤w.heap.size):
 ∃v' w',(Builtin.append_ #[t,t] ty #[v,.slice (some a) m c]).run P w=.ok v' w'∧w'.ownsRow base e size v' (n+m) (xs++news)∧w.grownBy w' v.ownBlock∧eL w v v':=by
 obtain⟨v',w',B,G,H,M⟩:=run_append_own (P:=P) w base t ty e i z size bytes ht hi hz eo wK Ps hsz v n xs ba a m c news hl nV h1 OA nf eR;refine⟨v',w',B,G,H,?_⟩;have D:=ba;rcases ba.2 with⟨rfl,rfl⟩|⟨g,cap,cur,rfl,hbg,hg,FL,OT,hcs,SQ⟩
 ·have I:xs=[]:=List.eq_nil_of_length_eq_zero (by simpa using ba.1)
  subst I;obtain⟨v2,L,A,E,_,_⟩:=run_append_own (P:=P) w w.heap.size t ty e i z size bytes ht hi hz eo wK Ps hsz _ 0 [] (World.ownsRow_nil w w.heap.size e size) a m c news hl nV h1 OA nf (Qk _);rw[B]at A
  cases A
  exact fun k hk=>Or.inr (E.lt k hk).1
 ·by_cases J:n+m≤cap
  ·obtain⟨L,A,_,_⟩:=run_append_own_spare (P:=P) w base t ty e i size ht hi eo g n cap xs D a m c news hl nV h1 J
   rw[B]at A
   cases A
   exact fun k hk=>Or.inl hk
  ·have holds:∀j u,xs[j]? =some u→w.cell? ((⟨g,0,none⟩:Addr).add j)=some u:=D.cells (g:=g) rfl
   have A:=run_append_grow (P:=P) w t ty e i z ht hi hz ⟨g,0,none⟩ n cap xs (by rw[eo];exact D.1) holds a m c news (by rw[eo];exact hl) nV (by omega) (by unfold maxLen at OA;omega) (growslice_fits (by omega) (by rw[wK];exact nf));rw[B]at A
   cases A
   exact fun k hk=>Or.inr (by simp[Value.ownBlock]at hk;omega)
theorem tC (xs:List MP) (k:Nat) (h:k<xs.length):(xs.take (k+1)).map MP.m=(xs.take k).map MP.m++[(xs.getD k bB).m]:=by
 rw[List.take_succ_eq_append_getElem h,List.map_append,List.getD,Qd h];rfl
theorem k8 (xs:List MP) (k:Nat) (h:k<xs.length):xs.getD k bB∈xs:=by
 rw[List.getD,Qd h];exact List.getElem_mem h
theorem kV {m:Nat} {bs:List UInt8} (h:cj w p m bs) (h0:0<m) {y:Addr} (hy:p=some y):y.block<w.heap.size:=by
 obtain⟨b,o,he,A,_⟩:=h.cell h0;rw[hy]at he
 cases he
 exact A
def oN (w:World) (b o:Nat) (y:MP):Prop:=
 w.cell? ⟨b,o,none⟩=some (.string (str y.m.path))∧w.cell? ⟨b,o+1,none⟩=some (.string (str y.m.target))∧w.cell? ⟨b,o+2,none⟩=some (.int .u8 (y.m.kind.toNat:Int))∧w.cell? ⟨b,o+3,none⟩=some (.int .i64 y.m.mode)∧
 w.cell? ⟨b,o+4,none⟩=some (.int .i64 y.m.uid)∧w.cell? ⟨b,o+5,none⟩=some (.int .i64 y.m.gid)∧w.cell? ⟨b,o+6,none⟩=some (.int .i64 y.m.time)∧w.cell? ⟨b,o+7,none⟩=some (.slice y.p y.m.body.length y.c)
theorem oN.below {y:MP} (h:oN w b o y) (hb:b<w.heap.size) (hw:Below w.heap.size w w'):oN w' b o y:=by
 unfold oN at h⊢;simp only[hw.cell (p:=⟨b,_,none⟩) hb];exact h
theorem cN.jx {xs:List MP} (h:cN w p n xs) (hi:i<n):∃b o,p=some ⟨b,o,none⟩∧b<w.heap.size∧dx w (xs.getD i bB)∧oN w b (o+i*8) (xs.getD i bB):=by
 obtain⟨b,o,E,D,B,c0,c1,c2,c3,A,c5,c6,c7⟩:=h.cells hi;rw[Nat.mul_comm]at c0 c1 c2 c3 A c5 c6 c7;exact⟨b,o,E,D,B,c0,c1,c2,c3,A,c5,c6,c7⟩
end Mem
namespace fb
open cr Bk Mem Go.Lib
variable {ys:List MP} {t:TypeId}
structure NP where
 m:av
 p:Option Addr
 c:Nat
def aN:NP:=⟨bL,none,0⟩
def kq (m:av) (p:Option Addr) (c:Nat):Array Value:=#[.string (str m.path),.string (str m.target),.string (str m.ai),.int .u8 (m.kind.toNat:Int),.int .i64 m.mode,.int .i64 m.uid,.int .i64 m.gid,.int .i64 m.time,.slice p m.body.length c]
def NP.cs (x:NP):Array Value:=kq x.m x.p x.c
theorem NP.qV (x:NP):x.cs.toList=[.string (str x.m.path),.string (str x.m.target),.string (str x.m.ai),.int .u8 (x.m.kind.toNat:Int),.int .i64 x.m.mode,.int .i64 x.m.uid,.int .i64 x.m.gid,.int .i64 x.m.time,.slice x.p x.m.body.length x.c]:=rfl
structure fa (w:World) (x:NP):Prop where
 iZ:cj w x.p x.m.body.length x.m.body
 le:x.m.body.length≤x.c
 mx:x.c≤maxLen
theorem fa.kept {x:NP} (h:fa w x) (hk:Kept S w w') (hn:0<x.m.body.length→∀a,x.p=some a→¬S a.block):fa w' x:=⟨h.iZ.kept hk hn,h.le,h.mx⟩
theorem fa.below {x:NP} (h:fa w x) (hb:Below w.heap.size w w'):fa w' x:=⟨h.iZ.below hb,h.le,h.mx⟩
def iE (xs:List NP):List Value:=xs.flatMap fun x=>x.cs.toList
theorem rN (x:NP) (xs:List NP):iE (x::xs)=x.cs.toList++iE xs:=rfl
theorem nQ (xs:List NP):(iE xs).length=9*xs.length:=by
 induction xs with
 |nil=>rfl
 |cons x xs ih=>rw[rN,Qf,ih,NP.qV,List.length_cons];simp only[List.length_cons,List.length_nil];omega
theorem iq (xs:List NP):∀i,i<xs.length→∀j,j<9→(iE xs)[9*i+j]? =(xs.getD i aN).cs[j]? :=by
 induction xs with
 |nil=>intro i h;simp at h
 |cons x xs ih=>
  intro i h j A;rw[rN];have hl:x.cs.toList.length=9:=rfl
  cases i with
  |zero=>rw[List.getElem?_append_left (by omega),show 9*0+j=j by omega,Array.getElem?_toList];rfl
  |succ i=>
   rw[List.getElem?_append_right (by omega),hl,show 9*(i+1)+j - 9=9*i+j by omega,ih i (by simpa using h) j A];rfl
def bt (w:World) (p:Option Addr) (n:Nat) (xs:List NP):Prop:=
 xs.length=n∧(∀x∈xs,fa w x)∧(0<n→∃b o,p=some ⟨b,o,none⟩∧b<w.heap.size∧∀i,i<n→∀j,j<9→w.cell? ⟨b,o+9*i+j,none⟩=(xs.getD i aN).cs[j]?)
theorem bt.below {xs:List NP} (h:bt w p n xs) (hb:Below w.heap.size w w'):bt w' p n xs:=by
 refine⟨h.1,fun x E=>(h.2.1 x E).below hb,fun B=>?_⟩;obtain⟨b,o,rfl,A,hc⟩:=h.2.2 B;refine⟨b,o,rfl,Nat.lt_of_lt_of_le A hb.size,fun i hi j D=>?_⟩;rw[hb.cell (p:=⟨b,o+9*i+j,none⟩) A];exact hc i hi j D
theorem vd (w:World) (p:Option Addr):bt w p 0 []:=⟨rfl,fun x A=>by simp at A,fun h=>by omega⟩
def dW (w:World) (b o:Nat) (y:NP):Prop:=
 w.cell? ⟨b,o,none⟩=some (.string (str y.m.path))∧w.cell? ⟨b,o+1,none⟩=some (.string (str y.m.target))∧w.cell? ⟨b,o+2,none⟩=some (.string (str y.m.ai))∧w.cell? ⟨b,o+3,none⟩=some (.int .u8 (y.m.kind.toNat:Int))∧w.cell? ⟨b,o+4,none⟩=some (.int .i64 y.m.mode)∧
 w.cell? ⟨b,o+5,none⟩=some (.int .i64 y.m.uid)∧w.cell? ⟨b,o+6,none⟩=some (.int .i64 y.m.gid)∧w.cell? ⟨b,o+7,none⟩=some (.int .i64 y.m.time)∧w.cell? ⟨b,o+8,none⟩=some (.slice y.p y.m.body.length y.c)
theorem dW.below {y:NP} (h:dW w b o y) (hb:b<w.heap.size) (hw:Below w.heap.size w w'):dW w' b o y:=by
 unfold dW at h⊢;simp only[hw.cell (p:=⟨b,_,none⟩) hb];exact h
theorem bt.dX {xs:List NP} (h:bt w p n xs) (hi:i<n):∃b o,p=some ⟨b,o,none⟩∧b<w.heap.size∧fa w (xs.getD i aN)∧dW w b (o+i*9) (xs.getD i aN):=by
 obtain⟨b,o,rfl,B,hc⟩:=h.2.2 (by omega)
 have A:fa w (xs.getD i aN):=h.2.1 _ (by
  have hl:i<xs.length:=by rw[h.1];exact hi
  rw[List.getD,Qd hl]
  exact List.getElem_mem hl)
 rw[Nat.mul_comm i 9];exact⟨b,o,rfl,B,A,hc i hi 0 (by omega),hc i hi 1 (by omega),hc i hi 2 (by omega),hc i hi 3 (by omega),hc i hi 4 (by omega),hc i hi 5 (by omega),hc i hi 6 (by omega),hc i hi 7 (by omega),hc i hi 8 (by omega)⟩
theorem eN {y:NP} (h:ao w b 52 y.cs):dW w b 0 y:=by
 refine⟨h.cell 0,h.cell 1,h.cell 2,h.cell 3,h.cell 4,h.cell 5,h.cell 6,h.cell 7,h.cell 8⟩
theorem IM (xs:List NP) (k:Nat) (h:k<xs.length):xs.getD k aN∈xs:=by
 rw[List.getD,Qd h];exact List.getElem_mem h
theorem k5 (xs:List NP) (k:Nat):(xs.map NP.m).getD k bL=(xs.getD k aN).m:=by
 rw[List.getD,List.getD,List.getElem?_map]
 cases xs[k]? <;>rfl
theorem bt.drop {xs:List NP} (h:bt w p n xs) (hk:k≤n):bt w p k (xs.take k):=by
 refine⟨by rw[Qg,h.1];omega,fun x D=>h.2.1 x (List.mem_of_mem_take D),fun E=>?_⟩;obtain⟨b,o,rfl,A,hc⟩:=h.2.2 (by omega);refine⟨b,o,rfl,A,fun i hi j B=>?_⟩;rw[hc i (by omega) j B]
 congr 2
 simp[List.getD,hi]
theorem Ca (xs ys:List NP) (hl:xs.length=ys.length) (h:∀j,j<xs.length→(xs.getD j aN).m=(ys.getD j aN).m):xs.map NP.m=ys.map NP.m:=by
 apply List.ext_getElem (by simpa using hl);intro i h1 A;simp only[Qi]at h1 A;have:=h i h1;rw[List.getD,List.getD,Qd h1,Qd A]at this
 simpa using this
theorem ou (xs ys:List NP) (j:Nat) (hj:j<xs.length) (LV:j<ys.length) (h:(xs.getD j aN).m≠(ys.getD j aN).m):¬xs.map NP.m=ys.map NP.m:=fun he=>h (by
 have:=congrArg (fun l=>l[j]?) he;simp only[List.getElem?_map,Qd hj,Qd LV,Option.map_some,Option.some.injEq]at this;rw[List.getD,List.getD,Qd hj,Qd LV]
 simpa using this)
theorem DF:(Tryz.prog.info? 52).map (fun i=>(i.zero,i.size,i.bytes))=some (some (.agg #[.string ⟨#[]⟩,.string ⟨#[]⟩,.string ⟨#[]⟩,.int .u8 0,.int .i64 0,.int .i64 0,.int .i64 0,.int .i64 0,.slice none 0 0]),9,112):=by kernel_rfl
def Rw (W:World) (g:Nat) (zs:List NP):Prop:=ao W g 52 (iE zs).toArray
theorem o8 {ar:Array Value} {zs:List NP} (hs:ar.size=9*zs.length) (h:∀i,i<zs.length→∀j,j<9→ar[9*i+j]? =(zs.getD i aN).cs[j]?):ar=(iE zs).toArray:=by
 apply Array.ext
 ·rw[hs];simp[nQ]
 ·intro i h1 B
  have hi:i / 9<zs.length:=by omega
  have e:9*(i / 9)+i % 9=i:=by omega
  have A:=h (i / 9) hi (i % 9) (by omega);have a2:=iq zs (i / 9) hi (i % 9) (by omega);rw[e]at A a2;have:ar[i]? =(iE zs).toArray[i]? :=by rw[A,←a2,Qc]
  rw[Array.getElem?_eq_getElem h1,Array.getElem?_eq_getElem B]at this;exact Option.some.inj this
theorem Rw.nodes {zs:List NP} (h:Rw W g zs) (hb:∀x∈zs,fa W x):bt W (some ⟨g,0,none⟩) zs.length zs:=
 ⟨rfl,hb,fun _=>⟨g,0,rfl,ao.lt h,fun i hi j A=>by rw[Nat.zero_add,ao.cell h,Qc,iq zs i hi j A]⟩⟩
theorem Rw.dX {zs:List NP} (h:Rw W g zs) (hk:k<zs.length):dW W g (k*9) (zs.getD k aN):=by
 have key:∀j,j<9→W.cell? ⟨g,k*9+j,none⟩=(zs.getD k aN).cs[j]? :=fun j A=>by
  rw[ao.cell h,Qc,Nat.mul_comm,iq zs k hk j A]
 exact⟨key 0 (by omega),key 1 (by omega),key 2 (by omega),key 3 (by omega),key 4 (by omega),key 5 (by omega),key 6 (by omega),key 7 (by omega),key 8 (by omega)⟩
theorem getSet (zs:List NP) (k i:Nat) (y:NP) (hk:k<zs.length):(zs.set k y).getD i aN=if i=k then y else zs.getD i aN:=by
 rw[List.getD,List.getD,List.getElem?_set]
 by_cases h:k=i
 ·subst h
  simp[hk]
 ·rw[if_neg h,if_neg (fun e=>h e.symm)]
theorem uI (zs:List NP):(iE zs).toArray.size=9*zs.length:=by simp[nQ]
theorem bz {cs:Array Value} (h:ao W b t cs) (i:Nat) (v:Value):ao (W.setCell ⟨b,i,none⟩ v) b t (cs.setIfInBounds i v):=by
 obtain⟨hl,he⟩:=Array.getElem?_eq_some_iff.1 h;unfold ao World.setCell;refine Array.getElem?_eq_some_iff.2 ⟨by simpa using hl,?_⟩;rw[Array.getElem_modify,if_pos rfl,he];rfl
def ug (A:Array Value) (b:Nat):List Value→Array Value
 |[]=>A
 |v::vs=>ug (A.setIfInBounds b v) (b+1) vs
theorem vC (vs:List Value):∀(A:Array Value) (b:Nat),(ug A b vs).size=A.size:=by
 induction vs with
 |nil=>intro A b;rfl
 |cons v vs ih=>intro A b;rw[ug,ih];simp
theorem zI (vs:List Value):∀(A:Array Value) (b m:Nat),b+vs.length≤A.size→(ug A b vs)[m]? =if b≤m∧m<b+vs.length then vs[m - b]? else A[m]? :=by
 induction vs with
 |nil=>intro A b m _;rw[ug,if_neg (by simp only[List.length_nil];omega)]
 |cons v vs ih=>
  intro A b m h;rw[List.length_cons]at h;rw[ug,ih _ _ _ (by simp;omega),List.length_cons,Array.getElem?_setIfInBounds]
  by_cases h1:b=m
  ·subst h1
   rw[if_neg (by omega),if_pos rfl,if_pos (by omega),if_pos (by omega)];simp
  ·rw[if_neg h1]
   by_cases B:b+1≤m∧m<b+1+vs.length
   ·rw[if_pos B,if_pos (by omega),show m - b=(m - (b+1))+1 by omega,Qb]
   ·rw[if_neg B,if_neg (by omega)]
theorem Rw.set {zs:List NP} (h:Rw W g zs) (hk:k<zs.length) (y:NP):
 Rw (((((((((W.setCell ⟨g,k*9,none⟩ (.string (str y.m.path))).setCell ⟨g,k*9+1,none⟩ (.string (str y.m.target))).setCell ⟨g,k*9+2,none⟩ (.string (str y.m.ai))).setCell ⟨g,k*9+3,none⟩ (.int .u8 (y.m.kind.toNat:Int))).setCell ⟨g,k*9+4,none⟩ (.int .i64 y.m.mode)).setCell ⟨g,k*9+5,none⟩ (.int .i64 y.m.uid)).setCell ⟨g,k*9+6,none⟩ (.int .i64 y.m.gid)).setCell ⟨g,k*9+7,none⟩ (.int .i64 y.m.time)).setCell ⟨g,k*9+8,none⟩ (.slice y.p y.m.body.length y.c)) g (zs.set k y):=by
 have hs:=uI zs;have B:ao W g 52 (iE zs).toArray:=h;have E:=(bz (bz (bz (bz (bz (bz (bz (bz (bz B (k*9) (.string (str y.m.path))) (k*9+1) (.string (str y.m.target))) (k*9+2) (.string (str y.m.ai))) (k*9+3) (.int .u8 (y.m.kind.toNat:Int))) (k*9+4) (.int .i64 y.m.mode)) (k*9+5) (.int .i64 y.m.uid)) (k*9+6) (.int .i64 y.m.gid)) (k*9+7) (.int .i64 y.m.time)) (k*9+8) (.slice y.p y.m.body.length y.c))
 have e:ug (iE zs).toArray (k*9) y.cs.toList=(iE (zs.set k y)).toArray:=by
  apply o8
  ·rw[vC,List.length_set];exact hs
  ·intro i hi j D
   rw[List.length_set]at hi;have hl:y.cs.toList.length=9:=rfl;rw[getSet zs k i y hk,zI _ _ _ _ (by rw[hl,hs];omega),hl]
   by_cases A:i=k
   ·subst A
    rw[if_pos rfl,if_pos (by omega),show 9*i+j - i*9=j by omega,Array.getElem?_toList]
   ·rw[if_neg A,if_neg (by omega),Qc,iq zs i hi j D]
 unfold Rw;rw[←e];exact E
theorem zF {cs:Array Value} (hb:ao W b t cs) (cE:g≠b) (a0 a1 a2 a3 a4 a5 a6 a7 a8:Value):
 ao (((((((((W.setCell ⟨g,k*9,none⟩ a0).setCell ⟨g,k*9+1,none⟩ a1).setCell ⟨g,k*9+2,none⟩ a2).setCell ⟨g,k*9+3,none⟩ a3).setCell ⟨g,k*9+4,none⟩ a4).setCell ⟨g,k*9+5,none⟩ a5).setCell ⟨g,k*9+6,none⟩ a6).setCell ⟨g,k*9+7,none⟩ a7).setCell ⟨g,k*9+8,none⟩ a8) b t cs:=
 (((((((((hb.other cE a0).other cE a1).other cE a2).other cE a3).other cE a4).other cE a5).other cE a6).other cE a7).other cE a8)
theorem D6 (hg:S g) (a0 a1 a2 a3 a4 a5 a6 a7 a8:Value):
 Kept S W (((((((((W.setCell ⟨g,k*9,none⟩ a0).setCell ⟨g,k*9+1,none⟩ a1).setCell ⟨g,k*9+2,none⟩ a2).setCell ⟨g,k*9+3,none⟩ a3).setCell ⟨g,k*9+4,none⟩ a4).setCell ⟨g,k*9+5,none⟩ a5).setCell ⟨g,k*9+6,none⟩ a6).setCell ⟨g,k*9+7,none⟩ a7).setCell ⟨g,k*9+8,none⟩ a8):=
 ((((((((((Kept.refl S W).setCell (a:=⟨g,k*9,none⟩) (.inr hg) a0).setCell (a:=⟨g,k*9+1,none⟩) (.inr hg) a1).setCell (a:=⟨g,k*9+2,none⟩) (.inr hg) a2).setCell (a:=⟨g,k*9+3,none⟩) (.inr hg) a3).setCell (a:=⟨g,k*9+4,none⟩) (.inr hg) a4).setCell (a:=⟨g,k*9+5,none⟩) (.inr hg) a5).setCell (a:=⟨g,k*9+6,none⟩) (.inr hg) a6).setCell (a:=⟨g,k*9+7,none⟩) (.inr hg) a7).setCell (a:=⟨g,k*9+8,none⟩) (.inr hg) a8)
theorem Rw.lead {zs:List NP} (h:Rw W g zs) (hk:k<zs.length) (l:List UInt8):
 Rw (W.setCell ⟨g,k*9+2,none⟩ (.string (str l))) g (zs.set k ⟨{(zs.getD k aN).m with ai:=l},(zs.getD k aN).p,(zs.getD k aN).c⟩):=by
 have hs:=uI zs;have E:ao W g 52 (iE zs).toArray:=h;have:=E.set (k*9+2) (.string (str l)) (by omega);unfold Rw;rw[←o8 (ar:=_) (zs:=zs.set k ⟨{(zs.getD k aN).m with ai:=l},(zs.getD k aN).p,(zs.getD k aN).c⟩) ?_ ?_]
 ·exact this
 ·simp only[Array.size_set,List.length_set];exact hs
 ·intro i hi j A
  rw[List.length_set]at hi;rw[getSet zs k i _ hk,Array.getElem?_set]
  by_cases D:i=k
  ·subst D
   rw[if_pos rfl]
   by_cases B:j=2
   ·subst B
    rw[if_pos (by omega)];rfl
   ·rw[if_neg (by omega),Qc,iq zs i hi j A]
    match j,A,B with
    |0,_,_=>rfl
    |1,_,_=>rfl
    |3,_,_=>rfl
    |4,_,_=>rfl
    |5,_,_=>rfl
    |6,_,_=>rfl
    |7,_,_=>rfl
    |8,_,_=>rfl
  ·rw[if_neg D,if_neg (by omega),Qc,iq zs i hi j A]
theorem sF (n:Nat):(madeCells #[.string ⟨#[]⟩,.string ⟨#[]⟩,.string ⟨#[]⟩,.int .u8 0,.int .i64 0,.int .i64 0,.int .i64 0,.int .i64 0,.slice none 0 0] (n*9))=(iE (List.replicate n aN)).toArray:=by
 apply o8
 ·rw[size_madeCells,List.length_replicate];omega
 ·intro i hi j A
  rw[List.length_replicate]at hi
  have e:(List.replicate n aN).getD i aN=aN:=by
   rw[List.getD,List.getElem?_replicate,if_pos hi];rfl
  rw[e];unfold madeCells;rw[Array.getElem?_map,Array.getElem?_range,if_pos (by omega)];simp only[Option.map_some];rw[show(9*i+j) % (#[Value.string ⟨#[]⟩,.string ⟨#[]⟩,.string ⟨#[]⟩,.int .u8 0,.int .i64 0,.int .i64 0,.int .i64 0,.int .i64 0,.slice none 0 0]:Array Value).size=j by show(9*i+j) % 9=j;omega]
  match j,A with
  |0,_=>rfl
  |1,_=>rfl
  |2,_=>rfl
  |3,_=>rfl
  |4,_=>rfl
  |5,_=>rfl
  |6,_=>rfl
  |7,_=>rfl
  |8,_=>rfl
theorem D7 {B:Nat} (h:w'.ownsRow B 52 9 (.slice (some ⟨g,0,none⟩) n n) n (iE (List.replicate n aN))):Rw w' g (List.replicate n aN):=by
 rcases h.2 with⟨h1,_⟩|⟨g',cap,cur,h1,_,hg,h2,h3,h4,h5⟩
 ·cases h1
 ·cases h1
  unfold Rw ao
  have:cur=(iE (List.replicate n aN)).toArray:=by
   apply Array.toList_inj.1;rw[←h5,List.take_of_length_le (by simp;omega)]
  rw[←this];exact hg
def Rm (W:World) (g:Nat) (ys:List MP):Prop:=∃cur,ao W g 48 cur∧8*ys.length≤cur.size∧∀i,i<ys.length→∀j,j<8→cur[8*i+j]? =(ys.getD i bB).cs[j]?
theorem Rm.jx (h:Rm W g ys) (hk:k<ys.length):oN W g (k*8) (ys.getD k bB):=by
 obtain⟨cur,A,_,hc⟩:=h
 have key:∀j,j<8→W.cell? ⟨g,k*8+j,none⟩=(ys.getD k bB).cs[j]? :=fun j B=>by
  rw[A.cell,Nat.mul_comm,hc k hk j B]
 exact⟨key 0 (by omega),key 1 (by omega),key 2 (by omega),key 3 (by omega),key 4 (by omega),key 5 (by omega),key 6 (by omega),key 7 (by omega)⟩
theorem LF (hk:k<ys.length):ys.getD k bB=ys[k]:=by rw[List.getD,Qd hk];rfl
theorem l8 (ys:List MP) (k i:Nat) (y:MP) (hk:k<ys.length):(ys.set k y).getD i bB=if i=k then y else ys.getD i bB:=by
 rw[List.getD,List.getD,List.getElem?_set]
 by_cases h:k=i
 ·subst h
  simp[hk]
 ·rw[if_neg h,if_neg (fun e=>h e.symm)]
theorem Rm.WS (h:Rm W g ys) (hb:∀y∈ys,dx W y):cN W (some ⟨g,0,none⟩) ys.length ys:=by
 obtain⟨cur,A,_,hc⟩:=h;exact⟨rfl,hb,fun _=>⟨g,0,rfl,A.lt,fun i hi j B=>by rw[Nat.zero_add,A.cell,hc i hi j B]⟩⟩
def Mx (W:World) (g o:Nat) (y:MP):World:=(((((((W.setCell ⟨g,o,none⟩ (.string (str y.m.path))).setCell ⟨g,o+1,none⟩ (.string (str y.m.target))).setCell ⟨g,o+2,none⟩ (.int .u8 (y.m.kind.toNat:Int))).setCell ⟨g,o+3,none⟩ (.int .i64 y.m.mode)).setCell ⟨g,o+4,none⟩ (.int .i64 y.m.uid)).setCell ⟨g,o+5,none⟩ (.int .i64 y.m.gid)).setCell ⟨g,o+6,none⟩ (.int .i64 y.m.time)).setCell ⟨g,o+7,none⟩ (.slice y.p y.m.body.length y.c)
theorem Rm.set (h:Rm W g ys) (hk:k<ys.length) (y:MP):Rm (Mx W g (k*8) y) g (ys.set k y):=by
 obtain⟨cur,B,hs,hc⟩:=h;have E:=(bz (bz (bz (bz (bz (bz (bz (bz B (k*8) (.string (str y.m.path))) (k*8+1) (.string (str y.m.target))) (k*8+2) (.int .u8 (y.m.kind.toNat:Int))) (k*8+3) (.int .i64 y.m.mode)) (k*8+4) (.int .i64 y.m.uid)) (k*8+5) (.int .i64 y.m.gid)) (k*8+6) (.int .i64 y.m.time)) (k*8+7) (.slice y.p y.m.body.length y.c))
 have e:ug cur (k*8) y.cs.toList=((((((((cur.setIfInBounds (k*8) (.string (str y.m.path))).setIfInBounds (k*8+1) (.string (str y.m.target))).setIfInBounds (k*8+2) (.int .u8 (y.m.kind.toNat:Int))).setIfInBounds (k*8+3) (.int .i64 y.m.mode)).setIfInBounds (k*8+4) (.int .i64 y.m.uid)).setIfInBounds (k*8+5) (.int .i64 y.m.gid)).setIfInBounds (k*8+6) (.int .i64 y.m.time)).setIfInBounds (k*8+7) (.slice y.p y.m.body.length y.c)):=by
  rw[MP.qV];simp only[ug,Nat.add_assoc,Nat.reduceAdd]
 refine⟨ug cur (k*8) y.cs.toList,by unfold Mx;rw[e];exact E,by rw[vC,List.length_set];exact hs,fun i hi j D=>?_⟩;rw[List.length_set]at hi;have hl:y.cs.toList.length=8:=rfl;rw[l8 ys k i y hk,zI _ _ _ _ (by rw[hl];omega),hl]
 by_cases A:i=k
 ·subst A
  rw[if_pos rfl,if_pos (by omega),show 8*i+j - i*8=j by omega,Array.getElem?_toList]
 ·rw[if_neg A,if_neg (by omega),hc i hi j D]
theorem Gs (hg:S g) (y:MP):Kept S W (Mx W g o y):=
 ((((((((Kept.refl S W).setCell (a:=⟨g,o,none⟩) (.inr hg) _).setCell (a:=⟨g,o+1,none⟩) (.inr hg) _).setCell (a:=⟨g,o+2,none⟩) (.inr hg) _).setCell (a:=⟨g,o+3,none⟩) (.inr hg) _).setCell (a:=⟨g,o+4,none⟩) (.inr hg) _).setCell (a:=⟨g,o+5,none⟩) (.inr hg) _).setCell (a:=⟨g,o+6,none⟩) (.inr hg) _).setCell (a:=⟨g,o+7,none⟩) (.inr hg) _
theorem tj {W':World} (h:Rm W g ys) (hb:Below W.heap.size W W'):Rm W' g ys:=by
 obtain⟨cur,h1,A,B⟩:=h;exact⟨cur,h1.below hb h1.lt,A,B⟩
end fb
namespace tN
open cr Bk Mem fb Go.Lib
variable {ss:List (List UInt8)}
def oR (w:World) (p:Option Addr) (n:Nat) (ss:List (List UInt8)):Prop:=
 ss.length=n∧(0<n→∃b o,p=some ⟨b,o,none⟩∧b<w.heap.size∧∀i,i<n→w.cell? ⟨b,o+i,none⟩=some (.string (str (ss.getD i []))))
theorem oR.below (h:oR w p n ss) (hb:Below w.heap.size w w'):oR w' p n ss:=by
 refine⟨h.1,fun B=>?_⟩;obtain⟨b,o,rfl,A,hc⟩:=h.2 B;refine⟨b,o,rfl,Nat.lt_of_lt_of_le A hb.size,fun i hi=>?_⟩;rw[hb.cell (p:=⟨b,o+i,none⟩) A];exact hc i hi
theorem Ma:(Tryz.prog.info? 9).map (fun i=>(i.zero,i.size,i.bytes))=some (some (.string ⟨#[]⟩),1,16):=by kernel_rfl
def Rs (W:World) (g:Nat) (ss:List (List UInt8)):Prop:=∃cur,ao W g 9 cur∧ss.length≤cur.size∧∀i,i<ss.length→cur[i]? =some (.string (str (ss.getD i [])))
theorem Rs.at (h:Rs W g ss) (hk:k<ss.length):W.cell? ⟨g,k,none⟩=some (.string (str (ss.getD k [])))∧W.frozen? ⟨g,k,none⟩=false:=by
 obtain⟨cur,A,_,hc⟩:=h;exact⟨by rw[A.cell];exact hc k hk,A.frozen k⟩
theorem Dq (ss:List (List UInt8)) (k i:Nat) (y:List UInt8) (hk:k<ss.length):(ss.set k y).getD i []=if i=k then y else ss.getD i []:=by
 rw[List.getD,List.getD,List.getElem?_set]
 by_cases h:k=i
 ·subst h
  simp[hk]
 ·rw[if_neg h,if_neg (fun e=>h e.symm)]
theorem Rs.set (h:Rs W g ss) (hk:k<ss.length) (y:List UInt8):Rs (W.setCell ⟨g,k,none⟩ (.string (str y))) g (ss.set k y):=by
 obtain⟨cur,B,hs,hc⟩:=h;refine⟨cur.setIfInBounds k (.string (str y)),bz B k _,by rw[List.length_set];simpa using hs,fun i hi=>?_⟩;rw[List.length_set]at hi;rw[Dq ss k i y hk,Array.getElem?_setIfInBounds]
 by_cases A:k=i
 ·subst A
  rw[if_pos rfl,if_pos (by omega),if_pos rfl]
 ·rw[if_neg A,if_neg (fun e=>A e.symm),hc i hi]
theorem Rs.strs (h:Rs W g ss):oR W (some ⟨g,0,none⟩) ss.length ss:=by
 obtain⟨cur,A,_,hc⟩:=h;exact⟨rfl,fun _=>⟨g,0,rfl,A.lt,fun i hi=>by rw[Nat.zero_add,A.cell,hc i hi]⟩⟩
theorem Km {W':World} (h:Rs W g ss) (hb:Below W.heap.size W W'):Rs W' g ss:=by
 obtain⟨cur,h1,A,B⟩:=h;exact⟨cur,h1.below hb h1.lt,A,B⟩
end tN
namespace Mem
open Go.Deep cr Bk Hp Head Rec Go.Lib
theorem jx:Tryz.prog.cellsOf 48=8:=by kernel_rfl
instance:Inhabited MP:=⟨bB⟩
section
variable {H:Type} {enc:TypeId × Value→H} {w:World} {base:Nat} {held:Bool}
end
end Mem
namespace fb
open Go.Deep cr Bk Hp Head Rec Mem Go.Lib
instance:Inhabited NP:=⟨aN⟩
section
variable {H:Type} {enc:TypeId × Value→H} {w:World} {base:Nat} {held:Bool}
end
end fb
namespace Attr
open Go.Shelf cr Rec qR Bk Hp Go.Lib
def nL (c:UInt8) (l:List UInt8):List UInt8 × List UInt8 × Bool:=
 if 0≤Lib.indexByte l c then(l.take (Lib.indexByte l c).toNat,l.drop ((Lib.indexByte l c).toNat+1),true)else(l,[],false)
theorem Iz (c:UInt8) (l:List UInt8):(nL c l).1.length≤l.length∧(nL c l).2.1.length≤l.length:=by
 unfold nL;split
 ·simp only[Qg,Qe];omega
 ·simp
theorem CB (c:UInt8) (l:List UInt8) (w:World) (hm:l.length≤140737488351232):
 Calls Tryz.prog 181 #[.string (str l),.string ⟨#[c]⟩] w fun e w'=>e=.returned (.tuple #[.string (str (nL c l).1),.string (str (nL c l).2.1),.bool (nL c l).2.2])∧∃n,w'=w.drewN n:=by
 have A:=Any.stringslite_Index_one Tryz.pg (str l) c w;rw[bg]at A;have hs:(str l).size=l.length:=aA l;have G:(⟨#[c]⟩:ByteArray).size=1:=rfl;unfold nL
 by_cases h:0≤Lib.indexByte l c
 ·obtain⟨k,hk⟩:∃k:Nat,Lib.indexByte l c=k:=⟨(Lib.indexByte l c).toNat,by omega⟩
  have H:=(List.getElem?_eq_some_iff.1 (Lib.indexByte_some hk).1).1;rw[if_pos h,hk,Int.toNat_natCast];rw[hk]at A;clear h hk;simp only;have B:(str l).extract 0 k=str (l.take k):=tA l k;have D:(str l).extract (k+1) (str l).size=str (l.drop (k+1)):=tz l (k+1) _ hs;rw[←B,←D];have c1:(0:Int)≤(k:Int):=by omega
  have c2:(k:Int)≤((str l).size:Int):=by omega
  have c3:(0:Int)≤(k:Int)+1:=by omega
  have I:(k:Int)+1≤((str l).size:Int):=by omega
  have c5:((str l).size:Int)≤140737488351232:=by omega
  clear B D;have mixed:Tryz.prog.follows .mixedOrders=true:=by kernel_rfl
  go_enter Tryz.func181,Tryz.ntmps181
  go_wp2_with (go_at_call 208;refine A.mono ?_;rintro e w' ⟨rfl,rfl⟩)
  go_region_o
  go_wp2
  go_ret3
  exact⟨rfl,1,rfl⟩
 ·rw[if_neg h]
  have E:Lib.indexByte l c=-1:=by have:=Lib.indexByte_ge l c;omega
  rw[E]at A;clear h E
  go_enter Tryz.func181,Tryz.ntmps181
  go_wp2_with (go_at_call 208;refine A.mono ?_;rintro e w' ⟨rfl,rfl⟩)
  go_ret3
  exact⟨rfl,0,rfl⟩
theorem E8 (c:UInt8) (l:List UInt8) (w:World) (hm:l.length≤140737488351232):
 Calls Tryz.prog 141 #[.string (str l),.string ⟨#[c]⟩] w fun e w'=>e=.returned (.tuple #[.string (str (nL c l).1),.string (str (nL c l).2.1),.bool (nL c l).2.2])∧∃n,w'=w.drewN n:=by
 have hc:=CB c l w hm
 go_enter Tryz.func141,Tryz.ntmps141
 go_wp2_with (go_at_call 181;refine hc.mono ?_;rintro e w' ⟨rfl,n,rfl⟩)
 go_ret3
 exact⟨rfl,n,rfl⟩
theorem iB (l:List UInt8) (w:World) (hm:l.length≤140737488351232):
 Calls Tryz.prog 183 #[.string (str l)] w fun e w'=>e=.returned (.bool (l.all aW))∧Below w.heap.size w w':=by
 have A:=Any.strings_Trim_laid Tryz.JG (by kernel_rfl) (str l) ⟨#[48,49,50,51,52,53,54,55,56,57]⟩ w (by rw[aA];omega) (by decide) (ascii_of_all (by decide));rw[bg]at A
 have E:l.all aW=decide (trimS l [48,49,50,51,52,53,54,55,56,57]=[]):=by
  rw[Bool.eq_iff_iff];simp only[decide_eq_true_eq,List.all_eq_true];exact(KA l).symm
 obtain⟨z,B⟩:∃z,trimS l [48,49,50,51,52,53,54,55,56,57]=z:=⟨_,rfl⟩
 have A:Calls Tryz.prog 210 #[.string (str l),.string ⟨#[48,49,50,51,52,53,54,55,56,57]⟩] w fun e w'=>e=.returned (.string (str z))∧Below w.heap.size w w':=by
  rw[←B];exact A
 rw[E,B,←di];clear E B
 go_enter Tryz.func183,Tryz.ntmps183
 go_wp2_with fail
 refine A.mono ?_;rintro e H ⟨rfl,D⟩;have G:=Qh D;clear D A;go_wp2;go_ret;exact⟨rfl,G.out⟩
theorem fR (l:List UInt8) (w:World) (hm:l.length≤140737488351232):
 Calls Tryz.prog 146 #[.string (str l)] w fun e w'=>e=.returned (tF (cJ l))∧Below w.heap.size w w':=by
 have A:=kl (l.length:Int) 1 18 w;have hs:(str l).size=l.length:=aA l;have E:((str l).size:Int)=(l.length:Int):=by rw[hs]
 by_cases h:1≤l.length∧l.length≤18
 ·rw[fj (by omega) (by omega)]at A
  have hd:=iB l w hm
  cases B:l.all aW with
  |false=>
   rw[B]at hd;rw[show cJ l=none by unfold cJ;rw[if_neg (by omega),B];rfl];clear B h hm hs;rw[←E]at A;clear E;have I:=Qh hd;clear hd
   go_enter Tryz.func146,Tryz.ntmps146
   go_wp2_with fail
   refine A.mono ?_;rintro e D ⟨rfl,rfl⟩;clear A;go_wp2_with fail;refine I.out.mono ?_;rintro e D ⟨rfl,G⟩;have H:=Qh G;clear G;go_wp2;go_ret2;exact⟨rfl,H.out⟩
  |true=>
   rw[B]at hd;rw[show cJ l=some (gh l) by unfold cJ;rw[if_neg (by omega),B];rfl];have M:=fun w=>Any.strconv_Atoi Tryz.JC (str l) (gh l) (by rw[hs];omega) (by rw[bg];exact Iu l (by rintro rfl;simp at h) (by simpa using B)) w
   have mixed:Tryz.prog.follows .mixedOrders=true:=by kernel_rfl
   clear B h hm hs;rw[←E]at A;clear E;have I:=Qh hd;have L:=Qh M;clear hd M;obtain⟨n,J⟩:∃n:Int,(gh l:Int)=n:=⟨_,rfl⟩
   rw[show tF (some (gh l))=.tuple #[.int .i64 n,.bool true] by rw[←J];rfl];rw[J]at L;clear J
   go_enter Tryz.func146,Tryz.ntmps146
   go_wp2_with fail
   refine A.mono ?_;rintro e D ⟨rfl,rfl⟩;clear A;go_wp2_with fail;refine I.out.mono ?_;rintro e D ⟨rfl,G⟩;have H:=Qh G;clear G;go_wp2_with fail;refine(L.out D).mono ?_;rintro e w2 ⟨rfl,t,O⟩;have N:Below D.heap.size D w2:=by rw[O];exact vG _ _ _
   have R:=Qh (H.out.trans (N.mono H.out.size));clear O N;go_wp2
   go_quiet_o (fail)
   go_wp2;go_ret2;exact⟨rfl,below_drewN R.out _⟩
 ·rw[iu (by omega)]at A
  rw[show cJ l=none by unfold cJ;rw[if_pos (by omega)]];clear h hm hs;rw[←E]at A;clear E
  go_enter Tryz.func146,Tryz.ntmps146
  go_wp2_with fail
  refine A.mono ?_;rintro e D ⟨rfl,rfl⟩;go_wp2;go_ret2;exact⟨rfl,Below.refl _ _⟩
def Gb (o:Option Nat):Int:=match o with
 |some n=>n
 |none=>0
theorem mq (o:Option Nat):tF o=.tuple #[.int .i64 (Gb o),.bool o.isSome]:=by cases o<;>rfl
theorem Kn (l:List UInt8):uf l=if(nL 46 l).2.1.all aW then cJ (nL 46 l).1 else none:=by
 unfold uf nL
 by_cases h:0≤Lib.indexByte l 46
 ·rw[if_pos h,if_pos h]
 ·rw[if_neg h,if_neg h]
  rfl
theorem zH (l:List UInt8) (w:World) (hm:l.length≤140737488351232):
 Calls Tryz.prog 147 #[.string (str l)] w fun e w'=>e=.returned (tF (uf l))∧Below w.heap.size w w':=by
 have hc:=E8 46 l w hm;obtain⟨h1,J⟩:=Iz 46 l;rw[Kn];generalize nL 46 l=C at hc h1 J⊢;obtain⟨a,r,b⟩:=C;simp only at hc h1 J⊢;have hd:=fun w=>iB r w (by omega)
 have L:=fun w=>fR a w (by omega)
 clear h1 J hm;have E:=Qh hd;have G:=Qh L;clear hd L
 cases H:r.all aW with
 |false=>
  rw[H]at E;clear H
  go_enter Tryz.func147,Tryz.ntmps147
  go_wp2_with fail
  refine hc.mono ?_;rintro e O ⟨rfl,n,rfl⟩;go_wp2_with fail;refine(E.out _).mono ?_;rintro e I ⟨rfl,A⟩;have D:Hid (Below w.heap.size w I):=Qh ((below_drewN (Below.refl _ _) n).trans A);clear A;go_wp2;go_ret2;exact⟨rfl,D.out⟩
 |true=>
  rw[H]at E;clear H;rw[if_pos rfl,mq];simp only[mq]at G;generalize Gb (cJ a)=N at G⊢;generalize (cJ a).isSome=B at G⊢
  go_enter Tryz.func147,Tryz.ntmps147
  go_wp2_with fail
  refine hc.mono ?_;rintro e O ⟨rfl,n,rfl⟩;go_wp2_with fail;refine(E.out _).mono ?_;rintro e I ⟨rfl,A⟩;have D:Hid (Below w.heap.size w I):=Qh ((below_drewN (Below.refl _ _) n).trans A);clear A;go_wp2_with fail;refine(G.out I).mono ?_;rintro e w3 ⟨rfl,A⟩;have M:Hid (Below w.heap.size w w3):=Qh (D.out.trans (A.mono D.out.size));clear A;go_wp2;go_ret2;exact⟨rfl,M.out⟩
theorem GY (v:List UInt8) (hv:v≠[]) (b i:Nat) (t:TypeId) (cs:Array Value) (old:Value) (w:World) (h:ao w b t cs) (hi:i<cs.size) (ho:cs[i]? =some old):
 Calls Tryz.prog 143 #[.pointer (some ⟨b,i,none⟩),.string (str v)] w fun e w'=>e=.returned (.tuple #[])∧w'=w.setCell ⟨b,i,none⟩ (.string (str v)):=by
 have c0:=h.cell i;rw[ho]at c0;have f0:=h.frozen i;have A:(str v).toList.isEmpty=false:=by rw[di];simpa using hv
 clear h hi ho hv
 go_enter Tryz.func143,Tryz.ntmps143
 go_wp2
 go_end0
 exact⟨rfl,rfl⟩
theorem Kv (a:Option Addr) (w:World):
 Calls Tryz.prog 143 #[.pointer a,.string ⟨#[]⟩] w fun e w'=>e=.returned (.tuple #[])∧w=w':=by
 go_enter Tryz.func143,Tryz.ntmps143
 go_wp2
 go_end0
 exact⟨rfl,rfl⟩
theorem bE (v:List UInt8) (b i:Nat) (t:TypeId) (cs:Array Value) (old:List UInt8) (w:World) (h:ao w b t cs) (hi:i<cs.size) (ho:cs[i]? =some (.string (str old))):
 Calls Tryz.prog 143 #[.pointer (some ⟨b,i,none⟩),.string (str v)] w fun e w'=>e=.returned (.tuple #[])∧ao w' b t (cs.set i (.string (str (aB v old))) hi)∧Kept (aw b) w w':=by
 by_cases A:v=[]
 ·subst A
  refine(Kv _ w).mono ?_;rintro e w' ⟨rfl,rfl⟩;refine⟨rfl,?_,Kept.refl _ _⟩
  have e:cs.set i (.string (str (aB [] old))) hi=cs:=by
   apply Array.ext (by simp);intro j h1 D;rw[Array.getElem_set];split
   ·rename_i B
    subst B;rw[Array.getElem?_eq_getElem hi]at ho;exact(Option.some.inj ho).symm
   ·rfl
  rw[e];exact h
 ·refine(GY v A b i t cs _ w h hi ho).mono ?_
  rintro e w' ⟨rfl,rfl⟩;refine⟨rfl,?_,(Kept.refl (aw b) _).setCell (a:=⟨b,i,none⟩) (.inr rfl) _⟩;rw[show aB v old=v from if_neg A];exact h.set i _ hi
def zv (time:Bool):Value:=.func (.func (if time then 147 else 146)) #[] #[]
theorem Gg (time:Bool) (a:Option Addr) (w:World):
 Calls Tryz.prog 145 #[.pointer a,.string ⟨#[]⟩,zv time] w fun e w'=>e=.returned (.bool true)∧w=w':=by
 go_enter Tryz.func145,Tryz.ntmps145
 go_wp2;go_ret;exact⟨rfl,rfl⟩
def tc (time:Bool) (l:List UInt8):Option Nat:=if time then uf l else cJ l
theorem JW (time:Bool) (v:List UInt8) (hv:v≠[]) (hm:v.length≤140737488351232) (b i:Nat) (t:TypeId) (cs:Array Value) (old:Value) (w:World) (hb:ao w b t cs) (hi:i<cs.size) (ho:cs[i]? =some old) (hold:∃k,old=.int .i64 k):
 Calls Tryz.prog 145 #[.pointer (some ⟨b,i,none⟩),.string (str v),zv time] w fun e w'=>e=.returned (.bool (tc time v).isSome)∧ao w' b t (cs.set i (.int .i64 (Gb (tc time v))) hi)∧Kept (aw b) w w':=by
 obtain⟨k,rfl⟩:=hold;have L:(str v).toList.isEmpty=false:=by rw[di];simpa using hv
 have hs:=fun w=>zH v w hm
 have E:=fun w=>fR v w hm
 have G:=Qh hb;have I:=Qh ho;clear hb ho hv hm
 cases time with
 |false=>
  rw[show zv false=.func (.func 146) #[] #[]from rfl,show tc false v=cJ v from rfl];simp only[mq]at E;generalize Gb (cJ v)=N at E⊢;generalize (cJ v).isSome=B at E⊢;have H:=Qh E;clear E hs
  go_enter Tryz.func145,Tryz.ntmps145
  go_wp2_with fail
  refine(H.out w).mono ?_;rintro e J ⟨rfl,D⟩;have A:=G.out.below D G.out.lt;have c0:=A.cell i;rw[I.out]at c0;have f0:=A.frozen i;have H1:=Qh (And.intro A D);clear A D;go_wp2;go_ret;exact⟨rfl,H1.out.1.set i _ hi,(Kept.aM H1.out.2 (aw b)).setCell (a:=⟨b,i,none⟩) (.inr rfl) _⟩
 |true=>
  rw[show zv true=.func (.func 147) #[] #[]from rfl,show tc true v=uf v from rfl];simp only[mq]at hs;generalize Gb (uf v)=N at hs⊢;generalize (uf v).isSome=B at hs⊢;have H:=Qh hs;clear E hs
  go_enter Tryz.func145,Tryz.ntmps145
  go_wp2_with fail
  refine(H.out w).mono ?_;rintro e J ⟨rfl,D⟩;have A:=G.out.below D G.out.lt;have c0:=A.cell i;rw[I.out]at c0;have f0:=A.frozen i;have H1:=Qh (And.intro A D);clear A D;go_wp2;go_ret;exact⟨rfl,H1.out.1.set i _ hi,(Kept.aM H1.out.2 (aw b)).setCell (a:=⟨b,i,none⟩) (.inr rfl) _⟩
theorem aL (time:Bool) (v:List UInt8) (hm:v.length≤140737488351232) (b i:Nat) (t:TypeId) (cs:Array Value) (old:Int) (w:World) (hb:ao w b t cs) (hi:i<cs.size) (ho:cs[i]? =some (.int .i64 old)):
 Calls Tryz.prog 145 #[.pointer (some ⟨b,i,none⟩),.string (str v),zv time] w fun e w'=>e=.returned (.bool (dI time v old).isSome)∧ao w' b t (cs.set i (.int .i64 ((dI time v old).getD 0)) hi)∧Kept (aw b) w w':=by
 by_cases A:v=[]
 ·subst A
  refine(Gg time _ w).mono ?_;rintro e w' ⟨rfl,rfl⟩;refine⟨rfl,?_,Kept.refl _ _⟩
  have e:cs.set i (.int .i64 ((dI time [] old).getD 0)) hi=cs:=by
   apply Array.ext (by simp);intro j h1 D;rw[Array.getElem_set];split
   ·rename_i G
    subst G;rw[Array.getElem?_eq_getElem hi]at ho;exact(Option.some.inj ho).symm
   ·rfl
  rw[e];exact hb
 ·refine(JW time v A hm b i t cs _ w hb hi ho ⟨_,rfl⟩).mono ?_
  rintro e w' ⟨rfl,h1,D⟩;have B:dI time v old=Option.map Int.ofNat (tc time v):=if_neg A;have E:(dI time v old).getD 0=Gb (tc time v):=by rw[B];cases tc time v<;>rfl
  rw[E,B,Option.isSome_map];exact⟨rfl,h1,D⟩
end Attr
end Go.Proofs.YtdhibldkldlfpaaGreatDoor
