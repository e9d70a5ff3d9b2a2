/- Merged. -/
import Derived.Test.YtdhibldkldlfpaaGreatDoorEmitLeastX12
import Derived.RangeFuncNested
import Derived.Test.YtdhibldkldlfpaaGreatDoorEmitLeastX25
import Derived.Test.YtdhibldkldlfpaaGreatDoorEmitLeastX14
import Derived.Test.YtdhibldkldlfpaaGreatDoorEmitLeastX15
import Derived.Test.YtdhibldkldlfpaaGreatDoorEmitLeastX26
import Derived.Test.YtdhibldkldlfpaaGreatDoorEmitLeastX8
import Derived.Test.YtdhibldkldlfpaaGreatDoorEmitLeastX4
namespace Go.Proofs.YtdhibldkldlfpaaGreatDoor
namespace Bk
end Bk
set_option linter.unusedVariables false
set_option maxHeartbeats 4000000
set_option maxRecDepth 100000
open Go.ChangeShapes Go.WideShapes Go.ChangeAt Go.RowKit Base bJ
variable {b g i k n o:Nat} {S:Nat→Prop} {p:Option Addr} {W w w':World}
namespace Bk
def ao (W:World) (b:Nat) (t:TypeId) (cs:Array Value):Prop:=W.heap[b]? =some (.cells cs t (0,0))
section
variable {W W':World} {b:Nat} {t:TypeId} {cs:Array Value}
theorem ao.lt (h:ao W b t cs):b<W.heap.size:=(Array.getElem?_eq_some_iff.1 h).1
theorem ao.cell (h:ao W b t cs) (i:Nat):W.cell? ⟨b,i,none⟩=cs[i]? :=by simp[World.cell?,show W.heap[b]? =_ from h]
theorem ao.frozen (h:ao W b t cs) (i:Nat):W.frozen? ⟨b,i,none⟩=false:=by simp[World.frozen?,show W.heap[b]? =_ from h]
theorem ao.new (W:World) (t:TypeId) (cs:Array Value):ao (W.alloc (.cells cs t)) W.heap.size t cs:=World.alloc_heap_new W _
theorem ao.kept (h:ao W b t cs) {row:Option Nat} (hg:W.grownBy W' row) (hr:∀r,row=some r→∃o:Obj,W.heap[r]? =some o∧o.isCells=false):ao W' b t cs:=
 (grownBy_keeps_cells hg hr h rfl).trans h
theorem ao.alloc (h:ao W b t cs) (o:Obj):ao (W.alloc o) b t cs:=h.kept (World.grownBy_alloc W o none) (fun r e=>by cases e)
theorem ao.drewN (h:ao W b t cs) (n:Nat):ao (W.drewN n) b t cs:=h
theorem ao.drew (h:ao W b t cs):ao W.drew b t cs:=h
theorem ao.below (h:ao W b t cs) (hb:Below n W W') (hn:b<n):ao W' b t cs:=(hb.block b hn).trans h
theorem ao.bW (h:ao W b t cs) (hk:Kept S W W') (hn:¬S b):ao W' b t cs:=hk.some_ h hn
theorem ao.set (h:ao W b t cs) (i:Nat) (v:Value) (hi:i<cs.size):ao (W.setCell ⟨b,i,none⟩ v) b t (cs.set i v hi):=by
 obtain⟨hl,he⟩:=Array.getElem?_eq_some_iff.1 h;unfold ao World.setCell;refine Array.getElem?_eq_some_iff.2 ⟨by simpa using hl,?_⟩;rw[Array.getElem_modify,if_pos rfl,he];simp[Array.setIfInBounds,hi]
theorem ao.other (h:ao W b t cs) {b':Nat} (cV:b'≠b) (v:Value):ao (W.setCell ⟨b',i,none⟩ v) b t cs:=by
 unfold ao;rw[Below.heap_setCell _ _ _ _ (fun e=>cV (by simpa using e.symm))];exact h
end
end Bk
namespace Mem
open cn Bk Go.Lib
structure MP where
 m:av
 p:Option Addr
 c:Nat
def Pt:av:=⟨[],[],0,0,0,0,0,[]⟩
def bP:MP:=⟨Pt,none,0⟩
def cO (m:av) (p:Option Addr) (c:Nat):Array Value:=#[.string (str m.path),.string (str m.target),.int .u8 (m.kind.toNat:Int),.int .i64 m.mode,.int .i64 m.uid,.int .i64 m.gid,.int .i64 m.time,.slice p m.body.length c]
def MP.cs (x:MP):Array Value:=cO x.m x.p x.c
theorem MP.mH (x:MP):x.cs.toList=[.string (str x.m.path),.string (str x.m.target),.int .u8 (x.m.kind.toNat:Int),.int .i64 x.m.mode,.int .i64 x.m.uid,.int .i64 x.m.gid,.int .i64 x.m.time,.slice x.p x.m.body.length x.c]:=rfl
structure dq (w:World) (x:MP):Prop where
 gZ:cB w x.p x.m.body.length x.m.body
 le:x.m.body.length≤x.c
 mx:x.c≤maxLen
theorem dq.kept {x:MP} (h:dq w x) (hk:Kept S w w') (hn:0<x.m.body.length→∀a,x.p=some a→¬S a.block):dq w' x:=⟨h.gZ.kept hk hn,h.le,h.mx⟩
theorem dq.below {x:MP} (h:dq w x) (hb:Below w.heap.size w w'):dq w' x:=⟨h.gZ.below hb,h.le,h.mx⟩
def fH (xs:List MP):List Value:=xs.flatMap fun x=>x.cs.toList
theorem Cd (x:MP) (xs:List MP):fH (x::xs)=x.cs.toList++fH xs:=rfl
theorem Ce (xs:List MP) (x:MP):fH (xs++[x])=fH xs++x.cs.toList:=by simp[fH]
theorem GA (xs:List MP):∀i,i<xs.length→∀j,j<8→(fH xs)[8*i+j]? =(xs.getD i bP).cs[j]? :=by
 induction xs with
 |nil=>intro i h;simp at h
 |cons x xs ih=>
  intro i h j A;rw[Cd];have hl:x.cs.toList.length=8:=rfl
  cases i with
  |zero=>rw[List.getElem?_append_left (by omega),show 8*0+j=j by omega,Array.getElem?_toList];rfl
  |succ i=>
   rw[List.getElem?_append_right (by omega),hl,show 8*(i+1)+j - 8=8*i+j by omega,ih i (by simpa using h) j A];rfl
theorem GB (xs:List MP):∀u∈fH xs,u.oneCell'=true:=by
 intro u hu;obtain⟨x,_,A⟩:=List.mem_flatMap.1 hu;rw[MP.mH]at A;simp only[List.mem_cons,List.not_mem_nil,or_false]at A;rcases A with rfl|rfl|rfl|rfl|rfl|rfl|rfl|rfl<;>rfl
def dr (w:World) (p:Option Addr) (n:Nat) (xs:List MP):Prop:=
 xs.length=n∧(∀x∈xs,dq w x)∧(0<n→∃b o,p=some ⟨b,o,none⟩∧b<w.heap.size∧∀i,i<n→∀j,j<8→w.cell? ⟨b,o+8*i+j,none⟩=(xs.getD i bP).cs[j]?)
theorem dr.below {xs:List MP} (h:dr w p n xs) (hb:Below w.heap.size w w'):dr w' p n xs:=by
 refine⟨h.1,fun x E=>(h.2.1 x E).below hb,fun B=>?_⟩;obtain⟨b,o,rfl,A,hc⟩:=h.2.2 B;refine⟨b,o,rfl,Nat.lt_of_lt_of_le A hb.size,fun i hi j D=>?_⟩;rw[hb.cell (p:=⟨b,o+8*i+j,none⟩) A];exact hc i hi j D
theorem tv (w:World) (p:Option Addr):dr w p 0 []:=⟨rfl,fun x A=>by simp at A,fun h=>by omega⟩
theorem jg {base:Nat} {e:TypeId} {v:Value} {xs:List MP} (h:w.ownsRow base e 8 v xs.length (fH xs)) (hx:∀x∈xs,dq w x):∃p c,v=.slice p xs.length c∧xs.length≤c∧c≤maxLen∧dr w p xs.length xs:=by
 rcases h.2 with⟨rfl,A⟩|⟨g,cap,cur,rfl,hb,hg,hn,hc,hs,ht⟩
 ·exact⟨none,0,by rw[A],by omega,by decide,rfl,hx,fun h=>by omega⟩
 ·refine⟨some ⟨g,0,none⟩,cap,rfl,hn,hc,rfl,hx,fun A=>⟨g,0,rfl,(Array.getElem?_eq_some_iff.1 hg).1,fun i hi j B=>?_⟩⟩
  have get:∀j,j<8*xs.length→w.cell? ⟨g,j,none⟩=(fH xs)[j]? :=fun j B=>by
   unfold World.cell?;rw[hg,←ht,List.getElem?_take,if_pos (by omega)];simp
  rw[Nat.zero_add,get _ (by omega)];exact GA xs i hi j B
theorem dr.cells {xs:List MP} (h:dr w p n xs) (hi:i<n):∃b o,p=some ⟨b,o,none⟩∧b<w.heap.size∧dq w (xs.getD i bP)∧
 w.cell? ⟨b,o+8*i,none⟩=some (.string (str (xs.getD i bP).m.path))∧w.cell? ⟨b,o+8*i+1,none⟩=some (.string (str (xs.getD i bP).m.target))∧
 w.cell? ⟨b,o+8*i+2,none⟩=some (.int .u8 ((xs.getD i bP).m.kind.toNat:Int))∧w.cell? ⟨b,o+8*i+3,none⟩=some (.int .i64 (xs.getD i bP).m.mode)∧
 w.cell? ⟨b,o+8*i+4,none⟩=some (.int .i64 (xs.getD i bP).m.uid)∧w.cell? ⟨b,o+8*i+5,none⟩=some (.int .i64 (xs.getD i bP).m.gid)∧
 w.cell? ⟨b,o+8*i+6,none⟩=some (.int .i64 (xs.getD i bP).m.time)∧w.cell? ⟨b,o+8*i+7,none⟩=some (.slice (xs.getD i bP).p (xs.getD i bP).m.body.length (xs.getD i bP).c):=by
 obtain⟨b,o,rfl,B,hc⟩:=h.2.2 (by omega)
 have A:dq w (xs.getD i bP):=h.2.1 _ (by
  have hl:i<xs.length:=by rw[h.1];exact hi
  rw[List.getD,Qd hl]
  exact List.getElem_mem hl)
 exact⟨b,o,rfl,B,A,hc i hi 0 (by omega),hc i hi 1 (by omega),hc i hi 2 (by omega),hc i hi 3 (by omega),hc i hi 4 (by omega),hc i hi 5 (by omega),hc i hi 6 (by omega),hc i hi 7 (by omega)⟩
theorem EL:(Tryz.prog.info? 48).map (fun i=>(i.zero,i.size,i.bytes))=some (some (.agg #[.string ⟨#[]⟩,.string ⟨#[]⟩,.int .u8 0,.int .i64 0,.int .i64 0,.int .i64 0,.int .i64 0,.slice none 0 0]),8,96):=by kernel_rfl
theorem rq {P:Program} (base:Nat) (t ty e:TypeId) (i:TypeInfo) (z:Value) (size bytes:Nat) (ht:P.underlying t=some (.slice e)) (hi:P.info? e=some i) (hz:i.zero=some z)
 (eO:i.size=size) (uu:i.bytes=bytes) (Rb:z.cells.size=size) (hsz:0<size)
 (v:Value) (n:Nat) (xs:List Value) (bh:w.ownsRow base e size v n xs)
 (a:Addr) (m c:Nat) (news:List Value) (hl:news.length=m*size) (oF:∀j u,news[j]? =some u→w.cell? (a.add j)=some u) (h1:∀u∈news,u.oneCell'=true)
 (Qv:n+m≤maxLen) (kG:(n+m)*bytes≤140737488355328) (ft:base≤w.heap.size):
 ∃v' w',(Builtin.append_ #[t,t] ty #[v,.slice (some a) m c]).run P w=.ok v' w'∧w'.ownsRow base e size v' (n+m) (xs++news)∧w.grownBy w' v.ownBlock∧eW w v v':=by
 obtain⟨v',w',B,G,H,M⟩:=run_append_own (P:=P) w base t ty e i z size bytes ht hi hz eO uu Rb hsz v n xs bh a m c news hl oF h1 Qv kG ft;refine⟨v',w',B,G,H,?_⟩;have D:=bh;rcases bh.2 with⟨rfl,rfl⟩|⟨g,cap,cur,rfl,hbg,hg,GY,QH,hcs,Uq⟩
 ·have I:xs=[]:=List.eq_nil_of_length_eq_zero (by simpa using bh.1)
  subst I;obtain⟨v2,L,A,E,_,_⟩:=run_append_own (P:=P) w w.heap.size t ty e i z size bytes ht hi hz eO uu Rb hsz _ 0 [] (World.ownsRow_nil w w.heap.size e size) a m c news hl oF h1 Qv kG (Qk _);rw[B]at A
  cases A
  exact fun k hk=>Or.inr (E.lt k hk).1
 ·by_cases J:n+m≤cap
  ·obtain⟨L,A,_,_⟩:=run_append_own_spare (P:=P) w base t ty e i size ht hi eO g n cap xs D a m c news hl oF h1 J
   rw[B]at A
   cases A
   exact fun k hk=>Or.inl hk
  ·have holds:∀j u,xs[j]? =some u→w.cell? ((⟨g,0,none⟩:Addr).add j)=some u:=D.cells (g:=g) rfl
   have A:=run_append_grow (P:=P) w t ty e i z ht hi hz ⟨g,0,none⟩ n cap xs (by rw[eO];exact D.1) holds a m c news (by rw[eO];exact hl) oF (by omega) (by unfold maxLen at Qv;omega) (growslice_fits (by omega) (by rw[uu];exact kG));rw[B]at A
   cases A
   exact fun k hk=>Or.inr (by simp[Value.ownBlock]at hk;omega)
theorem ug (xs:List MP) (k:Nat) (h:k<xs.length):(xs.take (k+1)).map MP.m=(xs.take k).map MP.m++[(xs.getD k bP).m]:=by
 rw[List.take_succ_eq_append_getElem h,List.map_append,List.getD,Qd h];rfl
theorem lL (xs:List MP) (k:Nat) (h:k<xs.length):xs.getD k bP∈xs:=by
 rw[List.getD,Qd h];exact List.getElem_mem h
theorem ku {m:Nat} {bs:List UInt8} (h:cB w p m bs) (h0:0<m) {y:Addr} (hy:p=some y):y.block<w.heap.size:=by
 obtain⟨b,o,he,A,_⟩:=h.cell h0;rw[hy]at he
 cases he
 exact A
def pj (w:World) (b o:Nat) (y:MP):Prop:=
 w.cell? ⟨b,o,none⟩=some (.string (str y.m.path))∧w.cell? ⟨b,o+1,none⟩=some (.string (str y.m.target))∧w.cell? ⟨b,o+2,none⟩=some (.int .u8 (y.m.kind.toNat:Int))∧w.cell? ⟨b,o+3,none⟩=some (.int .i64 y.m.mode)∧
 w.cell? ⟨b,o+4,none⟩=some (.int .i64 y.m.uid)∧w.cell? ⟨b,o+5,none⟩=some (.int .i64 y.m.gid)∧w.cell? ⟨b,o+6,none⟩=some (.int .i64 y.m.time)∧w.cell? ⟨b,o+7,none⟩=some (.slice y.p y.m.body.length y.c)
theorem pj.below {y:MP} (h:pj w b o y) (hb:b<w.heap.size) (hw:Below w.heap.size w w'):pj w' b o y:=by
 unfold pj at h⊢;simp only[hw.cell (p:=⟨b,_,none⟩) hb];exact h
theorem dr.jO {xs:List MP} (h:dr w p n xs) (hi:i<n):∃b o,p=some ⟨b,o,none⟩∧b<w.heap.size∧dq w (xs.getD i bP)∧pj w b (o+i*8) (xs.getD i bP):=by
 obtain⟨b,o,D,B,A,c0,c1,c2,c3,c4,c5,c6,c7⟩:=h.cells hi;rw[Nat.mul_comm]at c0 c1 c2 c3 c4 c5 c6 c7;exact⟨b,o,D,B,A,c0,c1,c2,c3,c4,c5,c6,c7⟩
end Mem
namespace Tre
open cn Bk Mem Go.Lib
variable {ys:List MP} {t:TypeId}
structure NP where
 m:aw
 p:Option Addr
 c:Nat
def aG:NP:=⟨bT,none,0⟩
def fT (m:aw) (p:Option Addr) (c:Nat):Array Value:=#[.string (str m.path),.string (str m.target),.string (str m.af),.int .u8 (m.kind.toNat:Int),.int .i64 m.mode,.int .i64 m.uid,.int .i64 m.gid,.int .i64 m.time,.slice p m.body.length c]
def NP.cs (x:NP):Array Value:=fT x.m x.p x.c
theorem NP.mH (x:NP):x.cs.toList=[.string (str x.m.path),.string (str x.m.target),.string (str x.m.af),.int .u8 (x.m.kind.toNat:Int),.int .i64 x.m.mode,.int .i64 x.m.uid,.int .i64 x.m.gid,.int .i64 x.m.time,.slice x.p x.m.body.length x.c]:=rfl
structure cT (w:World) (x:NP):Prop where
 gZ:cB w x.p x.m.body.length x.m.body
 le:x.m.body.length≤x.c
 mx:x.c≤maxLen
theorem cT.kept {x:NP} (h:cT w x) (hk:Kept S w w') (hn:0<x.m.body.length→∀a,x.p=some a→¬S a.block):cT w' x:=⟨h.gZ.kept hk hn,h.le,h.mx⟩
theorem cT.below {x:NP} (h:cT w x) (hb:Below w.heap.size w w'):cT w' x:=⟨h.gZ.below hb,h.le,h.mx⟩
def gP (xs:List NP):List Value:=xs.flatMap fun x=>x.cs.toList
theorem sC (x:NP) (xs:List NP):gP (x::xs)=x.cs.toList++gP xs:=rfl
theorem oz (xs:List NP):(gP xs).length=9*xs.length:=by
 induction xs with
 |nil=>rfl
 |cons x xs ih=>rw[sC,Qf,ih,NP.mH,List.length_cons];simp only[List.length_cons,List.length_nil];omega
theorem iO (xs:List NP):∀i,i<xs.length→∀j,j<9→(gP xs)[9*i+j]? =(xs.getD i aG).cs[j]? :=by
 induction xs with
 |nil=>intro i h;simp at h
 |cons x xs ih=>
  intro i h j A;rw[sC];have hl:x.cs.toList.length=9:=rfl
  cases i with
  |zero=>rw[List.getElem?_append_left (by omega),show 9*0+j=j by omega,Array.getElem?_toList];rfl
  |succ i=>
   rw[List.getElem?_append_right (by omega),hl,show 9*(i+1)+j - 9=9*i+j by omega,ih i (by simpa using h) j A];rfl
def aY (w:World) (p:Option Addr) (n:Nat) (xs:List NP):Prop:=
 xs.length=n∧(∀x∈xs,cT w x)∧(0<n→∃b o,p=some ⟨b,o,none⟩∧b<w.heap.size∧∀i,i<n→∀j,j<9→w.cell? ⟨b,o+9*i+j,none⟩=(xs.getD i aG).cs[j]?)
theorem aY.below {xs:List NP} (h:aY w p n xs) (hb:Below w.heap.size w w'):aY w' p n xs:=by
 refine⟨h.1,fun x E=>(h.2.1 x E).below hb,fun B=>?_⟩;obtain⟨b,o,rfl,A,hc⟩:=h.2.2 B;refine⟨b,o,rfl,Nat.lt_of_lt_of_le A hb.size,fun i hi j D=>?_⟩;rw[hb.cell (p:=⟨b,o+9*i+j,none⟩) A];exact hc i hi j D
theorem pP (w:World) (p:Option Addr):aY w p 0 []:=⟨rfl,fun x A=>by simp at A,fun h=>by omega⟩
def eP (w:World) (b o:Nat) (y:NP):Prop:=
 w.cell? ⟨b,o,none⟩=some (.string (str y.m.path))∧w.cell? ⟨b,o+1,none⟩=some (.string (str y.m.target))∧w.cell? ⟨b,o+2,none⟩=some (.string (str y.m.af))∧w.cell? ⟨b,o+3,none⟩=some (.int .u8 (y.m.kind.toNat:Int))∧w.cell? ⟨b,o+4,none⟩=some (.int .i64 y.m.mode)∧
 w.cell? ⟨b,o+5,none⟩=some (.int .i64 y.m.uid)∧w.cell? ⟨b,o+6,none⟩=some (.int .i64 y.m.gid)∧w.cell? ⟨b,o+7,none⟩=some (.int .i64 y.m.time)∧w.cell? ⟨b,o+8,none⟩=some (.slice y.p y.m.body.length y.c)
theorem eP.below {y:NP} (h:eP w b o y) (hb:b<w.heap.size) (hw:Below w.heap.size w w'):eP w' b o y:=by
 unfold eP at h⊢;simp only[hw.cell (p:=⟨b,_,none⟩) hb];exact h
theorem aY.dD {xs:List NP} (h:aY w p n xs) (hi:i<n):∃b o,p=some ⟨b,o,none⟩∧b<w.heap.size∧cT w (xs.getD i aG)∧eP w b (o+i*9) (xs.getD i aG):=by
 obtain⟨b,o,rfl,B,hc⟩:=h.2.2 (by omega)
 have A:cT w (xs.getD i aG):=h.2.1 _ (by
  have hl:i<xs.length:=by rw[h.1];exact hi
  rw[List.getD,Qd hl]
  exact List.getElem_mem hl)
 rw[Nat.mul_comm i 9];exact⟨b,o,rfl,B,A,hc i hi 0 (by omega),hc i hi 1 (by omega),hc i hi 2 (by omega),hc i hi 3 (by omega),hc i hi 4 (by omega),hc i hi 5 (by omega),hc i hi 6 (by omega),hc i hi 7 (by omega),hc i hi 8 (by omega)⟩
theorem aU {y:NP} (h:ao w b 52 y.cs):eP w b 0 y:=by
 refine⟨h.cell 0,h.cell 1,h.cell 2,h.cell 3,h.cell 4,h.cell 5,h.cell 6,h.cell 7,h.cell 8⟩
theorem DR (xs:List NP) (k:Nat) (h:k<xs.length):(xs.take (k+1)).map NP.m=(xs.take k).map NP.m++[(xs.getD k aG).m]:=by
 rw[List.take_succ_eq_append_getElem h,List.map_append,List.getD,Qd h];rfl
theorem oB (xs:List NP) (k:Nat) (h:k<xs.length):xs.getD k aG∈xs:=by
 rw[List.getD,Qd h];exact List.getElem_mem h
theorem fI (xs:List NP) (k:Nat):(xs.map NP.m).getD k bT=(xs.getD k aG).m:=by
 rw[List.getD,List.getD,List.getElem?_map]
 cases xs[k]? <;>rfl
theorem aY.drop {xs:List NP} (h:aY w p n xs) (hk:k≤n):aY w p k (xs.take k):=by
 refine⟨by rw[Qg,h.1];omega,fun x D=>h.2.1 x (List.mem_of_mem_take D),fun E=>?_⟩;obtain⟨b,o,rfl,A,hc⟩:=h.2.2 (by omega);refine⟨b,o,rfl,A,fun i hi j B=>?_⟩;rw[hc i (by omega) j B]
 congr 2
 simp[List.getD,hi]
theorem EN:(Tryz.prog.info? 52).map (fun i=>(i.zero,i.size,i.bytes))=some (some (.agg #[.string ⟨#[]⟩,.string ⟨#[]⟩,.string ⟨#[]⟩,.int .u8 0,.int .i64 0,.int .i64 0,.int .i64 0,.int .i64 0,.slice none 0 0]),9,112):=by kernel_rfl
def Rw (W:World) (g:Nat) (zs:List NP):Prop:=ao W g 52 (gP zs).toArray
theorem pF {ar:Array Value} {zs:List NP} (hs:ar.size=9*zs.length) (h:∀i,i<zs.length→∀j,j<9→ar[9*i+j]? =(zs.getD i aG).cs[j]?):ar=(gP zs).toArray:=by
 apply Array.ext
 ·rw[hs];simp[oz]
 ·intro i h1 B
  have hi:i / 9<zs.length:=by omega
  have e:9*(i / 9)+i % 9=i:=by omega
  have A:=h (i / 9) hi (i % 9) (by omega);have a2:=iO zs (i / 9) hi (i % 9) (by omega);rw[e]at A a2;have:ar[i]? =(gP zs).toArray[i]? :=by rw[A,←a2,Qc]
  rw[Array.getElem?_eq_getElem h1,Array.getElem?_eq_getElem B]at this;exact Option.some.inj this
theorem Rw.nodes {zs:List NP} (h:Rw W g zs) (hb:∀x∈zs,cT W x):aY W (some ⟨g,0,none⟩) zs.length zs:=
 ⟨rfl,hb,fun _=>⟨g,0,rfl,ao.lt h,fun i hi j A=>by rw[Nat.zero_add,ao.cell h,Qc,iO zs i hi j A]⟩⟩
theorem Rw.dD {zs:List NP} (h:Rw W g zs) (hk:k<zs.length):eP W g (k*9) (zs.getD k aG):=by
 have key:∀j,j<9→W.cell? ⟨g,k*9+j,none⟩=(zs.getD k aG).cs[j]? :=fun j A=>by
  rw[ao.cell h,Qc,Nat.mul_comm,iO zs k hk j A]
 exact⟨key 0 (by omega),key 1 (by omega),key 2 (by omega),key 3 (by omega),key 4 (by omega),key 5 (by omega),key 6 (by omega),key 7 (by omega),key 8 (by omega)⟩
theorem getSet (zs:List NP) (k i:Nat) (y:NP) (hk:k<zs.length):(zs.set k y).getD i aG=if i=k then y else zs.getD i aG:=by
 rw[List.getD,List.getD,List.getElem?_set]
 by_cases h:k=i
 ·subst h
  simp[hk]
 ·rw[if_neg h,if_neg (fun e=>h e.symm)]
theorem vB (zs:List NP):(gP zs).toArray.size=9*zs.length:=by simp[oz]
theorem bL {cs:Array Value} (h:ao W b t cs) (i:Nat) (v:Value):ao (W.setCell ⟨b,i,none⟩ v) b t (cs.setIfInBounds i v):=by
 obtain⟨hl,he⟩:=Array.getElem?_eq_some_iff.1 h;unfold ao World.setCell;refine Array.getElem?_eq_some_iff.2 ⟨by simpa using hl,?_⟩;rw[Array.getElem_modify,if_pos rfl,he];rfl
def uR (A:Array Value) (b:Nat):List Value→Array Value
 |[]=>A
 |v::vs=>uR (A.setIfInBounds b v) (b+1) vs
theorem wO (vs:List Value):∀(A:Array Value) (b:Nat),(uR A b vs).size=A.size:=by
 induction vs with
 |nil=>intro A b;rfl
 |cons v vs ih=>intro A b;rw[uR,ih];simp
theorem AH (vs:List Value):∀(A:Array Value) (b m:Nat),b+vs.length≤A.size→(uR A b vs)[m]? =if b≤m∧m<b+vs.length then vs[m - b]? else A[m]? :=by
 induction vs with
 |nil=>intro A b m _;rw[uR,if_neg (by simp only[List.length_nil];omega)]
 |cons v vs ih=>
  intro A b m h;rw[List.length_cons]at h;rw[uR,ih _ _ _ (by simp;omega),List.length_cons,Array.getElem?_setIfInBounds]
  by_cases h1:b=m
  ·subst h1
   rw[if_neg (by omega),if_pos rfl,if_pos (by omega),if_pos (by omega)];simp
  ·rw[if_neg h1]
   by_cases B:b+1≤m∧m<b+1+vs.length
   ·rw[if_pos B,if_pos (by omega),show m - b=(m - (b+1))+1 by omega,Qb]
   ·rw[if_neg B,if_neg (by omega)]
theorem Rw.set {zs:List NP} (h:Rw W g zs) (hk:k<zs.length) (y:NP):
 Rw (((((((((W.setCell ⟨g,k*9,none⟩ (.string (str y.m.path))).setCell ⟨g,k*9+1,none⟩ (.string (str y.m.target))).setCell ⟨g,k*9+2,none⟩ (.string (str y.m.af))).setCell ⟨g,k*9+3,none⟩ (.int .u8 (y.m.kind.toNat:Int))).setCell ⟨g,k*9+4,none⟩ (.int .i64 y.m.mode)).setCell ⟨g,k*9+5,none⟩ (.int .i64 y.m.uid)).setCell ⟨g,k*9+6,none⟩ (.int .i64 y.m.gid)).setCell ⟨g,k*9+7,none⟩ (.int .i64 y.m.time)).setCell ⟨g,k*9+8,none⟩ (.slice y.p y.m.body.length y.c)) g (zs.set k y):=by
 have hs:=vB zs;have B:ao W g 52 (gP zs).toArray:=h;have E:=(bL (bL (bL (bL (bL (bL (bL (bL (bL B (k*9) (.string (str y.m.path))) (k*9+1) (.string (str y.m.target))) (k*9+2) (.string (str y.m.af))) (k*9+3) (.int .u8 (y.m.kind.toNat:Int))) (k*9+4) (.int .i64 y.m.mode)) (k*9+5) (.int .i64 y.m.uid)) (k*9+6) (.int .i64 y.m.gid)) (k*9+7) (.int .i64 y.m.time)) (k*9+8) (.slice y.p y.m.body.length y.c))
 have e:uR (gP zs).toArray (k*9) y.cs.toList=(gP (zs.set k y)).toArray:=by
  apply pF
  ·rw[wO,List.length_set];exact hs
  ·intro i hi j D
   rw[List.length_set]at hi;have hl:y.cs.toList.length=9:=rfl;rw[getSet zs k i y hk,AH _ _ _ _ (by rw[hl,hs];omega),hl]
   by_cases A:i=k
   ·subst A
    rw[if_pos rfl,if_pos (by omega),show 9*i+j - i*9=j by omega,Array.getElem?_toList]
   ·rw[if_neg A,if_neg (by omega),Qc,iO zs i hi j D]
 unfold Rw;rw[←e];exact E
theorem AE {cs:Array Value} (hb:ao W b t cs) (cV:g≠b) (a0 a1 a2 a3 a4 a5 a6 a7 a8:Value):
 ao (((((((((W.setCell ⟨g,k*9,none⟩ a0).setCell ⟨g,k*9+1,none⟩ a1).setCell ⟨g,k*9+2,none⟩ a2).setCell ⟨g,k*9+3,none⟩ a3).setCell ⟨g,k*9+4,none⟩ a4).setCell ⟨g,k*9+5,none⟩ a5).setCell ⟨g,k*9+6,none⟩ a6).setCell ⟨g,k*9+7,none⟩ a7).setCell ⟨g,k*9+8,none⟩ a8) b t cs:=
 (((((((((hb.other cV a0).other cV a1).other cV a2).other cV a3).other cV a4).other cV a5).other cV a6).other cV a7).other cV a8)
theorem Fl (hg:S g) (a0 a1 a2 a3 a4 a5 a6 a7 a8:Value):
 Kept S W (((((((((W.setCell ⟨g,k*9,none⟩ a0).setCell ⟨g,k*9+1,none⟩ a1).setCell ⟨g,k*9+2,none⟩ a2).setCell ⟨g,k*9+3,none⟩ a3).setCell ⟨g,k*9+4,none⟩ a4).setCell ⟨g,k*9+5,none⟩ a5).setCell ⟨g,k*9+6,none⟩ a6).setCell ⟨g,k*9+7,none⟩ a7).setCell ⟨g,k*9+8,none⟩ a8):=
 ((((((((((Kept.refl S W).setCell (a:=⟨g,k*9,none⟩) (.inr hg) a0).setCell (a:=⟨g,k*9+1,none⟩) (.inr hg) a1).setCell (a:=⟨g,k*9+2,none⟩) (.inr hg) a2).setCell (a:=⟨g,k*9+3,none⟩) (.inr hg) a3).setCell (a:=⟨g,k*9+4,none⟩) (.inr hg) a4).setCell (a:=⟨g,k*9+5,none⟩) (.inr hg) a5).setCell (a:=⟨g,k*9+6,none⟩) (.inr hg) a6).setCell (a:=⟨g,k*9+7,none⟩) (.inr hg) a7).setCell (a:=⟨g,k*9+8,none⟩) (.inr hg) a8)
theorem Rw.lead {zs:List NP} (h:Rw W g zs) (hk:k<zs.length) (l:List UInt8):
 Rw (W.setCell ⟨g,k*9+2,none⟩ (.string (str l))) g (zs.set k ⟨{(zs.getD k aG).m with af:=l},(zs.getD k aG).p,(zs.getD k aG).c⟩):=by
 have hs:=vB zs;have E:ao W g 52 (gP zs).toArray:=h;have:=E.set (k*9+2) (.string (str l)) (by omega);unfold Rw;rw[←pF (ar:=_) (zs:=zs.set k ⟨{(zs.getD k aG).m with af:=l},(zs.getD k aG).p,(zs.getD k aG).c⟩) ?_ ?_]
 ·exact this
 ·simp only[Array.size_set,List.length_set];exact hs
 ·intro i hi j A
  rw[List.length_set]at hi;rw[getSet zs k i _ hk,Array.getElem?_set]
  by_cases D:i=k
  ·subst D
   rw[if_pos rfl]
   by_cases B:j=2
   ·subst B
    rw[if_pos (by omega)];rfl
   ·rw[if_neg (by omega),Qc,iO zs i hi j A]
    match j,A,B with
    |0,_,_=>rfl
    |1,_,_=>rfl
    |3,_,_=>rfl
    |4,_,_=>rfl
    |5,_,_=>rfl
    |6,_,_=>rfl
    |7,_,_=>rfl
    |8,_,_=>rfl
  ·rw[if_neg D,if_neg (by omega),Qc,iO zs i hi j A]
theorem tt (n:Nat):(madeCells #[.string ⟨#[]⟩,.string ⟨#[]⟩,.string ⟨#[]⟩,.int .u8 0,.int .i64 0,.int .i64 0,.int .i64 0,.int .i64 0,.slice none 0 0] (n*9))=(gP (List.replicate n aG)).toArray:=by
 apply pF
 ·rw[size_madeCells,List.length_replicate];omega
 ·intro i hi j A
  rw[List.length_replicate]at hi
  have e:(List.replicate n aG).getD i aG=aG:=by
   rw[List.getD,List.getElem?_replicate,if_pos hi];rfl
  rw[e];unfold madeCells;rw[Array.getElem?_map,Array.getElem?_range,if_pos (by omega)];simp only[Option.map_some];rw[show(9*i+j) % (#[Value.string ⟨#[]⟩,.string ⟨#[]⟩,.string ⟨#[]⟩,.int .u8 0,.int .i64 0,.int .i64 0,.int .i64 0,.int .i64 0,.slice none 0 0]:Array Value).size=j by show(9*i+j) % 9=j;omega]
  match j,A with
  |0,_=>rfl
  |1,_=>rfl
  |2,_=>rfl
  |3,_=>rfl
  |4,_=>rfl
  |5,_=>rfl
  |6,_=>rfl
  |7,_=>rfl
  |8,_=>rfl
theorem Fm {B:Nat} (h:w'.ownsRow B 52 9 (.slice (some ⟨g,0,none⟩) n n) n (gP (List.replicate n aG))):Rw w' g (List.replicate n aG):=by
 rcases h.2 with⟨h1,_⟩|⟨g',cap,cur,h1,_,hg,h2,h3,h4,h5⟩
 ·cases h1
 ·cases h1
  unfold Rw ao
  have:cur=(gP (List.replicate n aG)).toArray:=by
   apply Array.toList_inj.1;rw[←h5,List.take_of_length_le (by simp;omega)]
  rw[←this];exact hg
def Rm (W:World) (g:Nat) (ys:List MP):Prop:=∃cur,ao W g 48 cur∧8*ys.length≤cur.size∧∀i,i<ys.length→∀j,j<8→cur[8*i+j]? =(ys.getD i bP).cs[j]?
theorem Rm.jO (h:Rm W g ys) (hk:k<ys.length):pj W g (k*8) (ys.getD k bP):=by
 obtain⟨cur,A,_,hc⟩:=h
 have key:∀j,j<8→W.cell? ⟨g,k*8+j,none⟩=(ys.getD k bP).cs[j]? :=fun j B=>by
  rw[A.cell,Nat.mul_comm,hc k hk j B]
 exact⟨key 0 (by omega),key 1 (by omega),key 2 (by omega),key 3 (by omega),key 4 (by omega),key 5 (by omega),key 6 (by omega),key 7 (by omega)⟩
theorem Np (hk:k<ys.length):ys.getD k bP=ys[k]:=by rw[List.getD,Qd hk];rfl
theorem mK (ys:List MP) (k i:Nat) (y:MP) (hk:k<ys.length):(ys.set k y).getD i bP=if i=k then y else ys.getD i bP:=by
 rw[List.getD,List.getD,List.getElem?_set]
 by_cases h:k=i
 ·subst h
  simp[hk]
 ·rw[if_neg h,if_neg (fun e=>h e.symm)]
theorem Rm.Yu (h:Rm W g ys) (hb:∀y∈ys,dq W y):dr W (some ⟨g,0,none⟩) ys.length ys:=by
 obtain⟨cur,A,_,hc⟩:=h;exact⟨rfl,hb,fun _=>⟨g,0,rfl,A.lt,fun i hi j B=>by rw[Nat.zero_add,A.cell,hc i hi j B]⟩⟩
def Oc (W:World) (g o:Nat) (y:MP):World:=(((((((W.setCell ⟨g,o,none⟩ (.string (str y.m.path))).setCell ⟨g,o+1,none⟩ (.string (str y.m.target))).setCell ⟨g,o+2,none⟩ (.int .u8 (y.m.kind.toNat:Int))).setCell ⟨g,o+3,none⟩ (.int .i64 y.m.mode)).setCell ⟨g,o+4,none⟩ (.int .i64 y.m.uid)).setCell ⟨g,o+5,none⟩ (.int .i64 y.m.gid)).setCell ⟨g,o+6,none⟩ (.int .i64 y.m.time)).setCell ⟨g,o+7,none⟩ (.slice y.p y.m.body.length y.c)
theorem Rm.set (h:Rm W g ys) (hk:k<ys.length) (y:MP):Rm (Oc W g (k*8) y) g (ys.set k y):=by
 obtain⟨cur,B,hs,hc⟩:=h;have E:=(bL (bL (bL (bL (bL (bL (bL (bL B (k*8) (.string (str y.m.path))) (k*8+1) (.string (str y.m.target))) (k*8+2) (.int .u8 (y.m.kind.toNat:Int))) (k*8+3) (.int .i64 y.m.mode)) (k*8+4) (.int .i64 y.m.uid)) (k*8+5) (.int .i64 y.m.gid)) (k*8+6) (.int .i64 y.m.time)) (k*8+7) (.slice y.p y.m.body.length y.c))
 have e:uR cur (k*8) y.cs.toList=((((((((cur.setIfInBounds (k*8) (.string (str y.m.path))).setIfInBounds (k*8+1) (.string (str y.m.target))).setIfInBounds (k*8+2) (.int .u8 (y.m.kind.toNat:Int))).setIfInBounds (k*8+3) (.int .i64 y.m.mode)).setIfInBounds (k*8+4) (.int .i64 y.m.uid)).setIfInBounds (k*8+5) (.int .i64 y.m.gid)).setIfInBounds (k*8+6) (.int .i64 y.m.time)).setIfInBounds (k*8+7) (.slice y.p y.m.body.length y.c)):=by
  rw[MP.mH];simp only[uR,Nat.add_assoc,Nat.reduceAdd]
 refine⟨uR cur (k*8) y.cs.toList,by unfold Oc;rw[e];exact E,by rw[wO,List.length_set];exact hs,fun i hi j D=>?_⟩;rw[List.length_set]at hi;have hl:y.cs.toList.length=8:=rfl;rw[mK ys k i y hk,AH _ _ _ _ (by rw[hl];omega),hl]
 by_cases A:i=k
 ·subst A
  rw[if_pos rfl,if_pos (by omega),show 8*i+j - i*8=j by omega,Array.getElem?_toList]
 ·rw[if_neg A,if_neg (by omega),hc i hi j D]
theorem Ic (hg:S g) (y:MP):Kept S W (Oc W g o y):=
 ((((((((Kept.refl S W).setCell (a:=⟨g,o,none⟩) (.inr hg) _).setCell (a:=⟨g,o+1,none⟩) (.inr hg) _).setCell (a:=⟨g,o+2,none⟩) (.inr hg) _).setCell (a:=⟨g,o+3,none⟩) (.inr hg) _).setCell (a:=⟨g,o+4,none⟩) (.inr hg) _).setCell (a:=⟨g,o+5,none⟩) (.inr hg) _).setCell (a:=⟨g,o+6,none⟩) (.inr hg) _).setCell (a:=⟨g,o+7,none⟩) (.inr hg) _
theorem tR {W':World} (h:Rm W g ys) (hb:Below W.heap.size W W'):Rm W' g ys:=by
 obtain⟨cur,h1,A,B⟩:=h;exact⟨cur,h1.below hb h1.lt,A,B⟩
end Tre
namespace oa
open cn Bk Mem Tre Go.Lib
variable {ss:List (List UInt8)}
def Er (ss:List (List UInt8)):List Value:=ss.map fun s=>.string (str s)
def lC (w:World) (p:Option Addr) (n:Nat) (ss:List (List UInt8)):Prop:=
 ss.length=n∧(0<n→∃b o,p=some ⟨b,o,none⟩∧b<w.heap.size∧∀i,i<n→w.cell? ⟨b,o+i,none⟩=some (.string (str (ss.getD i []))))
theorem lC.below (h:lC w p n ss) (hb:Below w.heap.size w w'):lC w' p n ss:=by
 refine⟨h.1,fun B=>?_⟩;obtain⟨b,o,rfl,A,hc⟩:=h.2 B;refine⟨b,o,rfl,Nat.lt_of_lt_of_le A hb.size,fun i hi=>?_⟩;rw[hb.cell (p:=⟨b,o+i,none⟩) A];exact hc i hi
theorem LV (w:World) (p:Option Addr):lC w p 0 []:=⟨rfl,fun h=>by omega⟩
theorem NL:(Tryz.prog.info? 9).map (fun i=>(i.zero,i.size,i.bytes))=some (some (.string ⟨#[]⟩),1,16):=by kernel_rfl
def Rs (W:World) (g:Nat) (ss:List (List UInt8)):Prop:=∃cur,ao W g 9 cur∧ss.length≤cur.size∧∀i,i<ss.length→cur[i]? =some (.string (str (ss.getD i [])))
theorem Rs.at (h:Rs W g ss) (hk:k<ss.length):W.cell? ⟨g,k,none⟩=some (.string (str (ss.getD k [])))∧W.frozen? ⟨g,k,none⟩=false:=by
 obtain⟨cur,A,_,hc⟩:=h;exact⟨by rw[A.cell];exact hc k hk,A.frozen k⟩
theorem Et (ss:List (List UInt8)) (k i:Nat) (y:List UInt8) (hk:k<ss.length):(ss.set k y).getD i []=if i=k then y else ss.getD i []:=by
 rw[List.getD,List.getD,List.getElem?_set]
 by_cases h:k=i
 ·subst h
  simp[hk]
 ·rw[if_neg h,if_neg (fun e=>h e.symm)]
theorem Rs.set (h:Rs W g ss) (hk:k<ss.length) (y:List UInt8):Rs (W.setCell ⟨g,k,none⟩ (.string (str y))) g (ss.set k y):=by
 obtain⟨cur,B,hs,hc⟩:=h;refine⟨cur.setIfInBounds k (.string (str y)),bL B k _,by rw[List.length_set];simpa using hs,fun i hi=>?_⟩;rw[List.length_set]at hi;rw[Et ss k i y hk,Array.getElem?_setIfInBounds]
 by_cases A:k=i
 ·subst A
  rw[if_pos rfl,if_pos (by omega),if_pos rfl]
 ·rw[if_neg A,if_neg (fun e=>A e.symm),hc i hi]
theorem Rs.strs (h:Rs W g ss):lC W (some ⟨g,0,none⟩) ss.length ss:=by
 obtain⟨cur,A,_,hc⟩:=h;exact⟨rfl,fun _=>⟨g,0,rfl,A.lt,fun i hi=>by rw[Nat.zero_add,A.cell,hc i hi]⟩⟩
theorem LL (h:Rs W g ss) (m:Nat):Rs (W.drewN m) g ss:=by
 obtain⟨cur,h1,A,B⟩:=h;exact⟨cur,h1.drewN m,A,B⟩
theorem LK {W':World} (h:Rs W g ss) (hb:Below W.heap.size W W'):Rs W' g ss:=by
 obtain⟨cur,h1,A,B⟩:=h;exact⟨cur,h1.below hb h1.lt,A,B⟩
end oa
namespace Mem
open Go.Deep cn Bk Hp Head Rec Go.Lib
theorem jO:Tryz.prog.cellsOf 48=8:=by kernel_rfl
theorem P9:Tryz.prog.cellsOf 26=1:=by kernel_rfl
instance:Inhabited MP:=⟨bP⟩
section
variable {H:Type} {enc:TypeId × Value→H} {w:World} {base:Nat} {held:Bool}
end
end Mem
namespace Tre
open Go.Deep cn Bk Hp Head Rec Mem Go.Lib
variable {ps:List MemPlace} {α:Type}
theorem Pm (l:List α) (h:l.length=9):∃a b c d e f g i j,l=[a,b,c,d,e,f,g,i,j]:=by
 match l,h with
 |[a,b,c,d,e,f,g,i,j],_=>exact⟨a,b,c,d,e,f,g,i,j,rfl⟩
theorem Pk (l:List α) (h:l.length=6):∃a b c d e f,l=[a,b,c,d,e,f]:=by
 match l,h with
 |[a,b,c,d,e,f],_=>exact⟨a,b,c,d,e,f,rfl⟩
theorem Ek:Tryz.prog.cellsOf 52=9:=by kernel_rfl
instance:Inhabited NP:=⟨aG⟩
def RU (m:aw):Prop:=(Lit.int .i64 m.mode).wf=true∧(Lit.int .i64 m.uid).wf=true∧(Lit.int .i64 m.gid).wf=true∧(Lit.int .i64 m.time).wf=true
def sc (x:NP):Prop:=x.m.path.length≤140737488351232∧x.m.target.length≤140737488351232∧x.m.af.length≤140737488351232∧x.c≤140737488351232
section
variable {H:Type} {enc:TypeId × Value→H} {w:World} {base:Nat} {held:Bool}
theorem Dg {cs:List Value} {d:DataW H} {fuel:Nat} (hw:∀z∈d.weights Tryz.prog 52,z≤reachBytes)
 (hf:DataW.trod enc Tryz.prog w base (fun _=>true) held fuel 52 cs=some (d,ps)):
 ∃x:NP,cs=x.cs.toList∧cT w x∧RU x.m∧sc x:=by
 obtain⟨xs,n,rfl,W,hl,t,A⟩:=DataW.trod_struct Tryz.underlying52 hf;rw[Ek]at hl;obtain⟨a,b,a2,c,e,f,g,i,j,rfl⟩:=Pm cs hl;obtain⟨x0,x1,xl,x2,x3,p,rfl⟩:=Pk xs (by simpa using t);have E:=A 0 _ rfl;have h1:=A 1 _ rfl;have V:=A 2 _ rfl;have R:=A 3 _ rfl;have T:=A 4 _ rfl;have U:=A 5 _ rfl;simp only[List.getElem_toArray,List.getElem_cons_zero,List.getElem_cons_succ,P7,P8,JR,P9,List.drop_zero,List.drop_succ_cons,List.take_succ_cons,List.take_zero,Qa,Qb]at E h1 V R T U;obtain⟨s0,L,rfl,z0⟩:=DataW.trod_string Tryz.underlying9 E;obtain⟨s1,M,rfl,z1⟩:=DataW.trod_string Tryz.underlying9 h1;obtain⟨sq,eq,rfl,zq⟩:=DataW.trod_string Tryz.underlying9 V;obtain⟨k2,N,rfl,z2⟩:=DataW.trod_int Tryz.underlying5 R;obtain⟨ys,n',rfl,hy,GX,J,B⟩:=DataW.trod_struct Tryz.underlying46 T;obtain⟨y0,y1,y2,y3,rfl⟩:=Uy ys (by simpa using J);have g0:=B 0 _ rfl;have g1:=B 1 _ rfl;have g2:=B 2 _ rfl;have g3:=B 3 _ rfl;simp only[List.getElem_toArray,List.getElem_cons_zero,List.getElem_cons_succ,P6,List.drop_zero,List.drop_succ_cons,List.take_succ_cons,List.take_zero,Qa,Qb]at g0 g1 g2 g3;obtain⟨m0,f0,rfl,X⟩:=DataW.trod_int Tryz.underlying3 g0;obtain⟨m1,f1,rfl,Y⟩:=DataW.trod_int Tryz.underlying3 g1;obtain⟨m2,f2,rfl,Z⟩:=DataW.trod_int Tryz.underlying3 g2;obtain⟨m3,f3,rfl,o⟩:=DataW.trod_int Tryz.underlying3 g3;simp only[List.cons.injEq,and_true]at L M eq N f0 f1 f2 f3;subst L M eq N f0 f1 f2 f3;obtain⟨k0,k1⟩:=wf8 z2;simp only[Prod.mk.injEq,List.map_cons,List.map_nil]at W;obtain⟨hd,_⟩:=W
 have D:d.weights Tryz.prog 52=DataW.weightsEach Tryz.prog [9,9,9,5,46,26] [.lit (.string s0.data.toList),.lit (.string s1.data.toList),.lit (.string sq.data.toList),.lit (.int .u8 k2),x3.1,p.1]:=by
  rw[hd];simp only[DataW.weights,Tryz.underlying52];rfl
 have u:=hw s0.data.toList.length (by rw[D];simp[DataW.weightsEach,DataW.weights]);have y:=hw s1.data.toList.length (by rw[D];simp[DataW.weightsEach,DataW.weights]);have wq:=hw sq.data.toList.length (by rw[D];simp[DataW.weightsEach,DataW.weights])
 have w4:∀z∈p.1.weights Tryz.prog 26,z≤reachBytes:=fun z G=>hw z (by
  rw[D];simp only[DataW.weightsEach,List.mem_append]
  exact .inr (.inr (.inr (.inr (.inr (.inl G))))))
 have O:((UInt8.ofNat k2.toNat).toNat:Int)=k2:=by rw[UInt8.toNat_ofNat'];omega
 simp only[reachBytes]at u y wq;rcases open_ints Tryz.underlying26 Tryz.underlying5 JR U with⟨hcs,_⟩|⟨x,l,cp,zs,hcs,_,Z5,Kv,G,hxx,hcell,ph⟩
 ·simp only[List.cons.injEq,and_true]at hcs
  subst hcs;refine⟨⟨⟨s0.data.toList,s1.data.toList,sq.data.toList,UInt8.ofNat k2.toNat,m0,m1,m2,m3,[]⟩,none,0⟩,?_,⟨fun E=>by simp at E,Qk _,by show(0:Nat)≤maxLen;decide⟩,⟨X,Y,Z,o⟩,by omega,by omega,by omega,by show 0≤_;omega⟩;rw[NP.mH,nQ,nQ,nQ,O];rfl
 ·simp only[List.cons.injEq,and_true]at hcs
  subst hcs;simp only[if_true]at G;have r:Jt .u8 w (some x) l cp zs:=.inr ⟨_,rfl,Z5,Kv,G,fun i hi=>hcell i hi,ph⟩;obtain⟨q,I,b3,b4⟩:=BR r
  have wc:=w4 (cp*1) (by
   rw[hxx];simp only[DataW.weights,Tryz.underlying26,List.mem_cons,List.mem_append,lits,Qi,Qg,Qe];refine .inl ?_;rw[(by kernel_rfl:Tryz.prog.bytesOf 5=1)]
   congr 1
   omega)
  simp only[reachBytes]at wc;refine⟨⟨⟨s0.data.toList,s1.data.toList,sq.data.toList,UInt8.ofNat k2.toNat,m0,m1,m2,m3,bytesOf (zs.take l)⟩,some x,cp⟩,?_,⟨?_,?_,Kv⟩,⟨X,Y,Z,o⟩,by omega,by omega,by omega,by show cp≤_;omega⟩
  ·rw[NP.mH,nQ,nQ,nQ,O]
   simp only[I]
  ·show cB w (some x) (bytesOf (zs.take l)).length (bytesOf (zs.take l))
   rw[I];exact q
  ·show(bytesOf (zs.take l)).length≤cp
   rw[I];exact Z5
theorem nodes_open {a:Option Addr} {len cap:Nat} {d:DataW H} {ts:List TypeId} {ds:List (DataW H)} (hz:(DataW.weightsEach Tryz.prog ts ds).all (·≤reachBytes)=true) {j:Nat} (ht:ts[j]? =some 22) (hd:ds[j]? =some d)
 (h:DataW.Trod enc Tryz.prog w base (fun _=>true) held 22 (.slice a len cap) d ps):
 ∃xs:List NP,aY w a len xs∧len≤cap∧cap≤maxLen∧cap*112≤140737488351232∧∀x∈xs,RU x.m∧sc x:=by
 obtain⟨fuel,hf⟩:=h;rcases open_slice Tryz.underlying22 hf with⟨hcs,_⟩|⟨x,l,c,m,n,D,Pl,hcs,hb,hl,hm,Cx,A,L⟩
 ·simp[Value.cells]at hcs
  obtain⟨rfl,rfl,rfl⟩:=hcs;exact⟨[],pP w none,by omega,by omega,by omega,fun x L=>by simp at L⟩
 ·simp[Value.cells]at hcs
  obtain⟨rfl,rfl,rfl⟩:=hcs;simp only[if_true]at Cx;subst Cx;simp only[Prod.mk.injEq]at A;obtain⟨A,_⟩:=A;have hw:=List.all_eq_true.1 hz
  have key:∀i,i<len→∃q:NP,w.cells? base (x.add (i*9)) 9=some q.cs.toList∧cT w q∧RU q.m∧sc q:=fun i hi=>by
   obtain⟨T,h1,V⟩:=L i (by omega);rw[Ek]at h1;have Z:D i∈(List.range len).map D:=List.mem_map.2 ⟨i,List.mem_range.2 hi,rfl⟩
   obtain⟨q,rfl,g⟩:=Dg (fun z M=>by
    have X:z∈d.weights Tryz.prog 22:=by
     rw[A];simp only[DataW.weights,Tryz.underlying22,List.mem_cons,List.mem_append];exact .inr (.inl (AR Z M))
    exact of_decide_eq_true (hw _ (DataW.weights_mem_each ht hd _ X))) V
   exact⟨q,h1,g⟩
  obtain⟨q,E⟩:=choose_lt key
  have R:∀i,i<len→((List.range len).map q).getD i aG=q i:=fun i hi=>by
   simp[List.getD,hi]
  have Y:m*112∈d.weights Tryz.prog 22:=by
   rw[A];simp only[DataW.weights,Tryz.underlying22,List.mem_cons,List.mem_append,Qi,List.length_range];refine .inl ?_;rw[(by kernel_rfl:Tryz.prog.bytesOf 52=112)]
   congr 1
   omega
  have N:=of_decide_eq_true (hw _ (DataW.weights_mem_each ht hd _ Y));simp only[reachBytes]at N;refine⟨(List.range len).map q,⟨by simp,fun y hy=>?_,fun U=>?_⟩,hl,hm,N,fun y hy=>?_⟩
  ·obtain⟨i,hi,rfl⟩:=List.mem_map.1 hy
   exact(E i (List.mem_range.1 hi)).2.1
  ·obtain⟨_,_,O⟩:=World.cells?_some (E 0 U).1
   have c0:w.cell? ((x.add (0*9)).add 0)=some (.string (str (q 0).m.path)):=O 0 (by omega)
   have B:x=⟨x.block,x.off,none⟩:=by
    obtain⟨b,o,s⟩:=x
    have hs:s=none:=by
     have:w.cell? (⟨b,o,s⟩:Addr)=some (.string (str (q 0).m.path)):=by simpa [Addr.add]using c0
     exact World.cell?_spot this
    rw[hs]
   refine⟨x.block,x.off,by rw[←B],?_,fun i hi j W=>?_⟩
   ·have G:w.cell? ((x.add (0*9)).add 0)=some (.string (str (q 0).m.path)):=c0
    first|rw[B,Lib.add_plain,Lib.add_plain]at G|rw[B,WideShapes.add_plain,WideShapes.add_plain]at G
    have I:=World.block_lt_of_cell? _ _ G;exact I
   ·obtain⟨_,_,J⟩:=World.cells?_some (E i hi).1
    have:=J j W
    first|rw[B,Lib.add_plain,Lib.add_plain]at this|rw[B,WideShapes.add_plain,WideShapes.add_plain]at this
    rw[R i hi,show x.off+9*i+j=x.off+i*9+j by omega,this,Array.getElem?_toList]
  ·obtain⟨i,hi,rfl⟩:=List.mem_map.1 hy
   exact(E i (List.mem_range.1 hi)).2.2
end
end Tre
namespace Attr
open Go.Shelf cn Rec qd Bk Hp Go.Lib
def ou (c:UInt8) (l:List UInt8):List UInt8 × List UInt8 × Bool:=
 if 0≤Lib.indexByte l c then(l.take (Lib.indexByte l c).toNat,l.drop ((Lib.indexByte l c).toNat+1),true)else(l,[],false)
theorem JT (c:UInt8) (l:List UInt8):(ou c l).1.length≤l.length∧(ou c l).2.1.length≤l.length:=by
 unfold ou;split
 ·simp only[Qg,Qe];omega
 ·simp
theorem DI (c:UInt8) (l:List UInt8) (w:World) (hm:l.length≤140737488351232):
 Calls Tryz.prog 181 #[.string (str l),.string ⟨#[c]⟩] w fun e w'=>e=.returned (.tuple #[.string (str (ou c l).1),.string (str (ou c l).2.1),.bool (ou c l).2.2])∧∃n,w'=w.drewN n:=by
 have A:=Any.stringslite_Index_one Tryz.pL (str l) c w;rw[bg]at A;have hs:(str l).size=l.length:=aq l;have G:(⟨#[c]⟩:ByteArray).size=1:=rfl;unfold ou
 by_cases h:0≤Lib.indexByte l c
 ·obtain⟨k,hk⟩:∃k:Nat,Lib.indexByte l c=k:=⟨(Lib.indexByte l c).toNat,by omega⟩
  have H:=(List.getElem?_eq_some_iff.1 (Lib.indexByte_some hk).1).1;rw[if_pos h,hk,Int.toNat_natCast];rw[hk]at A;clear h hk;simp only;have B:(str l).extract 0 k=str (l.take k):=ue l k;have D:(str l).extract (k+1) (str l).size=str (l.drop (k+1)):=ud l (k+1) _ hs;rw[←B,←D];have c1:(0:Int)≤(k:Int):=by omega
  have c2:(k:Int)≤((str l).size:Int):=by omega
  have c3:(0:Int)≤(k:Int)+1:=by omega
  have c4:(k:Int)+1≤((str l).size:Int):=by omega
  have c5:((str l).size:Int)≤140737488351232:=by omega
  clear B D;have mixed:Tryz.prog.follows .mixedOrders=true:=by kernel_rfl
  go_enter Tryz.func181,Tryz.ntmps181
  go_wp2_with (go_at_call 208;refine A.mono ?_;rintro e w' ⟨rfl,rfl⟩)
  go_region_o
  go_wp2
  go_ret3
  exact⟨rfl,1,rfl⟩
 ·rw[if_neg h]
  have E:Lib.indexByte l c=-1:=by have:=Lib.indexByte_ge l c;omega
  rw[E]at A;clear h E
  go_enter Tryz.func181,Tryz.ntmps181
  go_wp2_with (go_at_call 208;refine A.mono ?_;rintro e w' ⟨rfl,rfl⟩)
  go_ret3
  exact⟨rfl,0,rfl⟩
theorem Gh (c:UInt8) (l:List UInt8) (w:World) (hm:l.length≤140737488351232):
 Calls Tryz.prog 141 #[.string (str l),.string ⟨#[c]⟩] w fun e w'=>e=.returned (.tuple #[.string (str (ou c l).1),.string (str (ou c l).2.1),.bool (ou c l).2.2])∧∃n,w'=w.drewN n:=by
 have hc:=DI c l w hm
 go_enter Tryz.func141,Tryz.ntmps141
 go_wp2_with (go_at_call 181;refine hc.mono ?_;rintro e w' ⟨rfl,n,rfl⟩)
 go_ret3
 exact⟨rfl,n,rfl⟩
theorem iX (l:List UInt8) (w:World) (hm:l.length≤140737488351232):
 Calls Tryz.prog 183 #[.string (str l)] w fun e w'=>e=.returned (.bool (l.all bk))∧Below w.heap.size w w':=by
 have A:=Any.strings_Trim_laid Tryz.KY (by kernel_rfl) (str l) ⟨#[48,49,50,51,52,53,54,55,56,57]⟩ w (by rw[aq];omega) (by decide) (ascii_of_all (by decide));rw[bg]at A
 have E:l.all bk=decide (trimS l [48,49,50,51,52,53,54,55,56,57]=[]):=by
  rw[Bool.eq_iff_iff];simp only[decide_eq_true_eq,List.all_eq_true];exact(L2 l).symm
 obtain⟨z,B⟩:∃z,trimS l [48,49,50,51,52,53,54,55,56,57]=z:=⟨_,rfl⟩
 have A:Calls Tryz.prog 210 #[.string (str l),.string ⟨#[48,49,50,51,52,53,54,55,56,57]⟩] w fun e w'=>e=.returned (.string (str z))∧Below w.heap.size w w':=by
  rw[←B];exact A
 rw[E,B,←aV];clear E B
 go_enter Tryz.func183,Tryz.ntmps183
 go_wp2_with fail
 refine A.mono ?_;rintro e H ⟨rfl,D⟩;have G:=Qh D;clear D A;go_wp2;go_ret;exact⟨rfl,G.out⟩
theorem gy (l:List UInt8) (w:World) (hm:l.length≤140737488351232):
 Calls Tryz.prog 146 #[.string (str l)] w fun e w'=>e=.returned (uk (dd l))∧Below w.heap.size w w':=by
 have A:=kL (l.length:Int) 1 18 w;have hs:(str l).size=l.length:=aq l;have E:((str l).size:Int)=(l.length:Int):=by rw[hs]
 by_cases h:1≤l.length∧l.length≤18
 ·rw[fK (by omega) (by omega)]at A
  have hd:=iX l w hm
  cases B:l.all bk with
  |false=>
   rw[B]at hd;rw[show dd l=none by unfold dd;rw[if_neg (by omega),B];rfl];clear B h hm hs;rw[←E]at A;clear E;have I:=Qh hd;clear hd
   go_enter Tryz.func146,Tryz.ntmps146
   go_wp2_with fail
   refine A.mono ?_;rintro e D ⟨rfl,rfl⟩;clear A;go_wp2_with fail;refine I.out.mono ?_;rintro e D ⟨rfl,G⟩;have H:=Qh G;clear G;go_wp2;go_ret2;exact⟨rfl,H.out⟩
  |true=>
   rw[B]at hd;rw[show dd l=some (gI l) by unfold dd;rw[if_neg (by omega),B];rfl];have M:=fun w=>Any.strconv_Atoi Tryz.KU (str l) (gI l) (by rw[hs];omega) (by rw[bg];exact JN l (by rintro rfl;simp at h) (by simpa using B)) w
   have mixed:Tryz.prog.follows .mixedOrders=true:=by kernel_rfl
   clear B h hm hs;rw[←E]at A;clear E;have I:=Qh hd;have L:=Qh M;clear hd M;obtain⟨n,J⟩:∃n:Int,(gI l:Int)=n:=⟨_,rfl⟩
   rw[show uk (some (gI l))=.tuple #[.int .i64 n,.bool true] by rw[←J];rfl];rw[J]at L;clear J
   go_enter Tryz.func146,Tryz.ntmps146
   go_wp2_with fail
   refine A.mono ?_;rintro e D ⟨rfl,rfl⟩;clear A;go_wp2_with fail;refine I.out.mono ?_;rintro e D ⟨rfl,G⟩;have H:=Qh G;clear G;go_wp2_with fail;refine(L.out D).mono ?_;rintro e w2 ⟨rfl,t,O⟩;have N:Below D.heap.size D w2:=by rw[O];exact wS _ _ _
   have R:=Qh (H.out.trans (N.mono H.out.size));clear O N;go_wp2
   go_quiet_o (fail)
   go_wp2;go_ret2;exact⟨rfl,below_drewN R.out _⟩
 ·rw[iP (by omega)]at A
  rw[show dd l=none by unfold dd;rw[if_pos (by omega)]];clear h hm hs;rw[←E]at A;clear E
  go_enter Tryz.func146,Tryz.ntmps146
  go_wp2_with fail
  refine A.mono ?_;rintro e D ⟨rfl,rfl⟩;go_wp2;go_ret2;exact⟨rfl,Below.refl _ _⟩
def Hq (o:Option Nat):Int:=match o with
 |some n=>n
 |none=>0
theorem mV (o:Option Nat):uk o=.tuple #[.int .i64 (Hq o),.bool o.isSome]:=by cases o<;>rfl
theorem LM (l:List UInt8):uQ l=if(ou 46 l).2.1.all bk then dd (ou 46 l).1 else none:=by
 unfold uQ ou
 by_cases h:0≤Lib.indexByte l 46
 ·rw[if_pos h,if_pos h]
 ·rw[if_neg h,if_neg h]
  rfl
theorem AG (l:List UInt8) (w:World) (hm:l.length≤140737488351232):
 Calls Tryz.prog 147 #[.string (str l)] w fun e w'=>e=.returned (uk (uQ l))∧Below w.heap.size w w':=by
 have hc:=Gh 46 l w hm;obtain⟨h1,J⟩:=JT 46 l;rw[LM];generalize ou 46 l=C at hc h1 J⊢;obtain⟨a,r,b⟩:=C;simp only at hc h1 J⊢;have hd:=fun w=>iX r w (by omega)
 have L:=fun w=>gy a w (by omega)
 clear h1 J hm;have E:=Qh hd;have G:=Qh L;clear hd L
 cases H:r.all bk with
 |false=>
  rw[H]at E;clear H
  go_enter Tryz.func147,Tryz.ntmps147
  go_wp2_with fail
  refine hc.mono ?_;rintro e O ⟨rfl,n,rfl⟩;go_wp2_with fail;refine(E.out _).mono ?_;rintro e I ⟨rfl,A⟩;have D:Hid (Below w.heap.size w I):=Qh ((below_drewN (Below.refl _ _) n).trans A);clear A;go_wp2;go_ret2;exact⟨rfl,D.out⟩
 |true=>
  rw[H]at E;clear H;rw[if_pos rfl,mV];simp only[mV]at G;generalize Hq (dd a)=N at G⊢;generalize (dd a).isSome=B at G⊢
  go_enter Tryz.func147,Tryz.ntmps147
  go_wp2_with fail
  refine hc.mono ?_;rintro e O ⟨rfl,n,rfl⟩;go_wp2_with fail;refine(E.out _).mono ?_;rintro e I ⟨rfl,A⟩;have D:Hid (Below w.heap.size w I):=Qh ((below_drewN (Below.refl _ _) n).trans A);clear A;go_wp2_with fail;refine(G.out I).mono ?_;rintro e w3 ⟨rfl,A⟩;have M:Hid (Below w.heap.size w w3):=Qh (D.out.trans (A.mono D.out.size));clear A;go_wp2;go_ret2;exact⟨rfl,M.out⟩
theorem II (v:List UInt8) (hv:v≠[]) (b i:Nat) (t:TypeId) (cs:Array Value) (old:Value) (w:World) (h:ao w b t cs) (hi:i<cs.size) (ho:cs[i]? =some old):
 Calls Tryz.prog 143 #[.pointer (some ⟨b,i,none⟩),.string (str v)] w fun e w'=>e=.returned (.tuple #[])∧w'=w.setCell ⟨b,i,none⟩ (.string (str v)):=by
 have c0:=h.cell i;rw[ho]at c0;have f0:=h.frozen i;have A:(str v).toList.isEmpty=false:=by rw[aV];simpa using hv
 clear h hi ho hv
 go_enter Tryz.func143,Tryz.ntmps143
 go_wp2
 go_end0
 exact⟨rfl,rfl⟩
theorem LX (a:Option Addr) (w:World):
 Calls Tryz.prog 143 #[.pointer a,.string ⟨#[]⟩] w fun e w'=>e=.returned (.tuple #[])∧w=w':=by
 go_enter Tryz.func143,Tryz.ntmps143
 go_wp2
 go_end0
 exact⟨rfl,rfl⟩
theorem bV (v:List UInt8) (b i:Nat) (t:TypeId) (cs:Array Value) (old:List UInt8) (w:World) (h:ao w b t cs) (hi:i<cs.size) (ho:cs[i]? =some (.string (str old))):
 Calls Tryz.prog 143 #[.pointer (some ⟨b,i,none⟩),.string (str v)] w fun e w'=>e=.returned (.tuple #[])∧ao w' b t (cs.set i (.string (str (aE v old))) hi)∧Kept (aA b) w w':=by
 by_cases A:v=[]
 ·subst A
  refine(LX _ w).mono ?_;rintro e w' ⟨rfl,rfl⟩;refine⟨rfl,?_,Kept.refl _ _⟩
  have e:cs.set i (.string (str (aE [] old))) hi=cs:=by
   apply Array.ext (by simp);intro j h1 D;rw[Array.getElem_set];split
   ·rename_i B
    subst B;rw[Array.getElem?_eq_getElem hi]at ho;exact(Option.some.inj ho).symm
   ·rfl
  rw[e];exact h
 ·refine(II v A b i t cs _ w h hi ho).mono ?_
  rintro e w' ⟨rfl,rfl⟩;refine⟨rfl,?_,(Kept.refl (aA b) _).setCell (a:=⟨b,i,none⟩) (.inr rfl) _⟩;rw[show aE v old=v from if_neg A];exact h.set i _ hi
def Ar (time:Bool):Value:=.func (.func (if time then 147 else 146)) #[] #[]
theorem Hv (time:Bool) (a:Option Addr) (w:World):
 Calls Tryz.prog 145 #[.pointer a,.string ⟨#[]⟩,Ar time] w fun e w'=>e=.returned (.bool true)∧w=w':=by
 go_enter Tryz.func145,Tryz.ntmps145
 go_wp2;go_ret;exact⟨rfl,rfl⟩
def tM (time:Bool) (l:List UInt8):Option Nat:=if time then uQ l else dd l
theorem Le (time:Bool) (v:List UInt8) (hv:v≠[]) (hm:v.length≤140737488351232) (b i:Nat) (t:TypeId) (cs:Array Value) (old:Value) (w:World) (hb:ao w b t cs) (hi:i<cs.size) (ho:cs[i]? =some old) (hold:∃k,old=.int .i64 k):
 Calls Tryz.prog 145 #[.pointer (some ⟨b,i,none⟩),.string (str v),Ar time] w fun e w'=>e=.returned (.bool (tM time v).isSome)∧ao w' b t (cs.set i (.int .i64 (Hq (tM time v))) hi)∧Kept (aA b) w w':=by
 obtain⟨k,rfl⟩:=hold;have L:(str v).toList.isEmpty=false:=by rw[aV];simpa using hv
 have hs:=fun w=>AG v w hm
 have E:=fun w=>gy v w hm
 have G:=Qh hb;have I:=Qh ho;clear hb ho hv hm
 cases time with
 |false=>
  rw[show Ar false=.func (.func 146) #[] #[]from rfl,show tM false v=dd v from rfl];simp only[mV]at E;generalize Hq (dd v)=N at E⊢;generalize (dd v).isSome=B at E⊢;have H:=Qh E;clear E hs
  go_enter Tryz.func145,Tryz.ntmps145
  go_wp2_with fail
  refine(H.out w).mono ?_;rintro e J ⟨rfl,D⟩;have A:=G.out.below D G.out.lt;have c0:=A.cell i;rw[I.out]at c0;have f0:=A.frozen i;have H1:=Qh (And.intro A D);clear A D;go_wp2;go_ret;exact⟨rfl,H1.out.1.set i _ hi,(Kept.aS H1.out.2 (aA b)).setCell (a:=⟨b,i,none⟩) (.inr rfl) _⟩
 |true=>
  rw[show Ar true=.func (.func 147) #[] #[]from rfl,show tM true v=uQ v from rfl];simp only[mV]at hs;generalize Hq (uQ v)=N at hs⊢;generalize (uQ v).isSome=B at hs⊢;have H:=Qh hs;clear E hs
  go_enter Tryz.func145,Tryz.ntmps145
  go_wp2_with fail
  refine(H.out w).mono ?_;rintro e J ⟨rfl,D⟩;have A:=G.out.below D G.out.lt;have c0:=A.cell i;rw[I.out]at c0;have f0:=A.frozen i;have H1:=Qh (And.intro A D);clear A D;go_wp2;go_ret;exact⟨rfl,H1.out.1.set i _ hi,(Kept.aS H1.out.2 (aA b)).setCell (a:=⟨b,i,none⟩) (.inr rfl) _⟩
theorem aP (time:Bool) (v:List UInt8) (hm:v.length≤140737488351232) (b i:Nat) (t:TypeId) (cs:Array Value) (old:Int) (w:World) (hb:ao w b t cs) (hi:i<cs.size) (ho:cs[i]? =some (.int .i64 old)):
 Calls Tryz.prog 145 #[.pointer (some ⟨b,i,none⟩),.string (str v),Ar time] w fun e w'=>e=.returned (.bool (eh time v old).isSome)∧ao w' b t (cs.set i (.int .i64 ((eh time v old).getD 0)) hi)∧Kept (aA b) w w':=by
 by_cases A:v=[]
 ·subst A
  refine(Hv time _ w).mono ?_;rintro e w' ⟨rfl,rfl⟩;refine⟨rfl,?_,Kept.refl _ _⟩
  have e:cs.set i (.int .i64 ((eh time [] old).getD 0)) hi=cs:=by
   apply Array.ext (by simp);intro j h1 D;rw[Array.getElem_set];split
   ·rename_i G
    subst G;rw[Array.getElem?_eq_getElem hi]at ho;exact(Option.some.inj ho).symm
   ·rfl
  rw[e];exact hb
 ·refine(Le time v A hm b i t cs _ w hb hi ho ⟨_,rfl⟩).mono ?_
  rintro e w' ⟨rfl,h1,D⟩;have B:eh time v old=Option.map Int.ofNat (tM time v):=if_neg A;have E:(eh time v old).getD 0=Hq (tM time v):=by rw[B];cases tM time v<;>rfl
  rw[E,B,Option.isSome_map];exact⟨rfl,h1,D⟩
end Attr
namespace oa
open cn Bk Rec Block Mem Tre Go.Lib
structure ux (w wr:World) (ps:List (List UInt8)) (q:Option Addr) (n:Nat) (ss:List (List UInt8)):Prop where
 bel:Below w.heap.size w wr
 row:0<n→∃g,q=some ⟨g,0,none⟩∧w.heap.size≤g∧Rs wr g ss
 perm:ss.Perm ps
 len:ps.length=n
section
variable {w wr w':World} {ps ss:List (List UInt8)} {q:Option Addr} {n:Nat}
theorem ux.UT (h:ux w wr ps q n ss):ss.length=n:=by rw[h.perm.length_eq,h.len]
theorem ux.drewN (h:ux w wr ps q n ss) (m:Nat):ux w (wr.drewN m) ps q n ss where
 bel:=below_drewN h.bel m
 row:=fun A=>by
  obtain⟨g,h1,B,D⟩:=h.row A;exact⟨g,h1,B,LL D m⟩
 perm:=h.perm
 len:=h.len
theorem ux.drew (h:ux w wr ps q n ss):ux w wr.drew ps q n ss:=h.drewN 1
theorem ux.strs (h:ux w wr ps q n ss):lC wr q n ss:=by
 rcases Nat.eq_zero_or_pos n with h0|h0
 ·have D:ss=[]:=List.eq_nil_of_length_eq_zero (by rw[h.UT,h0])
  rw[h0,D];exact LV _ _
 ·obtain⟨g,A,_,B⟩:=h.row h0
  have:=B.strs;rw[h.UT]at this;rw[A];exact this
end
end oa
namespace oa
open cn Bk Rec Block Mem Go.Proofs.YtdhibldkldlfpaaGreatDoor.Mp Tre Go.Lib
section
variable {w:World} {o:Oper} {a:Act} {K:Act→World→Prop} {Q:Exit→Act→World→Prop}
end
structure YO where
 va:Value
 vb:Value
 bc:Nat
 bd:Nat
def Nh (L:Bool) (v v':Value):Value:=if L=true then v' else v
def Ng (L:Bool) (ss:List (List UInt8)) (z:List UInt8):List (List UInt8):=if L=true then ss++[z]else ss
def UW (u v:Value) (k:Nat):Prop:=u.ownBlock=some k∨v.ownBlock=some k
structure Ml (w1:World) (B:Nat) (v6 v7:Value) (zN fst:List (List UInt8)) (ld pt:List UInt8) (γ:YO) (L3 L4 L8 L9:Bool) (w:World):Prop where
 kp:Kept (UW v6 v7) w1 w
 ra:w.ownsRow B 9 1 (Nh L4 v6 γ.va) (Ng L4 zN ld).length (Er (Ng L4 zN ld))
 rb:w.ownsRow B 9 1 (Nh L9 v7 γ.vb) (Ng L9 fst pt).length (Er (Ng L9 fst pt))
 sep:∀k,(Nh L4 v6 γ.va).ownBlock=some k→(Nh L9 v7 γ.vb).ownBlock≠some k
 lc:L3=true→L4=false→ao w γ.bc 9 #[.string (str ld)]∧w1.heap.size≤γ.bc
 lo:L8=true→L9=false→ao w γ.bd 9 #[.string (str pt)]∧w1.heap.size≤γ.bd
 c4:L4=true→L3=true
 c9:L9=true→L8=true
theorem Ml.grow {w1 w:World} {B:Nat} {v6 v7:Value} {zN fst:List (List UInt8)} {ld pt:List UInt8} {γ:YO} {L3 L4 L8 L9:Bool} (h:Ml w1 B v6 v7 zN fst ld pt γ L3 L4 L8 L9 w) (hb:Below w.heap.size w w'):Ml w1 B v6 v7 zN fst ld pt γ L3 L4 L8 L9 w' where
 kp:=h.kp.trans (Kept.aS hb _)
 ra:=cR h.ra hb
 rb:=cR h.rb hb
 sep:=h.sep
 lc:=fun h1 A=>⟨(h.lc h1 A).1.below hb (h.lc h1 A).1.lt,(h.lc h1 A).2⟩
 lo:=fun h1 A=>⟨(h.lo h1 A).1.below hb (h.lo h1 A).1.lt,(h.lo h1 A).2⟩
 c4:=h.c4
 c9:=h.c9
end oa
namespace D3
open cn Bk Mem Tre Go.Lib
def vf (w:World) (n:Nat) (e:Ending) (w':World):Prop:=∃b:Bool,e=.returned (.bool b)∧(b=true→n≤60)∧Below w.heap.size w w'
theorem zP (p:Option Addr) (n c:Nat) (xs:List NP) (w:World) (hM:aY w p n xs) (hc:n≤c) (hm:c≤maxLen) (hR:∀x∈xs,x.m.path.length≤140737488351232∧x.m.target.length≤140737488351232∧x.m.af.length≤140737488351232∧x.m.body.length≤140737488351232):
 Calls Tryz.prog 8 #[.slice p n c] w (vf w n):=by
 have W:n≤9223372036854775807:=by unfold maxLen at hm;omega
 have M:=Qh hM;have L:=Qh hM.1;have N:=Qh hR;clear hM hR hm
 go_enter Tryz.func8,Tryz.ntmps8
 go_wp2_with fail
 go_loopw [3,4] (fun s i wr=>∃(k:Nat) (S:Int),k≤n∧i=.int .i64 (k:Int)∧s=.int .i64 S∧Hid (Below w.heap.size w wr)) (fun _ i _=>n - (RowKit.intOf i).toNat)
 case atStart=>exact⟨0,0,Nat.zero_le _,rfl,rfl,Qh (Below.refl _ _)⟩
 case round=>
  obtain⟨k,S,hk,rfl,rfl,B⟩:=hrel
  by_cases H:k<n
  ·have E:k<xs.length:=by rw[L.out];exact H
   have A:=N.out _ (oB xs k E);obtain⟨b,o,rfl,T,U,hc⟩:=(M.out.below B.out).dD H;obtain⟨y,hy⟩:∃y,xs.getD k aG=y:=⟨_,rfl⟩
   rw[hy]at A hc;obtain⟨c0,c1,c2,c3,c4,c5,c6,c7,R⟩:=hc;have X:(k:Int)<(n:Int):=by omega
   have s0:(str y.m.path).size=y.m.path.length:=aq _;have s1:(str y.m.target).size=y.m.target.length:=aq _;obtain⟨pl,G⟩:∃pl,y.m.path.length=pl:=⟨_,rfl⟩
   obtain⟨tl,J⟩:∃tl,y.m.target.length=tl:=⟨_,rfl⟩
   obtain⟨bl,I⟩:∃bl,y.m.body.length=bl:=⟨_,rfl⟩
   rw[G]at s0 A;rw[J]at s1 A;rw[I]at R A;clear A U T hy E c2 c3 c4 c5 c6 c7 G J I;go_wp2_with fail
   go_quiet (fail)
   go_wp2;go_roundw
   case rel=>exact⟨k+1,_,by omega,by go_num,rfl,Qh (below_drewN B.out _)⟩
   case measure=>simp[RowKit.intOf];omega
  ·have Y:¬((k:Int)<(n:Int)):=by omega
   by_cases D:n≤60
   ·have O:(n:Int)≤(60:Int):=by omega
    by_cases V:S≤(200000:Int)
    ·go_wp2
     go_ret;exact⟨true,rfl,fun _=>D,B.out⟩
    ·go_wp2
     go_ret;exact⟨false,rfl,(fun h=>by cases h),B.out⟩
   ·have O:¬((n:Int)≤(60:Int)):=by omega
    go_wp2;go_ret;exact⟨false,rfl,(fun h=>by cases h),B.out⟩
end D3
end Go.Proofs.YtdhibldkldlfpaaGreatDoor
