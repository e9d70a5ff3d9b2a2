/- Merged. -/
import Derived.Test.YtdhibldkldlfpaaGreatDoorEmitPacksX12
import Derived.RangeFuncNested
import Derived.Test.YtdhibldkldlfpaaGreatDoorEmitPacksX25
import Derived.Test.YtdhibldkldlfpaaGreatDoorEmitPacksX14
import Derived.Test.YtdhibldkldlfpaaGreatDoorEmitPacksX15
import Derived.Test.YtdhibldkldlfpaaGreatDoorEmitPacksX26
import Derived.Test.YtdhibldkldlfpaaGreatDoorEmitPacksX8
import Derived.Test.YtdhibldkldlfpaaGreatDoorEmitPacksX4
namespace Go.Proofs.YtdhibldkldlfpaaGreatDoor
namespace Bk
end Bk
set_option linter.unusedVariables false
set_option maxHeartbeats 4000000
set_option maxRecDepth 100000
open Go.ChangeShapes Go.WideShapes Go.ChangeAt Go.RowKit Base cf
variable {a:Act} {ops:Array Oper} {rest:List Oper} {B b g i k n base:Nat} {S:Nat→Prop} {o:Oper} {p:Option Addr} {v:Value} {W w w':World}
namespace Bk
def au (W:World) (b:Nat) (t:TypeId) (cs:Array Value):Prop:=W.heap[b]? =some (.cells cs t (0,0))
section
variable {W W':World} {b:Nat} {t:TypeId} {cs:Array Value}
theorem au.lt (h:au W b t cs):b<W.heap.size:=(Array.getElem?_eq_some_iff.1 h).1
theorem au.cell (h:au W b t cs) (i:Nat):W.cell? ⟨b,i,none⟩=cs[i]? :=by simp[World.cell?,show W.heap[b]? =_ from h]
theorem au.frozen (h:au W b t cs) (i:Nat):W.frozen? ⟨b,i,none⟩=false:=by simp[World.frozen?,show W.heap[b]? =_ from h]
theorem au.new (W:World) (t:TypeId) (cs:Array Value):au (W.alloc (.cells cs t)) W.heap.size t cs:=World.alloc_heap_new W _
theorem au.kept (h:au W b t cs) {row:Option Nat} (hg:W.grownBy W' row) (hr:∀r,row=some r→∃o:Obj,W.heap[r]? =some o∧o.isCells=false):au W' b t cs:=
 (grownBy_keeps_cells hg hr h rfl).trans h
theorem au.alloc (h:au W b t cs) (o:Obj):au (W.alloc o) b t cs:=h.kept (World.grownBy_alloc W o none) (fun r e=>by cases e)
theorem au.drewN (h:au W b t cs) (n:Nat):au (W.drewN n) b t cs:=h
theorem au.drew (h:au W b t cs):au W.drew b t cs:=h
theorem au.below (h:au W b t cs) (hb:Below n W W') (hn:b<n):au W' b t cs:=(hb.block b hn).trans h
theorem au.bV (h:au W b t cs) (hk:Kept S W W') (hn:¬S b):au W' b t cs:=hk.some_ h hn
theorem au.set (h:au W b t cs) (i:Nat) (v:Value) (hi:i<cs.size):au (W.setCell ⟨b,i,none⟩ v) b t (cs.set i v hi):=by
 obtain⟨hl,he⟩:=Array.getElem?_eq_some_iff.1 h;unfold au World.setCell;refine Array.getElem?_eq_some_iff.2 ⟨by simpa using hl,?_⟩;rw[Array.getElem_modify,if_pos rfl,he];simp[Array.setIfInBounds,hi]
theorem au.other (h:au W b t cs) {b':Nat} (cX:b'≠b) (v:Value):au (W.setCell ⟨b',i,none⟩ v) b t cs:=by
 unfold au;rw[Below.heap_setCell _ _ _ _ (fun e=>cX (by simpa using e.symm))];exact h
end
end Bk
namespace Mem
open cN Bk Go.Lib
structure MP where
 m:aw
 p:Option Addr
 c:Nat
def Up:aw:=⟨[],[],0,0,0,0,0,[]⟩
def cn:MP:=⟨Up,none,0⟩
def dj (m:aw) (p:Option Addr) (c:Nat):Array Value:=#[.string (str m.path),.string (str m.target),.int .u8 (m.kind.toNat:Int),.int .i64 m.mode,.int .i64 m.uid,.int .i64 m.gid,.int .i64 m.time,.slice p m.body.length c]
def MP.cs (x:MP):Array Value:=dj x.m x.p x.c
theorem MP.lW (x:MP):x.cs.toList=[.string (str x.m.path),.string (str x.m.target),.int .u8 (x.m.kind.toNat:Int),.int .i64 x.m.mode,.int .i64 x.m.uid,.int .i64 x.m.gid,.int .i64 x.m.time,.slice x.p x.m.body.length x.c]:=rfl
structure dP (w:World) (x:MP):Prop where
 gC:cK w x.p x.m.body.length x.m.body
 le:x.m.body.length≤x.c
 mx:x.c≤maxLen
theorem dP.kept {x:MP} (h:dP w x) (hk:Kept S w w') (hn:0<x.m.body.length→∀a,x.p=some a→¬S a.block):dP w' x:=⟨h.gC.kept hk hn,h.le,h.mx⟩
theorem dP.below {x:MP} (h:dP w x) (hb:Below w.heap.size w w'):dP w' x:=⟨h.gC.below hb,h.le,h.mx⟩
def fz (xs:List MP):List Value:=xs.flatMap fun x=>x.cs.toList
theorem Fg (x:MP) (xs:List MP):fz (x::xs)=x.cs.toList++fz xs:=rfl
theorem vk (xs:List MP) (x:MP):fz (xs++[x])=fz xs++x.cs.toList:=by simp[fz]
theorem Kw (xs:List MP):∀i,i<xs.length→∀j,j<8→(fz xs)[8*i+j]? =(xs.getD i cn).cs[j]? :=by
 induction xs with
 |nil=>intro i h;simp at h
 |cons x xs ih=>
  intro i h j A;rw[Fg];have hl:x.cs.toList.length=8:=rfl
  cases i with
  |zero=>rw[List.getElem?_append_left (by omega),show 8*0+j=j by omega,Array.getElem?_toList];rfl
  |succ i=>
   rw[List.getElem?_append_right (by omega),hl,show 8*(i+1)+j - 8=8*i+j by omega,ih i (by simpa using h) j A];rfl
theorem yv (xs:List MP):∀u∈fz xs,u.oneCell'=true:=by
 intro u hu;obtain⟨x,_,A⟩:=List.mem_flatMap.1 hu;rw[MP.lW]at A;simp only[List.mem_cons,List.not_mem_nil,or_false]at A;rcases A with rfl|rfl|rfl|rfl|rfl|rfl|rfl|rfl<;>rfl
def dD (w:World) (p:Option Addr) (n:Nat) (xs:List MP):Prop:=
 xs.length=n∧(∀x∈xs,dP w x)∧(0<n→∃b o,p=some ⟨b,o,none⟩∧b<w.heap.size∧∀i,i<n→∀j,j<8→w.cell? ⟨b,o+8*i+j,none⟩=(xs.getD i cn).cs[j]?)
theorem dD.below {xs:List MP} (h:dD w p n xs) (hb:Below w.heap.size w w'):dD w' p n xs:=by
 refine⟨h.1,fun x E=>(h.2.1 x E).below hb,fun B=>?_⟩;obtain⟨b,o,rfl,A,hc⟩:=h.2.2 B;refine⟨b,o,rfl,Nat.lt_of_lt_of_le A hb.size,fun i hi j D=>?_⟩;rw[hb.cell (p:=⟨b,o+8*i+j,none⟩) A];exact hc i hi j D
theorem wh (w:World) (p:Option Addr):dD w p 0 []:=⟨rfl,fun x A=>by simp at A,fun h=>by omega⟩
theorem ja {e:TypeId} {xs:List MP} (h:w.ownsRow base e 8 v xs.length (fz xs)) (hx:∀x∈xs,dP w x):∃p c,v=.slice p xs.length c∧xs.length≤c∧c≤maxLen∧dD w p xs.length xs:=by
 rcases h.2 with⟨rfl,A⟩|⟨g,cap,cur,rfl,hb,hg,hn,hc,hs,ht⟩
 ·exact⟨none,0,by rw[A],by omega,by decide,rfl,hx,fun h=>by omega⟩
 ·refine⟨some ⟨g,0,none⟩,cap,rfl,hn,hc,rfl,hx,fun A=>⟨g,0,rfl,(Array.getElem?_eq_some_iff.1 hg).1,fun i hi j B=>?_⟩⟩
  have get:∀j,j<8*xs.length→w.cell? ⟨g,j,none⟩=(fz xs)[j]? :=fun j B=>by
   unfold World.cell?;rw[hg,←ht,List.getElem?_take,if_pos (by omega)];simp
  rw[Nat.zero_add,get _ (by omega)];exact Kw xs i hi j B
theorem dD.cells {xs:List MP} (h:dD w p n xs) (hi:i<n):∃b o,p=some ⟨b,o,none⟩∧b<w.heap.size∧dP w (xs.getD i cn)∧
 w.cell? ⟨b,o+8*i,none⟩=some (.string (str (xs.getD i cn).m.path))∧w.cell? ⟨b,o+8*i+1,none⟩=some (.string (str (xs.getD i cn).m.target))∧
 w.cell? ⟨b,o+8*i+2,none⟩=some (.int .u8 ((xs.getD i cn).m.kind.toNat:Int))∧w.cell? ⟨b,o+8*i+3,none⟩=some (.int .i64 (xs.getD i cn).m.mode)∧
 w.cell? ⟨b,o+8*i+4,none⟩=some (.int .i64 (xs.getD i cn).m.uid)∧w.cell? ⟨b,o+8*i+5,none⟩=some (.int .i64 (xs.getD i cn).m.gid)∧
 w.cell? ⟨b,o+8*i+6,none⟩=some (.int .i64 (xs.getD i cn).m.time)∧w.cell? ⟨b,o+8*i+7,none⟩=some (.slice (xs.getD i cn).p (xs.getD i cn).m.body.length (xs.getD i cn).c):=by
 obtain⟨b,o,rfl,B,hc⟩:=h.2.2 (by omega)
 have A:dP w (xs.getD i cn):=h.2.1 _ (by
  have hl:i<xs.length:=by rw[h.1];exact hi
  rw[List.getD,Qd hl]
  exact List.getElem_mem hl)
 exact⟨b,o,rfl,B,A,hc i hi 0 (by omega),hc i hi 1 (by omega),hc i hi 2 (by omega),hc i hi 3 (by omega),hc i hi 4 (by omega),hc i hi 5 (by omega),hc i hi 6 (by omega),hc i hi 7 (by omega)⟩
theorem An:(Tryz.prog.info? 48).map (fun i=>(i.zero,i.size,i.bytes))=some (some (.agg #[.string ⟨#[]⟩,.string ⟨#[]⟩,.int .u8 0,.int .i64 0,.int .i64 0,.int .i64 0,.int .i64 0,.slice none 0 0]),8,96):=by kernel_rfl
theorem dU {P:Program} (base:Nat) (t ty e:TypeId) (i:TypeInfo) (z:Value) (size bytes:Nat) (ht:P.underlying t=some (.slice e)) (hi:P.info? e=some i) (hz:i.zero=some z)
 (eG:i.size=size) (qq:i.bytes=bytes) (We:z.cells.size=size) (hsz:0<size)
 (v:Value) (n:Nat) (xs:List Value) (aH:w.ownsRow base e size v n xs)
 (a:Addr) (m c:Nat) (news:List Value) (hl:news.length=m*size) (qt:∀j u,news[j]? =some u→w.cell? (a.add j)=some u) (h1:∀u∈news,u.oneCell'=true)
 (MK:n+m≤maxLen) (mc:(n+m)*bytes≤140737488355328) (dh:base≤w.heap.size):
 ∃v' w',(Builtin.append_ #[t,t] ty #[v,.slice (some a) m c]).run P w=.ok v' w'∧w'.ownsRow base e size v' (n+m) (xs++news)∧w.grownBy w' v.ownBlock∧dN w v v':=by
 obtain⟨v',w',B,G,H,M⟩:=run_append_own (P:=P) w base t ty e i z size bytes ht hi hz eG qq We hsz v n xs aH a m c news hl qt h1 MK mc dh;refine⟨v',w',B,G,H,?_⟩;have E:=aH;rcases aH.2 with⟨rfl,rfl⟩|⟨g,cap,cur,rfl,hbg,hg,Bi,Od,hcs,ID⟩
 ·have I:xs=[]:=List.eq_nil_of_length_eq_zero (by simpa using aH.1)
  subst I;obtain⟨v2,L,A,D,_,_⟩:=run_append_own (P:=P) w w.heap.size t ty e i z size bytes ht hi hz eG qq We hsz _ 0 [] (World.ownsRow_nil w w.heap.size e size) a m c news hl qt h1 MK mc (Qk _);rw[B]at A
  cases A
  exact fun k hk=>Or.inr (D.lt k hk).1
 ·by_cases J:n+m≤cap
  ·obtain⟨L,A,_,_⟩:=run_append_own_spare (P:=P) w base t ty e i size ht hi eG g n cap xs E a m c news hl qt h1 J
   rw[B]at A
   cases A
   exact fun k hk=>Or.inl hk
  ·have holds:∀j u,xs[j]? =some u→w.cell? ((⟨g,0,none⟩:Addr).add j)=some u:=E.cells (g:=g) rfl
   have A:=run_append_grow (P:=P) w t ty e i z ht hi hz ⟨g,0,none⟩ n cap xs (by rw[eG];exact E.1) holds a m c news (by rw[eG];exact hl) qt (by omega) (by unfold maxLen at MK;omega) (growslice_fits (by omega) (by rw[qq];exact mc));rw[B]at A
   cases A
   exact fun k hk=>Or.inr (by simp[Value.ownBlock]at hk;omega)
theorem kT {Q:Exit→Act→World→Prop} (o9:o.guard=none) (s x:Operand)
 (ho:o.op=.call {callee:=.builtin .append,args:=#[s,x],argTypes:=#[38,38]})
 (base:Nat) (v:Value) (xs:List MP) (hs:a.eval s=v) (aH:w.ownsRow base 48 8 v xs.length (fz xs))
 (b:Nat) (c:Nat) (y:MP) (hx:a.eval x=.slice (some ⟨b,0,none⟩) 1 c) (hb:au w b 48 y.cs) (gA:xs.length≤1000000) (dh:base≤w.heap.size)
 (h:∀v' w',w'.ownsRow base 48 8 v' (xs++[y]).length (fz (xs++[y]))→w.grownBy w' v.ownBlock→dN w v v'→wpList Tryz.prog ops Q rest (a.put o.dst v') w'):wpList Tryz.prog ops Q (o::rest) a w:=by
 obtain⟨i0,hi,E,B,D⟩:=info_parts An
 obtain⟨v',w',L,A,G,H⟩:=dU (P:=Tryz.prog) base 38 o.type 48 i0 _ 8 96 Tryz.underlying38 hi E B D rfl (by decide) v xs.length (fz xs) aH ⟨b,0,none⟩ 1 c y.cs.toList rfl (by
  intro j u J;rw[WideShapes.add_plain,Nat.zero_add,hb.cell,←Array.getElem?_toList]
  exact J) (fun u hu=>yv [y] u (by simpa [fz]using hu)) (by unfold maxLen;omega) (by omega) dh
 refine wpList_plain o9 fun K I=>?_
 unfold Oper.wp;simp[execOp,ho,resolve,invoke,builtin,hs,hx,L,Result.andThen];rw[←vk,show xs.length+1=(xs++[y]).length by simp]at A;exact I _ _ (h v' w' A G H)
theorem pO (xs:List MP) (k:Nat) (h:k<xs.length):(xs.take (k+1)).map MP.m=(xs.take k).map MP.m++[(xs.getD k cn).m]:=by
 rw[List.take_succ_eq_append_getElem h,List.map_append,List.getD,Qd h];rfl
theorem lA (xs:List MP) (k:Nat) (h:k<xs.length):xs.getD k cn∈xs:=by
 rw[List.getD,Qd h];exact List.getElem_mem h
theorem lS {m:Nat} {bs:List UInt8} (h:cK w p m bs) (h0:0<m) {y:Addr} (hy:p=some y):y.block<w.heap.size:=by
 obtain⟨b,o,he,A,_⟩:=h.cell h0;rw[hy]at he
 cases he
 exact A
def ri (w:World) (b o:Nat) (y:MP):Prop:=
 w.cell? ⟨b,o,none⟩=some (.string (str y.m.path))∧w.cell? ⟨b,o+1,none⟩=some (.string (str y.m.target))∧w.cell? ⟨b,o+2,none⟩=some (.int .u8 (y.m.kind.toNat:Int))∧w.cell? ⟨b,o+3,none⟩=some (.int .i64 y.m.mode)∧
 w.cell? ⟨b,o+4,none⟩=some (.int .i64 y.m.uid)∧w.cell? ⟨b,o+5,none⟩=some (.int .i64 y.m.gid)∧w.cell? ⟨b,o+6,none⟩=some (.int .i64 y.m.time)∧w.cell? ⟨b,o+7,none⟩=some (.slice y.p y.m.body.length y.c)
theorem ri.below {o:Nat} {y:MP} (h:ri w b o y) (hb:b<w.heap.size) (hw:Below w.heap.size w w'):ri w' b o y:=by
 unfold ri at h⊢;simp only[hw.cell (p:=⟨b,_,none⟩) hb];exact h
theorem dD.kU {xs:List MP} (h:dD w p n xs) (hi:i<n):∃b o,p=some ⟨b,o,none⟩∧b<w.heap.size∧dP w (xs.getD i cn)∧ri w b (o+i*8) (xs.getD i cn):=by
 obtain⟨b,o,D,B,A,c0,c1,c2,c3,c4,c5,c6,c7⟩:=h.cells hi;rw[Nat.mul_comm]at c0 c1 c2 c3 c4 c5 c6 c7;exact⟨b,o,D,B,A,c0,c1,c2,c3,c4,c5,c6,c7⟩
end Mem
namespace Tre
open cN Bk Mem Go.Lib
variable {ys:List MP} {o:Nat} {t:TypeId}
structure NP where
 m:aC
 p:Option Addr
 c:Nat
def aD:NP:=⟨cz,none,0⟩
def gB (m:aC) (p:Option Addr) (c:Nat):Array Value:=#[.string (str m.path),.string (str m.target),.string (str m.ag),.int .u8 (m.kind.toNat:Int),.int .i64 m.mode,.int .i64 m.uid,.int .i64 m.gid,.int .i64 m.time,.slice p m.body.length c]
def NP.cs (x:NP):Array Value:=gB x.m x.p x.c
theorem NP.lW (x:NP):x.cs.toList=[.string (str x.m.path),.string (str x.m.target),.string (str x.m.ag),.int .u8 (x.m.kind.toNat:Int),.int .i64 x.m.mode,.int .i64 x.m.uid,.int .i64 x.m.gid,.int .i64 x.m.time,.slice x.p x.m.body.length x.c]:=rfl
structure cY (w:World) (x:NP):Prop where
 gC:cK w x.p x.m.body.length x.m.body
 le:x.m.body.length≤x.c
 mx:x.c≤maxLen
theorem cY.kept {x:NP} (h:cY w x) (hk:Kept S w w') (hn:0<x.m.body.length→∀a,x.p=some a→¬S a.block):cY w' x:=⟨h.gC.kept hk hn,h.le,h.mx⟩
theorem cY.below {x:NP} (h:cY w x) (hb:Below w.heap.size w w'):cY w' x:=⟨h.gC.below hb,h.le,h.mx⟩
def eD (xs:List NP):List Value:=xs.flatMap fun x=>x.cs.toList
theorem vm (x:NP) (xs:List NP):eD (x::xs)=x.cs.toList++eD xs:=rfl
theorem qk (xs:List NP):(eD xs).length=9*xs.length:=by
 induction xs with
 |nil=>rfl
 |cons x xs ih=>rw[vm,Qf,ih,NP.lW,List.length_cons];simp only[List.length_cons,List.length_nil];omega
theorem Fh (xs:List NP) (x:NP):eD (xs++[x])=eD xs++x.cs.toList:=by simp[eD]
theorem iw (xs:List NP):∀i,i<xs.length→∀j,j<9→(eD xs)[9*i+j]? =(xs.getD i aD).cs[j]? :=by
 induction xs with
 |nil=>intro i h;simp at h
 |cons x xs ih=>
  intro i h j A;rw[vm];have hl:x.cs.toList.length=9:=rfl
  cases i with
  |zero=>rw[List.getElem?_append_left (by omega),show 9*0+j=j by omega,Array.getElem?_toList];rfl
  |succ i=>
   rw[List.getElem?_append_right (by omega),hl,show 9*(i+1)+j - 9=9*i+j by omega,ih i (by simpa using h) j A];rfl
theorem Kx (xs:List NP):∀u∈eD xs,u.oneCell'=true:=by
 intro u hu;obtain⟨x,_,A⟩:=List.mem_flatMap.1 hu;rw[NP.lW]at A;simp only[List.mem_cons,List.not_mem_nil,or_false]at A;rcases A with rfl|rfl|rfl|rfl|rfl|rfl|rfl|rfl|rfl<;>rfl
def aV (w:World) (p:Option Addr) (n:Nat) (xs:List NP):Prop:=
 xs.length=n∧(∀x∈xs,cY w x)∧(0<n→∃b o,p=some ⟨b,o,none⟩∧b<w.heap.size∧∀i,i<n→∀j,j<9→w.cell? ⟨b,o+9*i+j,none⟩=(xs.getD i aD).cs[j]?)
theorem aV.below {xs:List NP} (h:aV w p n xs) (hb:Below w.heap.size w w'):aV w' p n xs:=by
 refine⟨h.1,fun x E=>(h.2.1 x E).below hb,fun B=>?_⟩;obtain⟨b,o,rfl,A,hc⟩:=h.2.2 B;refine⟨b,o,rfl,Nat.lt_of_lt_of_le A hb.size,fun i hi j D=>?_⟩;rw[hb.cell (p:=⟨b,o+9*i+j,none⟩) A];exact hc i hi j D
theorem rR (w:World) (p:Option Addr):aV w p 0 []:=⟨rfl,fun x A=>by simp at A,fun h=>by omega⟩
theorem Lp {e:TypeId} {xs:List NP} (h:w.ownsRow base e 9 v xs.length (eD xs)) (hx:∀x∈xs,cY w x):∃p c,v=.slice p xs.length c∧xs.length≤c∧c≤maxLen∧aV w p xs.length xs:=by
 rcases h.2 with⟨rfl,A⟩|⟨g,cap,cur,rfl,hb,hg,hn,hc,hs,ht⟩
 ·exact⟨none,0,by rw[A],by omega,by decide,rfl,hx,fun h=>by omega⟩
 ·refine⟨some ⟨g,0,none⟩,cap,rfl,hn,hc,rfl,hx,fun A=>⟨g,0,rfl,(Array.getElem?_eq_some_iff.1 hg).1,fun i hi j B=>?_⟩⟩
  have get:∀j,j<9*xs.length→w.cell? ⟨g,j,none⟩=(eD xs)[j]? :=fun j B=>by
   unfold World.cell?;rw[hg,←ht,List.getElem?_take,if_pos (by omega)];simp
  rw[Nat.zero_add,get _ (by omega)];exact iw xs i hi j B
def eS (w:World) (b o:Nat) (y:NP):Prop:=
 w.cell? ⟨b,o,none⟩=some (.string (str y.m.path))∧w.cell? ⟨b,o+1,none⟩=some (.string (str y.m.target))∧w.cell? ⟨b,o+2,none⟩=some (.string (str y.m.ag))∧w.cell? ⟨b,o+3,none⟩=some (.int .u8 (y.m.kind.toNat:Int))∧w.cell? ⟨b,o+4,none⟩=some (.int .i64 y.m.mode)∧
 w.cell? ⟨b,o+5,none⟩=some (.int .i64 y.m.uid)∧w.cell? ⟨b,o+6,none⟩=some (.int .i64 y.m.gid)∧w.cell? ⟨b,o+7,none⟩=some (.int .i64 y.m.time)∧w.cell? ⟨b,o+8,none⟩=some (.slice y.p y.m.body.length y.c)
theorem eS.below {y:NP} (h:eS w b o y) (hb:b<w.heap.size) (hw:Below w.heap.size w w'):eS w' b o y:=by
 unfold eS at h⊢;simp only[hw.cell (p:=⟨b,_,none⟩) hb];exact h
theorem aV.dF {xs:List NP} (h:aV w p n xs) (hi:i<n):∃b o,p=some ⟨b,o,none⟩∧b<w.heap.size∧cY w (xs.getD i aD)∧eS w b (o+i*9) (xs.getD i aD):=by
 obtain⟨b,o,rfl,B,hc⟩:=h.2.2 (by omega)
 have A:cY w (xs.getD i aD):=h.2.1 _ (by
  have hl:i<xs.length:=by rw[h.1];exact hi
  rw[List.getD,Qd hl]
  exact List.getElem_mem hl)
 rw[Nat.mul_comm i 9];exact⟨b,o,rfl,B,A,hc i hi 0 (by omega),hc i hi 1 (by omega),hc i hi 2 (by omega),hc i hi 3 (by omega),hc i hi 4 (by omega),hc i hi 5 (by omega),hc i hi 6 (by omega),hc i hi 7 (by omega),hc i hi 8 (by omega)⟩
theorem bt {y:NP} (h:au w b 52 y.cs):eS w b 0 y:=by
 refine⟨h.cell 0,h.cell 1,h.cell 2,h.cell 3,h.cell 4,h.cell 5,h.cell 6,h.cell 7,h.cell 8⟩
theorem G3 (xs:List NP) (k:Nat) (h:k<xs.length):(xs.take (k+1)).map NP.m=(xs.take k).map NP.m++[(xs.getD k aD).m]:=by
 rw[List.take_succ_eq_append_getElem h,List.map_append,List.getD,Qd h];rfl
theorem nh (xs:List NP) (k:Nat) (h:k<xs.length):xs.getD k aD∈xs:=by
 rw[List.getD,Qd h];exact List.getElem_mem h
theorem gK (xs:List NP) (k:Nat):(xs.map NP.m).getD k cz=(xs.getD k aD).m:=by
 rw[List.getD,List.getD,List.getElem?_map]
 cases xs[k]? <;>rfl
theorem aV.drop {xs:List NP} (h:aV w p n xs) (hk:k≤n):aV w p k (xs.take k):=by
 refine⟨by rw[Qg,h.1];omega,fun x D=>h.2.1 x (List.mem_of_mem_take D),fun E=>?_⟩;obtain⟨b,o,rfl,A,hc⟩:=h.2.2 (by omega);refine⟨b,o,rfl,A,fun i hi j B=>?_⟩;rw[hc i (by omega) j B]
 congr 2
 simp[List.getD,hi]
theorem Gc (xs ys:List NP) (hl:xs.length=ys.length) (h:∀j,j<xs.length→(xs.getD j aD).m=(ys.getD j aD).m):xs.map NP.m=ys.map NP.m:=by
 apply List.ext_getElem (by simpa using hl);intro i h1 A;simp only[Qi]at h1 A;have:=h i h1;rw[List.getD,List.getD,Qd h1,Qd A]at this
 simpa using this
theorem qJ (xs ys:List NP) (j:Nat) (hj:j<xs.length) (Cs:j<ys.length) (h:(xs.getD j aD).m≠(ys.getD j aD).m):¬xs.map NP.m=ys.map NP.m:=fun he=>h (by
 have:=congrArg (fun l=>l[j]?) he;simp only[List.getElem?_map,Qd hj,Qd Cs,Option.map_some,Option.some.injEq]at this;rw[List.getD,List.getD,Qd hj,Qd Cs]
 simpa using this)
theorem Ao:(Tryz.prog.info? 52).map (fun i=>(i.zero,i.size,i.bytes))=some (some (.agg #[.string ⟨#[]⟩,.string ⟨#[]⟩,.string ⟨#[]⟩,.int .u8 0,.int .i64 0,.int .i64 0,.int .i64 0,.int .i64 0,.slice none 0 0]),9,112):=by kernel_rfl
theorem BR {o:Oper} {Q:Exit→Act→World→Prop} (o9:o.guard=none) (s x:Operand)
 (ho:o.op=.call {callee:=.builtin .append,args:=#[s,x],argTypes:=#[22,22]})
 (base:Nat) (v:Value) (xs:List NP) (hs:a.eval s=v) (aH:w.ownsRow base 52 9 v xs.length (eD xs))
 (b:Nat) (c:Nat) (y:NP) (hx:a.eval x=.slice (some ⟨b,0,none⟩) 1 c) (hb:au w b 52 y.cs) (gA:xs.length≤1000000) (dh:base≤w.heap.size)
 (h:∀v' w',w'.ownsRow base 52 9 v' (xs++[y]).length (eD (xs++[y]))→w.grownBy w' v.ownBlock→dN w v v'→wpList Tryz.prog ops Q rest (a.put o.dst v') w'):wpList Tryz.prog ops Q (o::rest) a w:=by
 obtain⟨i0,hi,E,B,D⟩:=info_parts Ao
 obtain⟨v',w',L,A,G,H⟩:=dU (P:=Tryz.prog) base 22 o.type 52 i0 _ 9 112 Tryz.underlying22 hi E B D rfl (by decide) v xs.length (eD xs) aH ⟨b,0,none⟩ 1 c y.cs.toList rfl (by
  intro j u J;rw[WideShapes.add_plain,Nat.zero_add,hb.cell,←Array.getElem?_toList]
  exact J) (fun u hu=>Kx [y] u (by simpa [eD]using hu)) (by unfold maxLen;omega) (by omega) dh
 refine wpList_plain o9 fun K I=>?_
 unfold Oper.wp;simp[execOp,ho,resolve,invoke,builtin,hs,hx,L,Result.andThen];rw[←Fh,show xs.length+1=(xs++[y]).length by simp]at A;exact I _ _ (h v' w' A G H)
def Rw (W:World) (g:Nat) (zs:List NP):Prop:=au W g 52 (eD zs).toArray
theorem rH {ar:Array Value} {zs:List NP} (hs:ar.size=9*zs.length) (h:∀i,i<zs.length→∀j,j<9→ar[9*i+j]? =(zs.getD i aD).cs[j]?):ar=(eD zs).toArray:=by
 apply Array.ext
 ·rw[hs];simp[qk]
 ·intro i h1 B
  have hi:i / 9<zs.length:=by omega
  have e:9*(i / 9)+i % 9=i:=by omega
  have A:=h (i / 9) hi (i % 9) (by omega);have a2:=iw zs (i / 9) hi (i % 9) (by omega);rw[e]at A a2;have:ar[i]? =(eD zs).toArray[i]? :=by rw[A,←a2,Qc]
  rw[Array.getElem?_eq_getElem h1,Array.getElem?_eq_getElem B]at this;exact Option.some.inj this
theorem Rw.nodes {zs:List NP} (h:Rw W g zs) (hb:∀x∈zs,cY W x):aV W (some ⟨g,0,none⟩) zs.length zs:=
 ⟨rfl,hb,fun _=>⟨g,0,rfl,au.lt h,fun i hi j A=>by rw[Nat.zero_add,au.cell h,Qc,iw zs i hi j A]⟩⟩
theorem Rw.dF {zs:List NP} (h:Rw W g zs) (hk:k<zs.length):eS W g (k*9) (zs.getD k aD):=by
 have key:∀j,j<9→W.cell? ⟨g,k*9+j,none⟩=(zs.getD k aD).cs[j]? :=fun j A=>by
  rw[au.cell h,Qc,Nat.mul_comm,iw zs k hk j A]
 exact⟨key 0 (by omega),key 1 (by omega),key 2 (by omega),key 3 (by omega),key 4 (by omega),key 5 (by omega),key 6 (by omega),key 7 (by omega),key 8 (by omega)⟩
theorem getSet (zs:List NP) (k i:Nat) (y:NP) (hk:k<zs.length):(zs.set k y).getD i aD=if i=k then y else zs.getD i aD:=by
 rw[List.getD,List.getD,List.getElem?_set]
 by_cases h:k=i
 ·subst h
  simp[hk]
 ·rw[if_neg h,if_neg (fun e=>h e.symm)]
theorem yz (zs:List NP):(eD zs).toArray.size=9*zs.length:=by simp[qk]
theorem ct {cs:Array Value} (h:au W b t cs) (i:Nat) (v:Value):au (W.setCell ⟨b,i,none⟩ v) b t (cs.setIfInBounds i v):=by
 obtain⟨hl,he⟩:=Array.getElem?_eq_some_iff.1 h;unfold au World.setCell;refine Array.getElem?_eq_some_iff.2 ⟨by simpa using hl,?_⟩;rw[Array.getElem_modify,if_pos rfl,he];rfl
def xX (A:Array Value) (b:Nat):List Value→Array Value
 |[]=>A
 |v::vs=>xX (A.setIfInBounds b v) (b+1) vs
theorem zo (vs:List Value):∀(A:Array Value) (b:Nat),(xX A b vs).size=A.size:=by
 induction vs with
 |nil=>intro A b;rfl
 |cons v vs ih=>intro A b;rw[xX,ih];simp
theorem DI (vs:List Value):∀(A:Array Value) (b m:Nat),b+vs.length≤A.size→(xX A b vs)[m]? =if b≤m∧m<b+vs.length then vs[m - b]? else A[m]? :=by
 induction vs with
 |nil=>intro A b m _;rw[xX,if_neg (by simp only[List.length_nil];omega)]
 |cons v vs ih=>
  intro A b m h;rw[List.length_cons]at h;rw[xX,ih _ _ _ (by simp;omega),List.length_cons,Array.getElem?_setIfInBounds]
  by_cases h1:b=m
  ·subst h1
   rw[if_neg (by omega),if_pos rfl,if_pos (by omega),if_pos (by omega)];simp
  ·rw[if_neg h1]
   by_cases B:b+1≤m∧m<b+1+vs.length
   ·rw[if_pos B,if_pos (by omega),show m - b=(m - (b+1))+1 by omega,Qb]
   ·rw[if_neg B,if_neg (by omega)]
theorem Rw.set {zs:List NP} (h:Rw W g zs) (hk:k<zs.length) (y:NP):
 Rw (((((((((W.setCell ⟨g,k*9,none⟩ (.string (str y.m.path))).setCell ⟨g,k*9+1,none⟩ (.string (str y.m.target))).setCell ⟨g,k*9+2,none⟩ (.string (str y.m.ag))).setCell ⟨g,k*9+3,none⟩ (.int .u8 (y.m.kind.toNat:Int))).setCell ⟨g,k*9+4,none⟩ (.int .i64 y.m.mode)).setCell ⟨g,k*9+5,none⟩ (.int .i64 y.m.uid)).setCell ⟨g,k*9+6,none⟩ (.int .i64 y.m.gid)).setCell ⟨g,k*9+7,none⟩ (.int .i64 y.m.time)).setCell ⟨g,k*9+8,none⟩ (.slice y.p y.m.body.length y.c)) g (zs.set k y):=by
 have hs:=yz zs;have B:au W g 52 (eD zs).toArray:=h;have E:=(ct (ct (ct (ct (ct (ct (ct (ct (ct B (k*9) (.string (str y.m.path))) (k*9+1) (.string (str y.m.target))) (k*9+2) (.string (str y.m.ag))) (k*9+3) (.int .u8 (y.m.kind.toNat:Int))) (k*9+4) (.int .i64 y.m.mode)) (k*9+5) (.int .i64 y.m.uid)) (k*9+6) (.int .i64 y.m.gid)) (k*9+7) (.int .i64 y.m.time)) (k*9+8) (.slice y.p y.m.body.length y.c))
 have e:xX (eD zs).toArray (k*9) y.cs.toList=(eD (zs.set k y)).toArray:=by
  apply rH
  ·rw[zo,List.length_set];exact hs
  ·intro i hi j D
   rw[List.length_set]at hi;have hl:y.cs.toList.length=9:=rfl;rw[getSet zs k i y hk,DI _ _ _ _ (by rw[hl,hs];omega),hl]
   by_cases A:i=k
   ·subst A
    rw[if_pos rfl,if_pos (by omega),show 9*i+j - i*9=j by omega,Array.getElem?_toList]
   ·rw[if_neg A,if_neg (by omega),Qc,iw zs i hi j D]
 unfold Rw;rw[←e];exact E
theorem DG {cs:Array Value} (hb:au W b t cs) (cX:g≠b) (a0 a1 a2 a3 a4 a5 a6 a7 a8:Value):
 au (((((((((W.setCell ⟨g,k*9,none⟩ a0).setCell ⟨g,k*9+1,none⟩ a1).setCell ⟨g,k*9+2,none⟩ a2).setCell ⟨g,k*9+3,none⟩ a3).setCell ⟨g,k*9+4,none⟩ a4).setCell ⟨g,k*9+5,none⟩ a5).setCell ⟨g,k*9+6,none⟩ a6).setCell ⟨g,k*9+7,none⟩ a7).setCell ⟨g,k*9+8,none⟩ a8) b t cs:=
 (((((((((hb.other cX a0).other cX a1).other cX a2).other cX a3).other cX a4).other cX a5).other cX a6).other cX a7).other cX a8)
theorem Jd (hg:S g) (a0 a1 a2 a3 a4 a5 a6 a7 a8:Value):
 Kept S W (((((((((W.setCell ⟨g,k*9,none⟩ a0).setCell ⟨g,k*9+1,none⟩ a1).setCell ⟨g,k*9+2,none⟩ a2).setCell ⟨g,k*9+3,none⟩ a3).setCell ⟨g,k*9+4,none⟩ a4).setCell ⟨g,k*9+5,none⟩ a5).setCell ⟨g,k*9+6,none⟩ a6).setCell ⟨g,k*9+7,none⟩ a7).setCell ⟨g,k*9+8,none⟩ a8):=
 ((((((((((Kept.refl S W).setCell (a:=⟨g,k*9,none⟩) (.inr hg) a0).setCell (a:=⟨g,k*9+1,none⟩) (.inr hg) a1).setCell (a:=⟨g,k*9+2,none⟩) (.inr hg) a2).setCell (a:=⟨g,k*9+3,none⟩) (.inr hg) a3).setCell (a:=⟨g,k*9+4,none⟩) (.inr hg) a4).setCell (a:=⟨g,k*9+5,none⟩) (.inr hg) a5).setCell (a:=⟨g,k*9+6,none⟩) (.inr hg) a6).setCell (a:=⟨g,k*9+7,none⟩) (.inr hg) a7).setCell (a:=⟨g,k*9+8,none⟩) (.inr hg) a8)
theorem Rw.lead {zs:List NP} (h:Rw W g zs) (hk:k<zs.length) (l:List UInt8):
 Rw (W.setCell ⟨g,k*9+2,none⟩ (.string (str l))) g (zs.set k ⟨{(zs.getD k aD).m with ag:=l},(zs.getD k aD).p,(zs.getD k aD).c⟩):=by
 have hs:=yz zs;have E:au W g 52 (eD zs).toArray:=h;have:=E.set (k*9+2) (.string (str l)) (by omega);unfold Rw;rw[←rH (ar:=_) (zs:=zs.set k ⟨{(zs.getD k aD).m with ag:=l},(zs.getD k aD).p,(zs.getD k aD).c⟩) ?_ ?_]
 ·exact this
 ·simp only[Array.size_set,List.length_set];exact hs
 ·intro i hi j A
  rw[List.length_set]at hi;rw[getSet zs k i _ hk,Array.getElem?_set]
  by_cases D:i=k
  ·subst D
   rw[if_pos rfl]
   by_cases B:j=2
   ·subst B
    rw[if_pos (by omega)];rfl
   ·rw[if_neg (by omega),Qc,iw zs i hi j A]
    match j,A,B with
    |0,_,_=>rfl
    |1,_,_=>rfl
    |3,_,_=>rfl
    |4,_,_=>rfl
    |5,_,_=>rfl
    |6,_,_=>rfl
    |7,_,_=>rfl
    |8,_,_=>rfl
  ·rw[if_neg D,if_neg (by omega),Qc,iw zs i hi j A]
theorem vZ (n:Nat):(madeCells #[.string ⟨#[]⟩,.string ⟨#[]⟩,.string ⟨#[]⟩,.int .u8 0,.int .i64 0,.int .i64 0,.int .i64 0,.int .i64 0,.slice none 0 0] (n*9))=(eD (List.replicate n aD)).toArray:=by
 apply rH
 ·rw[size_madeCells,List.length_replicate];omega
 ·intro i hi j A
  rw[List.length_replicate]at hi
  have e:(List.replicate n aD).getD i aD=aD:=by
   rw[List.getD,List.getElem?_replicate,if_pos hi];rfl
  rw[e];unfold madeCells;rw[Array.getElem?_map,Array.getElem?_range,if_pos (by omega)];simp only[Option.map_some];rw[show(9*i+j) % (#[Value.string ⟨#[]⟩,.string ⟨#[]⟩,.string ⟨#[]⟩,.int .u8 0,.int .i64 0,.int .i64 0,.int .i64 0,.int .i64 0,.slice none 0 0]:Array Value).size=j by show(9*i+j) % 9=j;omega]
  match j,A with
  |0,_=>rfl
  |1,_=>rfl
  |2,_=>rfl
  |3,_=>rfl
  |4,_=>rfl
  |5,_=>rfl
  |6,_=>rfl
  |7,_=>rfl
  |8,_=>rfl
theorem Je (h:w'.ownsRow B 52 9 (.slice (some ⟨g,0,none⟩) n n) n (eD (List.replicate n aD))):Rw w' g (List.replicate n aD):=by
 rcases h.2 with⟨h1,_⟩|⟨g',cap,cur,h1,_,hg,h2,h3,h4,h5⟩
 ·cases h1
 ·cases h1
  unfold Rw au
  have:cur=(eD (List.replicate n aD)).toArray:=by
   apply Array.toList_inj.1;rw[←h5,List.take_of_length_le (by simp;omega)]
  rw[←this];exact hg
def Rm (W:World) (g:Nat) (ys:List MP):Prop:=∃cur,au W g 48 cur∧8*ys.length≤cur.size∧∀i,i<ys.length→∀j,j<8→cur[8*i+j]? =(ys.getD i cn).cs[j]?
theorem Rm.kU (h:Rm W g ys) (hk:k<ys.length):ri W g (k*8) (ys.getD k cn):=by
 obtain⟨cur,A,_,hc⟩:=h
 have key:∀j,j<8→W.cell? ⟨g,k*8+j,none⟩=(ys.getD k cn).cs[j]? :=fun j B=>by
  rw[A.cell,Nat.mul_comm,hc k hk j B]
 exact⟨key 0 (by omega),key 1 (by omega),key 2 (by omega),key 3 (by omega),key 4 (by omega),key 5 (by omega),key 6 (by omega),key 7 (by omega)⟩
theorem RQ (hk:k<ys.length):ys.getD k cn=ys[k]:=by rw[List.getD,Qd hk];rfl
theorem ox (ys:List MP) (k i:Nat) (y:MP) (hk:k<ys.length):(ys.set k y).getD i cn=if i=k then y else ys.getD i cn:=by
 rw[List.getD,List.getD,List.getElem?_set]
 by_cases h:k=i
 ·subst h
  simp[hk]
 ·rw[if_neg h,if_neg (fun e=>h e.symm)]
theorem Rm.ah7 (h:Rm W g ys) (hb:∀y∈ys,dP W y):dD W (some ⟨g,0,none⟩) ys.length ys:=by
 obtain⟨cur,A,_,hc⟩:=h;exact⟨rfl,hb,fun _=>⟨g,0,rfl,A.lt,fun i hi j B=>by rw[Nat.zero_add,A.cell,hc i hi j B]⟩⟩
def SY (W:World) (g o:Nat) (y:MP):World:=(((((((W.setCell ⟨g,o,none⟩ (.string (str y.m.path))).setCell ⟨g,o+1,none⟩ (.string (str y.m.target))).setCell ⟨g,o+2,none⟩ (.int .u8 (y.m.kind.toNat:Int))).setCell ⟨g,o+3,none⟩ (.int .i64 y.m.mode)).setCell ⟨g,o+4,none⟩ (.int .i64 y.m.uid)).setCell ⟨g,o+5,none⟩ (.int .i64 y.m.gid)).setCell ⟨g,o+6,none⟩ (.int .i64 y.m.time)).setCell ⟨g,o+7,none⟩ (.slice y.p y.m.body.length y.c)
theorem Rm.set (h:Rm W g ys) (hk:k<ys.length) (y:MP):Rm (SY W g (k*8) y) g (ys.set k y):=by
 obtain⟨cur,B,hs,hc⟩:=h;have E:=(ct (ct (ct (ct (ct (ct (ct (ct B (k*8) (.string (str y.m.path))) (k*8+1) (.string (str y.m.target))) (k*8+2) (.int .u8 (y.m.kind.toNat:Int))) (k*8+3) (.int .i64 y.m.mode)) (k*8+4) (.int .i64 y.m.uid)) (k*8+5) (.int .i64 y.m.gid)) (k*8+6) (.int .i64 y.m.time)) (k*8+7) (.slice y.p y.m.body.length y.c))
 have e:xX cur (k*8) y.cs.toList=((((((((cur.setIfInBounds (k*8) (.string (str y.m.path))).setIfInBounds (k*8+1) (.string (str y.m.target))).setIfInBounds (k*8+2) (.int .u8 (y.m.kind.toNat:Int))).setIfInBounds (k*8+3) (.int .i64 y.m.mode)).setIfInBounds (k*8+4) (.int .i64 y.m.uid)).setIfInBounds (k*8+5) (.int .i64 y.m.gid)).setIfInBounds (k*8+6) (.int .i64 y.m.time)).setIfInBounds (k*8+7) (.slice y.p y.m.body.length y.c)):=by
  rw[MP.lW];simp only[xX,Nat.add_assoc,Nat.reduceAdd]
 refine⟨xX cur (k*8) y.cs.toList,by unfold SY;rw[e];exact E,by rw[zo,List.length_set];exact hs,fun i hi j D=>?_⟩;rw[List.length_set]at hi;have hl:y.cs.toList.length=8:=rfl;rw[ox ys k i y hk,DI _ _ _ _ (by rw[hl];omega),hl]
 by_cases A:i=k
 ·subst A
  rw[if_pos rfl,if_pos (by omega),show 8*i+j - i*8=j by omega,Array.getElem?_toList]
 ·rw[if_neg A,if_neg (by omega),hc i hi j D]
theorem LQ (hg:S g) (y:MP):Kept S W (SY W g o y):=
 ((((((((Kept.refl S W).setCell (a:=⟨g,o,none⟩) (.inr hg) _).setCell (a:=⟨g,o+1,none⟩) (.inr hg) _).setCell (a:=⟨g,o+2,none⟩) (.inr hg) _).setCell (a:=⟨g,o+3,none⟩) (.inr hg) _).setCell (a:=⟨g,o+4,none⟩) (.inr hg) _).setCell (a:=⟨g,o+5,none⟩) (.inr hg) _).setCell (a:=⟨g,o+6,none⟩) (.inr hg) _).setCell (a:=⟨g,o+7,none⟩) (.inr hg) _
theorem wS {W':World} (h:Rm W g ys) (hb:Below W.heap.size W W'):Rm W' g ys:=by
 obtain⟨cur,h1,A,B⟩:=h;exact⟨cur,h1.below hb h1.lt,A,B⟩
end Tre
namespace p8
open cN Bk Mem Tre Go.Lib
variable {ss:List (List UInt8)}
def dA (ss:List (List UInt8)):List Value:=ss.map fun s=>.string (str s)
theorem yx (a b:List (List UInt8)):dA (a++b)=dA a++dA b:=by simp[dA]
theorem yy (ss:List (List UInt8)) (hi:i<ss.length):(dA ss)[i]? =some (.string (str (ss.getD i []))):=by
 unfold dA;rw[List.getElem?_map,List.getD,Qd hi];rfl
def ji (w:World) (p:Option Addr) (n:Nat) (ss:List (List UInt8)):Prop:=
 ss.length=n∧(0<n→∃b o,p=some ⟨b,o,none⟩∧b<w.heap.size∧∀i,i<n→w.cell? ⟨b,o+i,none⟩=some (.string (str (ss.getD i []))))
theorem ji.below (h:ji w p n ss) (hb:Below w.heap.size w w'):ji w' p n ss:=by
 refine⟨h.1,fun B=>?_⟩;obtain⟨b,o,rfl,A,hc⟩:=h.2 B;refine⟨b,o,rfl,Nat.lt_of_lt_of_le A hb.size,fun i hi=>?_⟩;rw[hb.cell (p:=⟨b,o+i,none⟩) A];exact hc i hi
theorem P7 (w:World) (p:Option Addr):ji w p 0 []:=⟨rfl,fun h=>by omega⟩
theorem xi {e:TypeId} (h:w.ownsRow base e 1 v ss.length (dA ss)):∃p c,v=.slice p ss.length c∧ss.length≤c∧c≤maxLen∧ji w p ss.length ss:=by
 rcases h.2 with⟨rfl,A⟩|⟨g,cap,cur,rfl,hb,hg,hn,hc,hs,ht⟩
 ·exact⟨none,0,by rw[A],by omega,by decide,rfl,fun h=>by omega⟩
 ·refine⟨some ⟨g,0,none⟩,cap,rfl,hn,hc,rfl,fun A=>⟨g,0,rfl,(Array.getElem?_eq_some_iff.1 hg).1,fun i hi=>?_⟩⟩
  unfold World.cell?;rw[hg,Nat.zero_add,←yy ss hi,←ht,List.getElem?_take,if_pos (by omega)];simp
theorem Ap:(Tryz.prog.info? 9).map (fun i=>(i.zero,i.size,i.bytes))=some (some (.string ⟨#[]⟩),1,16):=by kernel_rfl
theorem EJ {Q:Exit→Act→World→Prop} (o9:o.guard=none) (s x:Operand)
 (ho:o.op=.call {callee:=.builtin .append,args:=#[s,x],argTypes:=#[55,55]})
 (base:Nat) (v:Value) (ss:List (List UInt8)) (hs:a.eval s=v) (aH:w.ownsRow base 9 1 v ss.length (dA ss))
 (b:Nat) (c:Nat) (y:List UInt8) (hx:a.eval x=.slice (some ⟨b,0,none⟩) 1 c) (hb:au w b 9 #[.string (str y)]) (gA:ss.length≤1000000) (dh:base≤w.heap.size)
 (h:∀v' w',w'.ownsRow base 9 1 v' (ss++[y]).length (dA (ss++[y]))→w.grownBy w' v.ownBlock→dN w v v'→wpList Tryz.prog ops Q rest (a.put o.dst v') w'):wpList Tryz.prog ops Q (o::rest) a w:=by
 obtain⟨i0,hi,E,B,D⟩:=info_parts Ap
 obtain⟨v',w',L,A,G,H⟩:=dU (P:=Tryz.prog) base 55 o.type 9 i0 _ 1 16 Tryz.underlying55 hi E B D rfl (by decide) v ss.length (dA ss) aH ⟨b,0,none⟩ 1 c [.string (str y)] rfl (by
  intro j u J;rw[WideShapes.add_plain,Nat.zero_add,hb.cell,←Array.getElem?_toList]
  exact J) (fun u hu=>by rw[List.mem_singleton.1 hu];rfl) (by unfold maxLen;omega) (by omega) dh
 refine wpList_plain o9 fun K I=>?_
 unfold Oper.wp;simp[execOp,ho,resolve,invoke,builtin,hs,hx,L,Result.andThen];have e:dA ss++[.string (str y)]=dA (ss++[y]):=by rw[yx];rfl
 rw[e,show ss.length+1=(ss++[y]).length by simp]at A;exact I _ _ (h v' w' A G H)
def Rs (W:World) (g:Nat) (ss:List (List UInt8)):Prop:=∃cur,au W g 9 cur∧ss.length≤cur.size∧∀i,i<ss.length→cur[i]? =some (.string (str (ss.getD i [])))
theorem Rs.at (h:Rs W g ss) (hk:k<ss.length):W.cell? ⟨g,k,none⟩=some (.string (str (ss.getD k [])))∧W.frozen? ⟨g,k,none⟩=false:=by
 obtain⟨cur,A,_,hc⟩:=h;exact⟨by rw[A.cell];exact hc k hk,A.frozen k⟩
theorem Ii (ss:List (List UInt8)) (k i:Nat) (y:List UInt8) (hk:k<ss.length):(ss.set k y).getD i []=if i=k then y else ss.getD i []:=by
 rw[List.getD,List.getD,List.getElem?_set]
 by_cases h:k=i
 ·subst h
  simp[hk]
 ·rw[if_neg h,if_neg (fun e=>h e.symm)]
theorem Rs.set (h:Rs W g ss) (hk:k<ss.length) (y:List UInt8):Rs (W.setCell ⟨g,k,none⟩ (.string (str y))) g (ss.set k y):=by
 obtain⟨cur,B,hs,hc⟩:=h;refine⟨cur.setIfInBounds k (.string (str y)),ct B k _,by rw[List.length_set];simpa using hs,fun i hi=>?_⟩;rw[List.length_set]at hi;rw[Ii ss k i y hk,Array.getElem?_setIfInBounds]
 by_cases A:k=i
 ·subst A
  rw[if_pos rfl,if_pos (by omega),if_pos rfl]
 ·rw[if_neg A,if_neg (fun e=>A e.symm),hc i hi]
theorem Rs.strs (h:Rs W g ss):ji W (some ⟨g,0,none⟩) ss.length ss:=by
 obtain⟨cur,A,_,hc⟩:=h;exact⟨rfl,fun _=>⟨g,0,rfl,A.lt,fun i hi=>by rw[Nat.zero_add,A.cell,hc i hi]⟩⟩
theorem PY (h:Rs W g ss) (m:Nat):Rs (W.drewN m) g ss:=by
 obtain⟨cur,h1,A,B⟩:=h;exact⟨cur,h1.drewN m,A,B⟩
theorem PX {W':World} (h:Rs W g ss) (hb:Below W.heap.size W W'):Rs W' g ss:=by
 obtain⟨cur,h1,A,B⟩:=h;exact⟨cur,h1.below hb h1.lt,A,B⟩
theorem Wy (h:w'.ownsRow B 9 1 v ss.length (dA ss)) (h0:0<ss.length):∃g c,v=.slice (some ⟨g,0,none⟩) ss.length c∧B≤g∧ss.length≤c∧c≤maxLen∧Rs w' g ss:=by
 rcases h.2 with⟨_,h1⟩|⟨g,cap,cur,h1,hb,hg,h2,h3,h4,h5⟩
 ·omega
 ·have A:ss.length≤cur.size:=by omega
  refine⟨g,cap,h1,hb,h2,h3,cur,hg,A,fun i hi=>?_⟩;rw[←yy ss hi,←h5,List.getElem?_take,if_pos (by omega)];simp
end p8
namespace Mem
open Go.Deep cN Bk Hp Head Rec Go.Lib
theorem kU:Tryz.prog.cellsOf 48=8:=by kernel_rfl
theorem Va:Tryz.prog.cellsOf 26=1:=by kernel_rfl
instance:Inhabited MP:=⟨cn⟩
section
variable {H:Type} {enc:TypeId × Value→H} {w:World} {base:Nat} {held:Bool}
end
end Mem
namespace Tre
open Go.Deep cN Bk Hp Head Rec Mem Go.Lib
variable {ps:List MemPlace} {α:Type}
theorem Uh (l:List α) (h:l.length=9):∃a b c d e f g i j,l=[a,b,c,d,e,f,g,i,j]:=by
 match l,h with
 |[a,b,c,d,e,f,g,i,j],_=>exact⟨a,b,c,d,e,f,g,i,j,rfl⟩
theorem Ug (l:List α) (h:l.length=6):∃a b c d e f,l=[a,b,c,d,e,f]:=by
 match l,h with
 |[a,b,c,d,e,f],_=>exact⟨a,b,c,d,e,f,rfl⟩
theorem H6:Tryz.prog.cellsOf 52=9:=by kernel_rfl
instance:Inhabited NP:=⟨aD⟩
def Xj (m:aC):Prop:=(Lit.int .i64 m.mode).wf=true∧(Lit.int .i64 m.uid).wf=true∧(Lit.int .i64 m.gid).wf=true∧(Lit.int .i64 m.time).wf=true
def uI (x:NP):Prop:=x.m.path.length≤140737488351232∧x.m.target.length≤140737488351232∧x.m.ag.length≤140737488351232∧x.c≤140737488351232
section
variable {H:Type} {enc:TypeId × Value→H} {w:World} {base:Nat} {held:Bool}
theorem Gb {cs:List Value} {d:DataW H} {fuel:Nat} (hw:∀z∈d.weights Tryz.prog 52,z≤reachBytes)
 (hf:DataW.trod enc Tryz.prog w base (fun _=>true) held fuel 52 cs=some (d,ps)):
 ∃x:NP,cs=x.cs.toList∧cY w x∧Xj x.m∧uI x:=by
 obtain⟨xs,n,rfl,V,hl,t,A⟩:=DataW.trod_struct Tryz.underlying52 hf;rw[H6]at hl;obtain⟨a,b,a2,c,e,f,g,i,j,rfl⟩:=Uh cs hl;obtain⟨x0,x1,xl,x2,x3,o,rfl⟩:=Ug xs (by simpa using t);have E:=A 0 _ rfl;have h1:=A 1 _ rfl;have U:=A 2 _ rfl;have O:=A 3 _ rfl;have R:=A 4 _ rfl;have T:=A 5 _ rfl;simp only[List.getElem_toArray,List.getElem_cons_zero,List.getElem_cons_succ,U8,U9,Nz,Va,List.drop_zero,List.drop_succ_cons,List.take_succ_cons,List.take_zero,Qa,Qb]at E h1 U O R T;obtain⟨s0,J,rfl,z0⟩:=DataW.trod_string Tryz.underlying9 E;obtain⟨s1,L,rfl,z1⟩:=DataW.trod_string Tryz.underlying9 h1;obtain⟨sq,eq,rfl,zq⟩:=DataW.trod_string Tryz.underlying9 U;obtain⟨k2,M,rfl,z2⟩:=DataW.trod_int Tryz.underlying5 O;obtain⟨ys,n',rfl,hy,KS,p,B⟩:=DataW.trod_struct Tryz.underlying46 R;obtain⟨y0,y1,y2,y3,rfl⟩:=ZT ys (by simpa using p);have g0:=B 0 _ rfl;have g1:=B 1 _ rfl;have g2:=B 2 _ rfl;have g3:=B 3 _ rfl;simp only[List.getElem_toArray,List.getElem_cons_zero,List.getElem_cons_succ,U7,List.drop_zero,List.drop_succ_cons,List.take_succ_cons,List.take_zero,Qa,Qb]at g0 g1 g2 g3;obtain⟨m0,f0,rfl,W⟩:=DataW.trod_int Tryz.underlying3 g0;obtain⟨m1,f1,rfl,X⟩:=DataW.trod_int Tryz.underlying3 g1;obtain⟨m2,f2,rfl,Y⟩:=DataW.trod_int Tryz.underlying3 g2;obtain⟨m3,f3,rfl,Z⟩:=DataW.trod_int Tryz.underlying3 g3;simp only[List.cons.injEq,and_true]at J L eq M f0 f1 f2 f3;subst J L eq M f0 f1 f2 f3;obtain⟨k0,k1⟩:=wf8 z2;simp only[Prod.mk.injEq,List.map_cons,List.map_nil]at V;obtain⟨hd,_⟩:=V
 have D:d.weights Tryz.prog 52=DataW.weightsEach Tryz.prog [9,9,9,5,46,26] [.lit (.string s0.data.toList),.lit (.string s1.data.toList),.lit (.string sq.data.toList),.lit (.int .u8 k2),x3.1,o.1]:=by
  rw[hd];simp only[DataW.weights,Tryz.underlying52];rfl
 have u:=hw s0.data.toList.length (by rw[D];simp[DataW.weightsEach,DataW.weights]);have y:=hw s1.data.toList.length (by rw[D];simp[DataW.weightsEach,DataW.weights]);have wq:=hw sq.data.toList.length (by rw[D];simp[DataW.weightsEach,DataW.weights])
 have w4:∀z∈o.1.weights Tryz.prog 26,z≤reachBytes:=fun z G=>hw z (by
  rw[D];simp only[DataW.weightsEach,List.mem_append]
  exact .inr (.inr (.inr (.inr (.inr (.inl G))))))
 have N:((UInt8.ofNat k2.toNat).toNat:Int)=k2:=by rw[UInt8.toNat_ofNat'];omega
 simp only[reachBytes]at u y wq;rcases open_ints Tryz.underlying26 Tryz.underlying5 Nz T with⟨hcs,_⟩|⟨x,l,cp,zs,hcs,_,VS,Ov,G,hxx,hcell,hwz⟩
 ·simp only[List.cons.injEq,and_true]at hcs
  subst hcs;refine⟨⟨⟨s0.data.toList,s1.data.toList,sq.data.toList,UInt8.ofNat k2.toNat,m0,m1,m2,m3,[]⟩,none,0⟩,?_,⟨fun E=>by simp at E,Qk _,by show(0:Nat)≤maxLen;decide⟩,⟨W,X,Y,Z⟩,by omega,by omega,by omega,by show 0≤_;omega⟩;rw[NP.lW,nV,nV,nV,N];rfl
 ·simp only[List.cons.injEq,and_true]at hcs
  subst hcs;simp only[if_true]at G;have r:IsRow .u8 w (some x) l cp zs:=.inr ⟨_,rfl,VS,Ov,G,fun i hi=>hcell i hi,hwz⟩;obtain⟨q,I,b3,b4⟩:=EO r
  have wc:=w4 (cp*1) (by
   rw[hxx];simp only[DataW.weights,Tryz.underlying26,List.mem_cons,List.mem_append,lits,Qi,Qg,Qe];refine .inl ?_;rw[(by kernel_rfl:Tryz.prog.bytesOf 5=1)]
   congr 1
   omega)
  simp only[reachBytes]at wc;refine⟨⟨⟨s0.data.toList,s1.data.toList,sq.data.toList,UInt8.ofNat k2.toNat,m0,m1,m2,m3,bytesOf (zs.take l)⟩,some x,cp⟩,?_,⟨?_,?_,Ov⟩,⟨W,X,Y,Z⟩,by omega,by omega,by omega,by show cp≤_;omega⟩
  ·rw[NP.lW,nV,nV,nV,N]
   simp only[I]
  ·show cK w (some x) (bytesOf (zs.take l)).length (bytesOf (zs.take l))
   rw[I];exact q
  ·show(bytesOf (zs.take l)).length≤cp
   rw[I];exact VS
theorem nodes_open {a:Option Addr} {len cap:Nat} {d:DataW H} {ts:List TypeId} {ds:List (DataW H)} (hz:(DataW.weightsEach Tryz.prog ts ds).all (·≤reachBytes)=true) {j:Nat} (ht:ts[j]? =some 22) (hd:ds[j]? =some d)
 (h:DataW.Trod enc Tryz.prog w base (fun _=>true) held 22 (.slice a len cap) d ps):
 ∃xs:List NP,aV w a len xs∧len≤cap∧cap≤maxLen∧cap*112≤140737488351232∧∀x∈xs,Xj x.m∧uI x:=by
 obtain⟨fuel,hf⟩:=h;rcases open_slice Tryz.underlying22 hf with⟨hcs,_⟩|⟨x,l,c,m,n,D,Pl,hcs,hb,hl,hm,Ae,E,L⟩
 ·simp[Value.cells]at hcs
  obtain⟨rfl,rfl,rfl⟩:=hcs;exact⟨[],rR w none,by omega,by omega,by omega,fun x L=>by simp at L⟩
 ·simp[Value.cells]at hcs
  obtain⟨rfl,rfl,rfl⟩:=hcs;simp only[if_true]at Ae;subst Ae;simp only[Prod.mk.injEq]at E;obtain⟨E,_⟩:=E;have hw:=List.all_eq_true.1 hz
  have key:∀i,i<len→∃q:NP,w.cells? base (x.add (i*9)) 9=some q.cs.toList∧cY w q∧Xj q.m∧uI q:=fun i hi=>by
   obtain⟨T,h1,V⟩:=L i (by omega);rw[H6]at h1;have Z:D i∈(List.range len).map D:=List.mem_map.2 ⟨i,List.mem_range.2 hi,rfl⟩
   obtain⟨q,rfl,g⟩:=Gb (fun z M=>by
    have X:z∈d.weights Tryz.prog 22:=by
     rw[E];simp only[DataW.weights,Tryz.underlying22,List.mem_cons,List.mem_append];exact .inr (.inl (DR Z M))
    exact of_decide_eq_true (hw _ (DataW.weights_mem_each ht hd _ X))) V
   exact⟨q,h1,g⟩
  obtain⟨q,G⟩:=choose_lt key
  have R:∀i,i<len→((List.range len).map q).getD i aD=q i:=fun i hi=>by
   simp[List.getD,hi]
  have Y:m*112∈d.weights Tryz.prog 22:=by
   rw[E];simp only[DataW.weights,Tryz.underlying22,List.mem_cons,List.mem_append,Qi,List.length_range];refine .inl ?_;rw[(by kernel_rfl:Tryz.prog.bytesOf 52=112)]
   congr 1
   omega
  have N:=of_decide_eq_true (hw _ (DataW.weights_mem_each ht hd _ Y));simp only[reachBytes]at N;refine⟨(List.range len).map q,⟨by simp,fun y hy=>?_,fun U=>?_⟩,hl,hm,N,fun y hy=>?_⟩
  ·obtain⟨i,hi,rfl⟩:=List.mem_map.1 hy
   exact(G i (List.mem_range.1 hi)).2.1
  ·obtain⟨_,_,O⟩:=World.cells?_some (G 0 U).1
   have c0:w.cell? ((x.add (0*9)).add 0)=some (.string (str (q 0).m.path)):=O 0 (by omega)
   have B:x=⟨x.block,x.off,none⟩:=by
    obtain⟨b,o,s⟩:=x
    have hs:s=none:=by
     have:w.cell? (⟨b,o,s⟩:Addr)=some (.string (str (q 0).m.path)):=by simpa [Addr.add]using c0
     exact World.cell?_spot this
    rw[hs]
   refine⟨x.block,x.off,by rw[←B],?_,fun i hi j W=>?_⟩
   ·have A:w.cell? ((x.add (0*9)).add 0)=some (.string (str (q 0).m.path)):=c0
    first|rw[B,Lib.add_plain,Lib.add_plain]at A|rw[B,WideShapes.add_plain,WideShapes.add_plain]at A
    have I:=World.block_lt_of_cell? _ _ A;exact I
   ·obtain⟨_,_,J⟩:=World.cells?_some (G i hi).1
    have:=J j W
    first|rw[B,Lib.add_plain,Lib.add_plain]at this|rw[B,WideShapes.add_plain,WideShapes.add_plain]at this
    rw[R i hi,show x.off+9*i+j=x.off+i*9+j by omega,this,Array.getElem?_toList]
  ·obtain⟨i,hi,rfl⟩:=List.mem_map.1 hy
   exact(G i (List.mem_range.1 hi)).2.2
end
end Tre
namespace Attr
open Go.Shelf cN Rec rr Bk Hp Go.Lib
def qg (c:UInt8) (l:List UInt8):List UInt8 × List UInt8 × Bool:=
 if 0≤Lib.indexByte l c then(l.take (Lib.indexByte l c).toNat,l.drop ((Lib.indexByte l c).toNat+1),true)else(l,[],false)
theorem NB (c:UInt8) (l:List UInt8):(qg c l).1.length≤l.length∧(qg c l).2.1.length≤l.length:=by
 unfold qg;split
 ·simp only[Qg,Qe];omega
 ·simp
theorem GU (c:UInt8) (l:List UInt8) (w:World) (hm:l.length≤140737488351232):
 Calls Tryz.prog 181 #[.string (str l),.string ⟨#[c]⟩] w fun e w'=>e=.returned (.tuple #[.string (str (qg c l).1),.string (str (qg c l).2.1),.bool (qg c l).2.2])∧∃n,w'=w.drewN n:=by
 have A:=Any.stringslite_Index_one Tryz.rO (str l) c w;rw[aU]at A;have hs:(str l).size=l.length:=ak l;have G:(⟨#[c]⟩:ByteArray).size=1:=rfl;unfold qg
 by_cases h:0≤Lib.indexByte l c
 ·obtain⟨k,hk⟩:∃k:Nat,Lib.indexByte l c=k:=⟨(Lib.indexByte l c).toNat,by omega⟩
  have H:=(List.getElem?_eq_some_iff.1 (Lib.indexByte_some hk).1).1;rw[if_pos h,hk,Int.toNat_natCast];rw[hk]at A;clear h hk;simp only;have B:(str l).extract 0 k=str (l.take k):=xh l k;have D:(str l).extract (k+1) (str l).size=str (l.drop (k+1)):=xg l (k+1) _ hs;rw[←B,←D];have c1:(0:Int)≤(k:Int):=by omega
  have c2:(k:Int)≤((str l).size:Int):=by omega
  have c3:(0:Int)≤(k:Int)+1:=by omega
  have c4:(k:Int)+1≤((str l).size:Int):=by omega
  have c5:((str l).size:Int)≤140737488351232:=by omega
  clear B D;have mixed:Tryz.prog.follows .mixedOrders=true:=by kernel_rfl
  go_enter Tryz.func181,Tryz.ntmps181
  go_wp2_with (go_at_call 208;refine A.mono ?_;rintro e w' ⟨rfl,rfl⟩)
  go_region_o
  go_wp2
  go_ret3
  exact⟨rfl,1,rfl⟩
 ·rw[if_neg h]
  have E:Lib.indexByte l c=-1:=by have:=Lib.indexByte_ge l c;omega
  rw[E]at A;clear h E
  go_enter Tryz.func181,Tryz.ntmps181
  go_wp2_with (go_at_call 208;refine A.mono ?_;rintro e w' ⟨rfl,rfl⟩)
  go_ret3
  exact⟨rfl,0,rfl⟩
theorem Kc (c:UInt8) (l:List UInt8) (w:World) (hm:l.length≤140737488351232):
 Calls Tryz.prog 141 #[.string (str l),.string ⟨#[c]⟩] w fun e w'=>e=.returned (.tuple #[.string (str (qg c l).1),.string (str (qg c l).2.1),.bool (qg c l).2.2])∧∃n,w'=w.drewN n:=by
 have hc:=GU c l w hm
 go_enter Tryz.func141,Tryz.ntmps141
 go_wp2_with (go_at_call 181;refine hc.mono ?_;rintro e w' ⟨rfl,n,rfl⟩)
 go_ret3
 exact⟨rfl,n,rfl⟩
theorem j0 (l:List UInt8) (w:World) (hm:l.length≤140737488351232):
 Calls Tryz.prog 183 #[.string (str l)] w fun e w'=>e=.returned (.bool (l.all bL))∧Below w.heap.size w w':=by
 have A:=Any.strings_Trim_laid Tryz.OZ (by kernel_rfl) (str l) ⟨#[48,49,50,51,52,53,54,55,56,57]⟩ w (by rw[ak];omega) (by decide) (ascii_of_all (by decide));rw[aU]at A
 have E:l.all bL=decide (trimS l [48,49,50,51,52,53,54,55,56,57]=[]):=by
  rw[Bool.eq_iff_iff];simp only[decide_eq_true_eq,List.all_eq_true];exact(Qq l).symm
 obtain⟨z,B⟩:∃z,trimS l [48,49,50,51,52,53,54,55,56,57]=z:=⟨_,rfl⟩
 have A:Calls Tryz.prog 210 #[.string (str l),.string ⟨#[48,49,50,51,52,53,54,55,56,57]⟩] w fun e w'=>e=.returned (.string (str z))∧Below w.heap.size w w':=by
  rw[←B];exact A
 rw[E,B,←bk];clear E B
 go_enter Tryz.func183,Tryz.ntmps183
 go_wp2_with fail
 refine A.mono ?_;rintro e H ⟨rfl,D⟩;have G:=Qh D;clear D A;go_wp2;go_ret;exact⟨rfl,G.out⟩
theorem iC (l:List UInt8) (w:World) (hm:l.length≤140737488351232):
 Calls Tryz.prog 146 #[.string (str l)] w fun e w'=>e=.returned (xn (dR l))∧Below w.heap.size w w':=by
 have A:=mh (l.length:Int) 1 18 w;have hs:(str l).size=l.length:=ak l;have E:((str l).size:Int)=(l.length:Int):=by rw[hs]
 by_cases h:1≤l.length∧l.length≤18
 ·rw[gN (by omega) (by omega)]at A
  have hd:=j0 l w hm
  cases B:l.all bL with
  |false=>
   rw[B]at hd;rw[show dR l=none by unfold dR;rw[if_neg (by omega),B];rfl];clear B h hm hs;rw[←E]at A;clear E;have J:=Qh hd;clear hd
   go_enter Tryz.func146,Tryz.ntmps146
   go_wp2_with fail
   refine A.mono ?_;rintro e D ⟨rfl,rfl⟩;clear A;go_wp2_with fail;refine J.out.mono ?_;rintro e D ⟨rfl,G⟩;have I:=Qh G;clear G;go_wp2;go_ret2;exact⟨rfl,I.out⟩
  |true=>
   rw[B]at hd;rw[show dR l=some (iL l) by unfold dR;rw[if_neg (by omega),B];rfl];have H:=fun w=>Any.strconv_Atoi Tryz.OV (str l) (iL l) (by rw[hs];omega) (by rw[aU];exact Nu l (by rintro rfl;simp at h) (by simpa using B)) w
   have mixed:Tryz.prog.follows .mixedOrders=true:=by kernel_rfl
   clear B h hm hs;rw[←E]at A;clear E;have J:=Qh hd;have M:=Qh H;clear hd H;obtain⟨n,L⟩:∃n:Int,(iL l:Int)=n:=⟨_,rfl⟩
   rw[show xn (some (iL l))=.tuple #[.int .i64 n,.bool true] by rw[←L];rfl];rw[L]at M;clear L
   go_enter Tryz.func146,Tryz.ntmps146
   go_wp2_with fail
   refine A.mono ?_;rintro e D ⟨rfl,rfl⟩;clear A;go_wp2_with fail;refine J.out.mono ?_;rintro e D ⟨rfl,G⟩;have I:=Qh G;clear G;go_wp2_with fail;refine(M.out D).mono ?_;rintro e w2 ⟨rfl,t,O⟩;have N:Below D.heap.size D w2:=by rw[O];exact se _ _ _
   have R:=Qh (I.out.trans (N.mono I.out.size));clear O N;go_wp2
   go_quiet_o (fail)
   go_wp2;go_ret2;exact⟨rfl,below_drewN R.out _⟩
 ·rw[jR (by omega)]at A
  rw[show dR l=none by unfold dR;rw[if_pos (by omega)]];clear h hm hs;rw[←E]at A;clear E
  go_enter Tryz.func146,Tryz.ntmps146
  go_wp2_with fail
  refine A.mono ?_;rintro e D ⟨rfl,rfl⟩;go_wp2;go_ret2;exact⟨rfl,Below.refl _ _⟩
def Lk (o:Option Nat):Int:=match o with
 |some n=>n
 |none=>0
theorem oP (o:Option Nat):xn o=.tuple #[.int .i64 (Lk o),.bool o.isSome]:=by cases o<;>rfl
theorem P0 (l:List UInt8):xW l=if(qg 46 l).2.1.all bL then dR (qg 46 l).1 else none:=by
 unfold xW qg
 by_cases h:0≤Lib.indexByte l 46
 ·rw[if_pos h,if_pos h]
 ·rw[if_neg h,if_neg h]
  rfl
theorem DH (l:List UInt8) (w:World) (hm:l.length≤140737488351232):
 Calls Tryz.prog 147 #[.string (str l)] w fun e w'=>e=.returned (xn (xW l))∧Below w.heap.size w w':=by
 have hc:=Kc 46 l w hm;obtain⟨h1,J⟩:=NB 46 l;rw[P0];generalize qg 46 l=C at hc h1 J⊢;obtain⟨a,r,b⟩:=C;simp only at hc h1 J⊢;have hd:=fun w=>j0 r w (by omega)
 have L:=fun w=>iC a w (by omega)
 clear h1 J hm;have E:=Qh hd;have G:=Qh L;clear hd L
 cases H:r.all bL with
 |false=>
  rw[H]at E;clear H
  go_enter Tryz.func147,Tryz.ntmps147
  go_wp2_with fail
  refine hc.mono ?_;rintro e O ⟨rfl,n,rfl⟩;go_wp2_with fail;refine(E.out _).mono ?_;rintro e I ⟨rfl,A⟩;have D:Hid (Below w.heap.size w I):=Qh ((below_drewN (Below.refl _ _) n).trans A);clear A;go_wp2;go_ret2;exact⟨rfl,D.out⟩
 |true=>
  rw[H]at E;clear H;rw[if_pos rfl,oP];simp only[oP]at G;generalize Lk (dR a)=N at G⊢;generalize (dR a).isSome=B at G⊢
  go_enter Tryz.func147,Tryz.ntmps147
  go_wp2_with fail
  refine hc.mono ?_;rintro e O ⟨rfl,n,rfl⟩;go_wp2_with fail;refine(E.out _).mono ?_;rintro e I ⟨rfl,A⟩;have D:Hid (Below w.heap.size w I):=Qh ((below_drewN (Below.refl _ _) n).trans A);clear A;go_wp2_with fail;refine(G.out I).mono ?_;rintro e w3 ⟨rfl,A⟩;have M:Hid (Below w.heap.size w w3):=Qh (D.out.trans (A.mono D.out.size));clear A;go_wp2;go_ret2;exact⟨rfl,M.out⟩
theorem Mq (v:List UInt8) (hv:v≠[]) (b i:Nat) (t:TypeId) (cs:Array Value) (old:Value) (w:World) (h:au w b t cs) (hi:i<cs.size) (ho:cs[i]? =some old):
 Calls Tryz.prog 143 #[.pointer (some ⟨b,i,none⟩),.string (str v)] w fun e w'=>e=.returned (.tuple #[])∧w'=w.setCell ⟨b,i,none⟩ (.string (str v)):=by
 have c0:=h.cell i;rw[ho]at c0;have f0:=h.frozen i;have A:(str v).toList.isEmpty=false:=by rw[bk];simpa using hv
 clear h hi ho hv
 go_enter Tryz.func143,Tryz.ntmps143
 go_wp2
 go_end0
 exact⟨rfl,rfl⟩
theorem P9 (a:Option Addr) (w:World):
 Calls Tryz.prog 143 #[.pointer a,.string ⟨#[]⟩] w fun e w'=>e=.returned (.tuple #[])∧w=w':=by
 go_enter Tryz.func143,Tryz.ntmps143
 go_wp2
 go_end0
 exact⟨rfl,rfl⟩
theorem cB (v:List UInt8) (b i:Nat) (t:TypeId) (cs:Array Value) (old:List UInt8) (w:World) (h:au w b t cs) (hi:i<cs.size) (ho:cs[i]? =some (.string (str old))):
 Calls Tryz.prog 143 #[.pointer (some ⟨b,i,none⟩),.string (str v)] w fun e w'=>e=.returned (.tuple #[])∧au w' b t (cs.set i (.string (str (aJ v old))) hi)∧Kept (ay b) w w':=by
 by_cases A:v=[]
 ·subst A
  refine(P9 _ w).mono ?_;rintro e w' ⟨rfl,rfl⟩;refine⟨rfl,?_,Kept.refl _ _⟩
  have e:cs.set i (.string (str (aJ [] old))) hi=cs:=by
   apply Array.ext (by simp);intro j h1 D;rw[Array.getElem_set];split
   ·rename_i B
    subst B;rw[Array.getElem?_eq_getElem hi]at ho;exact(Option.some.inj ho).symm
   ·rfl
  rw[e];exact h
 ·refine(Mq v A b i t cs _ w h hi ho).mono ?_
  rintro e w' ⟨rfl,rfl⟩;refine⟨rfl,?_,(Kept.refl (ay b) _).setCell (a:=⟨b,i,none⟩) (.inr rfl) _⟩;rw[show aJ v old=v from if_neg A];exact h.set i _ hi
def Dr (time:Bool):Value:=.func (.func (if time then 147 else 146)) #[] #[]
theorem Lr (time:Bool) (a:Option Addr) (w:World):
 Calls Tryz.prog 145 #[.pointer a,.string ⟨#[]⟩,Dr time] w fun e w'=>e=.returned (.bool true)∧w=w':=by
 go_enter Tryz.func145,Tryz.ntmps145
 go_wp2;go_ret;exact⟨rfl,rfl⟩
def wN (time:Bool) (l:List UInt8):Option Nat:=if time then xW l else dR l
theorem Pr (time:Bool) (v:List UInt8) (hv:v≠[]) (hm:v.length≤140737488351232) (b i:Nat) (t:TypeId) (cs:Array Value) (old:Value) (w:World) (hb:au w b t cs) (hi:i<cs.size) (ho:cs[i]? =some old) (hold:∃k,old=.int .i64 k):
 Calls Tryz.prog 145 #[.pointer (some ⟨b,i,none⟩),.string (str v),Dr time] w fun e w'=>e=.returned (.bool (wN time v).isSome)∧au w' b t (cs.set i (.int .i64 (Lk (wN time v))) hi)∧Kept (ay b) w w':=by
 obtain⟨k,rfl⟩:=hold;have L:(str v).toList.isEmpty=false:=by rw[bk];simpa using hv
 have hs:=fun w=>DH v w hm
 have E:=fun w=>iC v w hm
 have G:=Qh hb;have I:=Qh ho;clear hb ho hv hm
 cases time with
 |false=>
  rw[show Dr false=.func (.func 146) #[] #[]from rfl,show wN false v=dR v from rfl];simp only[oP]at E;generalize Lk (dR v)=N at E⊢;generalize (dR v).isSome=B at E⊢;have H:=Qh E;clear E hs
  go_enter Tryz.func145,Tryz.ntmps145
  go_wp2_with fail
  refine(H.out w).mono ?_;rintro e J ⟨rfl,D⟩;have A:=G.out.below D G.out.lt;have c0:=A.cell i;rw[I.out]at c0;have f0:=A.frozen i;have H1:=Qh (And.intro A D);clear A D;go_wp2;go_ret;exact⟨rfl,H1.out.1.set i _ hi,(Kept.aO H1.out.2 (ay b)).setCell (a:=⟨b,i,none⟩) (.inr rfl) _⟩
 |true=>
  rw[show Dr true=.func (.func 147) #[] #[]from rfl,show wN true v=xW v from rfl];simp only[oP]at hs;generalize Lk (xW v)=N at hs⊢;generalize (xW v).isSome=B at hs⊢;have H:=Qh hs;clear E hs
  go_enter Tryz.func145,Tryz.ntmps145
  go_wp2_with fail
  refine(H.out w).mono ?_;rintro e J ⟨rfl,D⟩;have A:=G.out.below D G.out.lt;have c0:=A.cell i;rw[I.out]at c0;have f0:=A.frozen i;have H1:=Qh (And.intro A D);clear A D;go_wp2;go_ret;exact⟨rfl,H1.out.1.set i _ hi,(Kept.aO H1.out.2 (ay b)).setCell (a:=⟨b,i,none⟩) (.inr rfl) _⟩
theorem aY (time:Bool) (v:List UInt8) (hm:v.length≤140737488351232) (b i:Nat) (t:TypeId) (cs:Array Value) (old:Int) (w:World) (hb:au w b t cs) (hi:i<cs.size) (ho:cs[i]? =some (.int .i64 old)):
 Calls Tryz.prog 145 #[.pointer (some ⟨b,i,none⟩),.string (str v),Dr time] w fun e w'=>e=.returned (.bool (fh time v old).isSome)∧au w' b t (cs.set i (.int .i64 ((fh time v old).getD 0)) hi)∧Kept (ay b) w w':=by
 by_cases A:v=[]
 ·subst A
  refine(Lr time _ w).mono ?_;rintro e w' ⟨rfl,rfl⟩;refine⟨rfl,?_,Kept.refl _ _⟩
  have e:cs.set i (.int .i64 ((fh time [] old).getD 0)) hi=cs:=by
   apply Array.ext (by simp);intro j h1 D;rw[Array.getElem_set];split
   ·rename_i G
    subst G;rw[Array.getElem?_eq_getElem hi]at ho;exact(Option.some.inj ho).symm
   ·rfl
  rw[e];exact hb
 ·refine(Pr time v A hm b i t cs _ w hb hi ho ⟨_,rfl⟩).mono ?_
  rintro e w' ⟨rfl,h1,D⟩;have B:fh time v old=Option.map Int.ofNat (wN time v):=if_neg A;have E:(fh time v old).getD 0=Lk (wN time v):=by rw[B];cases wN time v<;>rfl
  rw[E,B,Option.isSome_map];exact⟨rfl,h1,D⟩
end Attr
namespace p8
open cN Bk Rec Block Mem Tre Go.Lib
def eY (xs:List NP):List (List UInt8):=xs.map fun x=>x.m.path
theorem Dg (xs:List NP) (k:Nat) (h:k<xs.length):eY (xs.take (k+1))=eY (xs.take k)++[(xs.getD k aD).m.path]:=by
 unfold eY;rw[List.take_succ_eq_append_getElem h,List.map_append,List.getD,Qd h];rfl
def Hu (w:World) (n:Nat) (P:List (List UInt8)→Prop) (e:Ending) (w':World):Prop:=
 ∃q d ss,e=.returned (.slice q n d)∧P ss∧ss.length=n∧n≤d∧d≤maxLen∧ji w' q n ss∧(0<n→∃g,q=some ⟨g,0,none⟩∧w.heap.size≤g∧Rs w' g ss)∧Below w.heap.size w w'
theorem GN (p:Option Addr) (n c:Nat) (xs:List NP) (w:World) (h:aV w p n xs) (hn:n≤100000):
 Calls Tryz.prog 29 #[.slice p n c] w (Hu w n fun ss=>ss=eY xs):=by
 have Y:=Qh h;have I:=Qh h.1;clear h
 go_enter Tryz.func29,Tryz.ntmps29
 go_wp2_with fail
 go_loopw [3,4] (fun o i wr=>∃(k:Nat) (vo:Value),k≤n∧vo=o∧i=.int .i64 (k:Int)∧Hid (wr.ownsRow w.heap.size 9 1 vo k (dA (eY (xs.take k))))∧Hid (Below w.heap.size w wr)) (fun _ i _=>n - (RowKit.intOf i).toNat)
 case atStart=>exact⟨0,_,Nat.zero_le _,rfl,rfl,Qh (World.ownsRow_nil _ _ _ _),Qh (Below.refl _ _)⟩
 case round=>
  obtain⟨k,o,hk,rfl,rfl,E,A⟩:=hrel
  by_cases R:k<n
  ·have U:k<xs.length:=by rw[I.out];exact R
   obtain⟨b,o',rfl,t,y,hc⟩:=(Y.out.below A.out).dF R;have L:=Dg xs k U;obtain⟨v,W⟩:∃v,xs.getD k aD=v:=⟨_,rfl⟩
   rw[W]at hc L;have Z:=Qh L;have hlen:(eY (xs.take k)).length=k:=by unfold eY;rw[Qi,Qg];omega
   have J:=Qh hlen;obtain⟨c0,c1,c2,c3,c4,c5,c6,c7,l⟩:=hc;have j5:(k:Int)<(n:Int):=by omega
   clear W L U y t hlen c1 c2 c3 c4 c5 c6 c7 l
   go_wp2_with (at_builtin;refine EJ rfl _ _ rfl w.heap.size o (eY (xs.take k)) rfl (by rw[J.out];exact cA E.out ((Below.refl _ _).alloc (Qk _) _)) wr.heap.size 1 v.m.path rfl (au.new wr _ _) (by have:=J.out;omega) (by have:=A.out.size;first|omega|(simp;omega)) ?_)
   intro v4 X T G f;have O:(eY (xs.take k)++[v.m.path]).length=k+1:=by rw[Qf,J.out];rfl
   have xq:Hid (X.ownsRow w.heap.size 9 1 v4 (k+1) (dA (eY (xs.take (k+1))))):=Qh (by
    rw[Z.out,←O];have V:=T;rw[show(eY (xs.take k)).length+1=(eY (xs.take k)++[v.m.path]).length by simp]at V
    exact V)
   have z:Hid (Below w.heap.size w X):=Qh (by
    have N:Below w.heap.size w (wr.alloc (.cells #[.string (str v.m.path)] 9)):=A.out.alloc A.out.size _
    exact N.trans (((Kept.refl (fun b=>o.ownBlock=some b) _).grown G (fun k hk=>.inr hk)).below N.size (fun k hk=>(World.ownsRow.lt E.out _ hk).1)))
   clear T G f O c0;go_wp2;go_roundw
   case rel=>exact⟨k+1,_,by omega,rfl,by go_num,xq,z⟩
   case measure=>simp[RowKit.intOf];omega
  ·obtain rfl:k=n:=by omega
   have lP:¬((k:Int)<(k:Int)):=by omega
   have e:xs.take k=xs:=List.take_of_length_le (by rw[I.out];exact Qk _);have B:=E.out;rw[e]at B;have hlen:(eY xs).length=k:=by unfold eY;rw[Qi];exact I.out
   rw[←hlen]at B;obtain⟨q,d,rfl,H,M,hs⟩:=xi B
   have D:Hid (k≤d∧d≤maxLen∧ji wr q k (eY xs)∧(0<k→∃g,q=some ⟨g,0,none⟩∧w.heap.size≤g∧Rs wr g (eY xs))):=Qh (by
    rw[hlen]at H hs;refine⟨H,M,hs,fun r=>?_⟩;obtain⟨g,c2,he,G,_,_,u⟩:=Wy B (by rw[hlen];exact r)
    cases he
    exact⟨g,rfl,G,u⟩)
   have pZ:=Qh hlen;rw[hlen];clear B hlen H M hs e E;go_wp2;go_ret;exact⟨q,d,eY xs,rfl,rfl,pZ.out,D.out.1,D.out.2.1,D.out.2.2.1,D.out.2.2.2,A.out⟩
structure xz (w wr:World) (ps:List (List UInt8)) (q:Option Addr) (n:Nat) (ss:List (List UInt8)):Prop where
 bel:Below w.heap.size w wr
 row:0<n→∃g,q=some ⟨g,0,none⟩∧w.heap.size≤g∧Rs wr g ss
 perm:ss.Perm ps
 len:ps.length=n
section
variable {w wr w':World} {ps ss:List (List UInt8)} {q:Option Addr} {n:Nat}
theorem xz.aa4 (h:xz w wr ps q n ss):ss.length=n:=by rw[h.perm.length_eq,h.len]
theorem xz.drewN (h:xz w wr ps q n ss) (m:Nat):xz w (wr.drewN m) ps q n ss where
 bel:=below_drewN h.bel m
 row:=fun A=>by
  obtain⟨g,h1,B,D⟩:=h.row A;exact⟨g,h1,B,PY D m⟩
 perm:=h.perm
 len:=h.len
theorem xz.drew (h:xz w wr ps q n ss):xz w wr.drew ps q n ss:=h.drewN 1
theorem xz.strs (h:xz w wr ps q n ss):ji wr q n ss:=by
 rcases Nat.eq_zero_or_pos n with h0|h0
 ·have D:ss=[]:=List.eq_nil_of_length_eq_zero (by rw[h.aa4,h0])
  rw[h0,D];exact P7 _ _
 ·obtain⟨g,A,_,B⟩:=h.row h0
  have:=B.strs;rw[h.aa4]at this;rw[A];exact this
end
end p8
namespace p8
open cN Bk Rec Block Mem Go.Proofs.YtdhibldkldlfpaaGreatDoor.Mp Tre Go.Lib
variable {w1:World}
theorem Hb {P:Program} {ops':Array Oper} {Q:Exit→Act→World→Prop} {a:Act} {w:World} (h:ops=ops') (hw:wpAny P .any ops' Q ops'.size (Array.replicate ops'.size false) a w):wpAny P .any ops Q ops.size (Array.replicate ops.size false) a w:=h▸hw
theorem Hz (w:World) (x:ByteArray):(Instr.buildSlice 55 1 #[(0,.string x)]).run Tryz.prog w=.ok (.slice (some ⟨w.heap.size,0,none⟩) 1 1) (w.alloc (.cells #[.string x] 9)):=by kernel_rfl
section
variable {w:World} {o:Oper} {a:Act} {K:Act→World→Prop} {Q:Exit→Act→World→Prop}
theorem Jj (x y:Operand) (ho:o.op=.call {callee:=.builtin .append,args:=#[x,y],argTypes:=#[55,55]})
 (base:Nat) (v:Value) (ss:List (List UInt8)) (hs:a.eval x=v) (aH:w.ownsRow base 9 1 v ss.length (dA ss))
 (b c:Nat) (z:List UInt8) (hx:a.eval y=.slice (some ⟨b,0,none⟩) 1 c) (hb:au w b 9 #[.string (str z)]) (gA:ss.length≤1000000) (dh:base≤w.heap.size)
 (h:∀v' w',w'.ownsRow base 9 1 v' (ss++[z]).length (dA (ss++[z]))→w.grownBy w' v.ownBlock→dN w v v'→K (a.put o.dst v') w'):Oper.wp Tryz.prog o a w K Q:=by
 obtain⟨i0,hi,E,B,D⟩:=info_parts Ap
 obtain⟨v',w',J,A,G,H⟩:=dU (P:=Tryz.prog) base 55 o.type 9 i0 _ 1 16 Tryz.underlying55 hi E B D rfl (by decide) v ss.length (dA ss) aH ⟨b,0,none⟩ 1 c [.string (str z)] rfl (by
  intro j u I;rw[WideShapes.add_plain,Nat.zero_add,hb.cell,←Array.getElem?_toList]
  exact I) (fun u hu=>by rw[List.mem_singleton.1 hu];rfl) (by unfold maxLen;omega) (by omega) dh
 have L:(execOp a.eval o).run Tryz.prog w=.ok (.value v') w':=by simp[execOp,ho,resolve,invoke,builtin,hs,hx,J,Result.andThen]
 have e:dA ss++[.string (str z)]=dA (ss++[z]):=by rw[yx];rfl
 rw[e,show ss.length+1=(ss++[z]).length by simp]at A;unfold Oper.wp;rw[L,Oper.upon_value];exact h v' w' A G H
end
noncomputable def cC:Array Oper:=lK Tryz.f28 14
structure Q3 where
 va:Value
 vb:Value
 bc:Nat
 bd:Nat
def mR (gx:Nat) (v6 v7:Value) (ld pt:List UInt8) (γ:Q3):Nat→Value
 |0=>v6|1=>.pointer (some ⟨gx,2,none⟩)|2=>.string (str ld)|3=>.slice (some ⟨γ.bc,0,none⟩) 1 1|4=>γ.va|5=>v7|6=>.pointer (some ⟨gx,0,none⟩)|7=>.string (str pt)|8=>.slice (some ⟨γ.bd,0,none⟩) 1 1|9=>γ.vb|10=>γ.va|11=>γ.vb|_=>undef
theorem vY:cC.size=12:=rfl
theorem oG:kS cC 83=true:=by kernel_rfl
theorem O6:aR cC 0=some 68:=rfl
theorem Sx:∃o,cC[0]? =some o∧o.op=.move (.tmp 6)∧o.dst=some 68:=⟨_,rfl,rfl,rfl⟩
theorem O7:aR cC 1=some 69:=rfl
theorem Sy:∃o,cC[1]? =some o∧o.op=.fieldAddr 52 (.tmp 9) 2∧o.dst=some 69:=⟨_,rfl,rfl,rfl⟩
theorem O8:aR cC 2=some 70:=rfl
theorem Sz:∃o,cC[2]? =some o∧o.op=.load 9 (.tmp 69)∧o.dst=some 70:=⟨_,rfl,rfl,rfl⟩
theorem O9:aR cC 3=some 71:=rfl
theorem SA:∃o,cC[3]? =some o∧o.op=.buildSlice 55 1 #[(0,.tmp 70)]∧o.dst=some 71:=⟨_,rfl,rfl,rfl⟩
theorem Pa:aR cC 4=some 72:=rfl
theorem SB:∃o,cC[4]? =some o∧o.op=.call {callee:=.builtin .append,args:=#[.tmp 68,.tmp 71],argTypes:=#[55,55]}∧o.dst=some 72:=⟨_,rfl,rfl,rfl⟩
theorem Pb:aR cC 5=some 73:=rfl
theorem SC:∃o,cC[5]? =some o∧o.op=.move (.tmp 7)∧o.dst=some 73:=⟨_,rfl,rfl,rfl⟩
theorem Pc:aR cC 6=some 74:=rfl
theorem SD:∃o,cC[6]? =some o∧o.op=.fieldAddr 52 (.tmp 9) 0∧o.dst=some 74:=⟨_,rfl,rfl,rfl⟩
theorem Pd:aR cC 7=some 75:=rfl
theorem SE:∃o,cC[7]? =some o∧o.op=.load 9 (.tmp 74)∧o.dst=some 75:=⟨_,rfl,rfl,rfl⟩
theorem Pe:aR cC 8=some 76:=rfl
theorem SF:∃o,cC[8]? =some o∧o.op=.buildSlice 55 1 #[(0,.tmp 75)]∧o.dst=some 76:=⟨_,rfl,rfl,rfl⟩
theorem Pf:aR cC 9=some 77:=rfl
theorem SG:∃o,cC[9]? =some o∧o.op=.call {callee:=.builtin .append,args:=#[.tmp 73,.tmp 76],argTypes:=#[55,55]}∧o.dst=some 77:=⟨_,rfl,rfl,rfl⟩
theorem Ld:aR cC 10=some 6:=rfl
theorem CQ:∃o,cC[10]? =some o∧o.op=.assign (.tmp 72)∧o.dst=some 6:=⟨_,rfl,rfl,rfl⟩
theorem Le:aR cC 11=some 7:=rfl
theorem CR:∃o,cC[11]? =some o∧o.op=.assign (.tmp 77)∧o.dst=some 7:=⟨_,rfl,rfl,rfl⟩
theorem Su (gx:Nat) (v6 v7:Value) (ld pt:List UInt8) (γ:Q3) (z:Value) (h:i≠4∧i≠10):mR gx v6 v7 ld pt {γ with va:=z} i=mR gx v6 v7 ld pt γ i:=by
 unfold mR;split<;>first|rfl|(exfalso;omega)
theorem Sw (gx:Nat) (v6 v7:Value) (ld pt:List UInt8) (γ:Q3) (z:Value) (h:i≠9∧i≠11):mR gx v6 v7 ld pt {γ with vb:=z} i=mR gx v6 v7 ld pt γ i:=by
 unfold mR;split<;>first|rfl|(exfalso;omega)
theorem Sr (gx:Nat) (v6 v7:Value) (ld pt:List UInt8) (γ:Q3) (z:Nat) (h:i≠3):mR gx v6 v7 ld pt {γ with bc:=z} i=mR gx v6 v7 ld pt γ i:=by
 unfold mR;split<;>first|rfl|(exfalso;omega)
theorem Ss (gx:Nat) (v6 v7:Value) (ld pt:List UInt8) (γ:Q3) (z:Nat) (h:i≠8):mR gx v6 v7 ld pt {γ with bd:=z} i=mR gx v6 v7 ld pt γ i:=by
 unfold mR;split<;>first|rfl|(exfalso;omega)
def RL (L:Bool) (v v':Value):Value:=if L=true then v' else v
def RJ (L:Bool) (ss:List (List UInt8)) (z:List UInt8):List (List UInt8):=if L=true then ss++[z]else ss
def Qr (u v:Value) (k:Nat):Prop:=u.ownBlock=some k∨v.ownBlock=some k
structure zH (w1:World) (B:Nat) (v6 v7:Value) (lh fst:List (List UInt8)) (ld pt:List UInt8) (γ:Q3) (L3 L4 L8 L9:Bool) (w:World):Prop where
 kp:Kept (Qr v6 v7) w1 w
 ra:w.ownsRow B 9 1 (RL L4 v6 γ.va) (RJ L4 lh ld).length (dA (RJ L4 lh ld))
 rb:w.ownsRow B 9 1 (RL L9 v7 γ.vb) (RJ L9 fst pt).length (dA (RJ L9 fst pt))
 sep:∀k,(RL L4 v6 γ.va).ownBlock=some k→(RL L9 v7 γ.vb).ownBlock≠some k
 lc:L3=true→L4=false→au w γ.bc 9 #[.string (str ld)]∧w1.heap.size≤γ.bc
 lo:L8=true→L9=false→au w γ.bd 9 #[.string (str pt)]∧w1.heap.size≤γ.bd
 c4:L4=true→L3=true
 c9:L9=true→L8=true
theorem uQ {w:World} {t:TypeId} {cs:Array Value} {row:Option Nat} (hb:au w b t cs) (hg:w.grownBy w' row) (cX:row≠some b):au w' b t cs:=
 (hg.block b hb.lt (fun e=>cX e.symm)).trans hb
theorem zH.grow {w:World} {v6 v7:Value} {lh fst:List (List UInt8)} {ld pt:List UInt8} {γ:Q3} {L3 L4 L8 L9:Bool} (h:zH w1 B v6 v7 lh fst ld pt γ L3 L4 L8 L9 w) (hb:Below w.heap.size w w'):zH w1 B v6 v7 lh fst ld pt γ L3 L4 L8 L9 w' where
 kp:=h.kp.trans (Kept.aO hb _)
 ra:=cA h.ra hb
 rb:=cA h.rb hb
 sep:=h.sep
 lc:=fun h1 A=>⟨(h.lc h1 A).1.below hb (h.lc h1 A).1.lt,(h.lc h1 A).2⟩
 lo:=fun h1 A=>⟨(h.lo h1 A).1.below hb (h.lo h1 A).1.lt,(h.lo h1 A).2⟩
 c4:=h.c4
 c9:=h.c9
theorem F0 {Q':Exit→Act→World→Prop} {a0:Act} (B gx:Nat) (v6 v7:Value) (lh fst:List (List UInt8)) (ld pt:List UInt8) (cs:Array Value)
 (hsz:83≤a0.tmps.size) (h6:a0.eval (.tmp 6)=v6) (h7:a0.eval (.tmp 7)=v7) (h9:a0.eval (.tmp 9)=.pointer (some ⟨gx,0,none⟩)) (N9:au w1 gx 52 cs) (ju:cs[2]? =some (.string (str ld))) (Oa:cs[0]? =some (.string (str pt)))
 (Bl:w1.ownsRow B 9 1 v6 lh.length (dA lh)) (tP:w1.ownsRow B 9 1 v7 fst.length (dA fst)) (ag9:∀k,v6.ownBlock=some k→v7.ownBlock≠some k) (XB:lh.length≤1000) (TZ:fst.length≤1000) (hB:B≤w1.heap.size)
 (hQ:∀(γ:Q3) w',Kept (Qr v6 v7) w1 w'→w'.ownsRow B 9 1 γ.va (lh++[ld]).length (dA (lh++[ld]))→w'.ownsRow B 9 1 γ.vb (fst++[pt]).length (dA (fst++[pt]))→(∀k,γ.va.ownBlock=some k→γ.vb.ownBlock≠some k)→Q' .normal ((((((((((((a0.put (some 68) (v6)).put (some 69) (.pointer (some ⟨gx,2,none⟩))).put (some 70) (.string (str ld))).put (some 71) (.slice (some ⟨γ.bc,0,none⟩) 1 1)).put (some 72) (γ.va)).put (some 73) (v7)).put (some 74) (.pointer (some ⟨gx,0,none⟩))).put (some 75) (.string (str pt))).put (some 76) (.slice (some ⟨γ.bd,0,none⟩) 1 1)).put (some 77) (γ.vb)).put (some 6) (γ.va)).put (some 7) (γ.vb)) w'):
 wpAny Tryz.prog .any cC Q' cC.size (Array.replicate cC.size false) a0 w1.drew:=by
 have no:∀j,(Array.replicate cC.size false).getD j false=false:=fun j=>by
  rw[Array.getD_eq_getD_getElem?,Array.getElem?_replicate];split<;>rfl
 have hgx:¬Qr v6 v7 gx:=fun h=>by
  have key:∀{v:Value} {n:Nat} {xs:List Value},w1.ownsRow B 9 1 v n xs→v.ownBlock≠some gx:=fun {v n xs} N e=>by
   rcases N.2 with⟨rfl,_⟩|⟨g,cap,cur,rfl,_,hg,_⟩
   ·cases e
   ·have FA:g=gx:=by simpa [Value.ownBlock]using e
    subst FA;have hb:=N9;unfold au at hb;rw[hg]at hb;simp only[Option.some.injEq,Obj.cells.injEq]at hb;exact absurd hb.2.1 (by decide)
  rcases h with h|h
  ·exact key Bl h
  ·exact key tP h
 refine jg (Γ:=Q3) (mR gx v6 v7 ld pt) {va:=undef,vb:=undef,bc:=0,bd:=0} a0 (fun γ listed w=>zH w1 B v6 v7 lh fst ld pt γ (listed.getD 3 false) (listed.getD 4 false) (listed.getD 8 false) (listed.getD 9 false) w∧(listed.getD 10 false=true→listed.getD 4 false=true)∧(listed.getD 11 false=true→listed.getD 9 false=true)∧(listed.getD 4 false=true→listed.getD 0 false=true)∧(listed.getD 9 false=true→listed.getD 5 false=true)) 83 oG hsz ?_ ?_ ?_
 ·intro γ listed a w j o h N ig R
  have A:=bp ig;have D:=h.wd.1;have hA:=h.wd.2.1;have hD:=h.wd.2.2.1
  have hj:j<12:=by
   have:=(Array.getElem?_eq_some_iff.1 N).1
   rwa [vY]at this
  have same:∀{j':Nat} {O:Oper},cC[j']? =some O→j=j'→O=o:=fun {j' O} h' e=>by subst e;exact Option.some.inj (h'.symm.trans N)
  have l:=dS ig;have cX:∀i,listed.getD i false=true→i≠j:=fun i hi e=>by rw[e,l]at hi;cases hi
  have X:(j=10→listed.getD 4 false=true)→((listed.setIfInBounds j true).getD 10 false=true→(listed.setIfInBounds j true).getD 4 false=true):=by
   intro r hl;rw[aa A]at hl⊢
   by_cases T:4=j
   ·rw[if_pos T]
   ·rw[if_neg T]
    by_cases V:10=j
    ·exact r V.symm
    ·rw[if_neg V]at hl
     exact hA hl
  have Y:(j=11→listed.getD 9 false=true)→((listed.setIfInBounds j true).getD 11 false=true→(listed.setIfInBounds j true).getD 9 false=true):=by
   intro r hl;rw[aa A]at hl⊢
   by_cases T:9=j
   ·rw[if_pos T]
   ·rw[if_neg T]
    by_cases V:11=j
    ·exact r V.symm
    ·rw[if_neg V]at hl
     exact hD hl
  have Z:(j=4→listed.getD 0 false=true)→((listed.setIfInBounds j true).getD 4 false=true→(listed.setIfInBounds j true).getD 0 false=true):=by
   intro r hl;rw[aa A]at hl⊢
   by_cases T:0=j
   ·rw[if_pos T]
   ·rw[if_neg T]
    by_cases V:4=j
    ·exact r V.symm
    ·rw[if_neg V]at hl
     exact h.wd.2.2.2.1 hl
  have c:(j=9→listed.getD 5 false=true)→((listed.setIfInBounds j true).getD 9 false=true→(listed.setIfInBounds j true).getD 5 false=true):=by
   intro r hl;rw[aa A]at hl⊢
   by_cases T:5=j
   ·rw[if_pos T]
   ·rw[if_neg T]
    by_cases V:9=j
    ·exact r V.symm
    ·rw[if_neg V]at hl
     exact h.wd.2.2.2.2 hl
  rcases(show j=0∨j=1∨j=2∨j=3∨j=4∨j=5∨j=6∨j=7∨j=8∨j=9∨j=10∨j=11 by omega)with rfl|rfl|rfl|rfl|rfl|rfl|rfl|rfl|rfl|rfl|rfl|rfl
  ·obtain⟨O,H,G,f⟩:=Sx
   obtain rfl:=same H rfl;have I:(listed.setIfInBounds 0 true).getD 3 false=listed.getD 3 false:=by rw[aa A,if_neg (by decide)]
   have J:(listed.setIfInBounds 0 true).getD 4 false=listed.getD 4 false:=by rw[aa A,if_neg (by decide)]
   have L:(listed.setIfInBounds 0 true).getD 8 false=listed.getD 8 false:=by rw[aa A,if_neg (by decide)]
   have M:(listed.setIfInBounds 0 true).getD 9 false=listed.getD 9 false:=by rw[aa A,if_neg (by decide)]
   have bH:zH w1 B v6 v7 lh fst ld pt γ ((listed.setIfInBounds 0 true).getD 3 false) ((listed.setIfInBounds 0 true).getD 4 false) ((listed.setIfInBounds 0 true).getD 8 false) ((listed.setIfInBounds 0 true).getD 9 false) w:=by rw[I,J,L,M];exact D
   have e0:a.eval (.tmp 6)=v6:=(h.same 6 (fun j' o'' h1 W=>by
    obtain⟨o7,z,_,Y2⟩:=CQ;obtain rfl:=((iV oG 10 o7 z).2.2 6 Y2).2 j' o'' h1 W
    cases E:listed.getD 10 false with
    |false=>rfl
    |true=>
     have T:=hA E;have:=h.wd.2.2.2.1 T
     exact absurd this (by rw[l];decide))).trans h6
   exact wp_move _ _ (Or.inl G) e0 ⟨γ,fun _ _=>rfl,rfl,bH,X (fun h=>by omega),Y (fun h=>by omega),Z (fun h=>by omega),c (fun h=>by omega)⟩
  ·obtain⟨O,H,G,f⟩:=Sy
   obtain rfl:=same H rfl;have I:(listed.setIfInBounds 1 true).getD 3 false=listed.getD 3 false:=by rw[aa A,if_neg (by decide)]
   have J:(listed.setIfInBounds 1 true).getD 4 false=listed.getD 4 false:=by rw[aa A,if_neg (by decide)]
   have L:(listed.setIfInBounds 1 true).getD 8 false=listed.getD 8 false:=by rw[aa A,if_neg (by decide)]
   have M:(listed.setIfInBounds 1 true).getD 9 false=listed.getD 9 false:=by rw[aa A,if_neg (by decide)]
   have bH:zH w1 B v6 v7 lh fst ld pt γ ((listed.setIfInBounds 1 true).getD 3 false) ((listed.setIfInBounds 1 true).getD 4 false) ((listed.setIfInBounds 1 true).getD 8 false) ((listed.setIfInBounds 1 true).getD 9 false) w:=by rw[I,J,L,M];exact D
   have e:a.eval (.tmp 9)=.pointer (some ⟨gx,0,none⟩):=(h.old (t:=9) (by kernel_rfl)).trans h9;refine cE _ ?_ ⟨γ,fun _ _=>rfl,rfl,bH,X (fun h=>by omega),Y (fun h=>by omega),Z (fun h=>by omega),c (fun h=>by omega)⟩;generalize a.eval=ev at e⊢;simp[go_sem,execOp,G,e,mR]
  ·obtain⟨O,H,G,f⟩:=Sz
   obtain rfl:=same H rfl;have I:(listed.setIfInBounds 2 true).getD 3 false=listed.getD 3 false:=by rw[aa A,if_neg (by decide)]
   have J:(listed.setIfInBounds 2 true).getD 4 false=listed.getD 4 false:=by rw[aa A,if_neg (by decide)]
   have L:(listed.setIfInBounds 2 true).getD 8 false=listed.getD 8 false:=by rw[aa A,if_neg (by decide)]
   have M:(listed.setIfInBounds 2 true).getD 9 false=listed.getD 9 false:=by rw[aa A,if_neg (by decide)]
   have bH:zH w1 B v6 v7 lh fst ld pt γ ((listed.setIfInBounds 2 true).getD 3 false) ((listed.setIfInBounds 2 true).getD 4 false) ((listed.setIfInBounds 2 true).getD 8 false) ((listed.setIfInBounds 2 true).getD 9 false) w:=by rw[I,J,L,M];exact D
   have e:a.eval (.tmp 69)=.pointer (some ⟨gx,2,none⟩):=(h.get N R (i:=1) (d:=69) (by kernel_rfl) rfl)
   have q:w.cell? ⟨gx,2,none⟩=some (.string (str ld)):=by
    rw[(N9.bV D.kp hgx).cell];exact ju
   refine cE _ ?_ ⟨γ,fun _ _=>rfl,rfl,bH,X (fun h=>by omega),Y (fun h=>by omega),Z (fun h=>by omega),c (fun h=>by omega)⟩;generalize a.eval=ev at e⊢;simp[go_sem,execOp,G,e,q,mR]
  ·obtain⟨O,H,G,f⟩:=SA
   obtain rfl:=same H rfl;have I:(listed.setIfInBounds 3 true).getD 3 false=true:=by rw[aa A,if_pos rfl]
   have J:(listed.setIfInBounds 3 true).getD 4 false=listed.getD 4 false:=by rw[aa A,if_neg (by decide)]
   have L:(listed.setIfInBounds 3 true).getD 8 false=listed.getD 8 false:=by rw[aa A,if_neg (by decide)]
   have M:(listed.setIfInBounds 3 true).getD 9 false=listed.getD 9 false:=by rw[aa A,if_neg (by decide)]
   have x0:a.eval (.tmp 70)=.string (str ld):=(h.get N R (i:=2) (d:=70) (by kernel_rfl) rfl)
   have q:=Hz w (str ld);have hr:(execOp a.eval O).run Tryz.prog w=.ok (.value (.slice (some ⟨w.heap.size,0,none⟩) 1 1)) (w.alloc (.cells #[.string (str ld)] 9)):=by simp[execOp,G,x0,q,Result.andThen]
   have kW:Below w.heap.size w (w.alloc (.cells #[.string (str ld)] 9)):=(Below.refl _ w).alloc (Qk _) _;have U:=D.grow kW;unfold Oper.wp;rw[hr,Oper.upon_value];refine⟨{γ with bc:=w.heap.size},fun i hi=>Sr _ _ _ _ _ _ _ (cX i hi),rfl,?_,X (fun h=>by omega),Y (fun h=>by omega),Z (fun h=>by omega),c (fun h=>by omega)⟩;rw[I,J,L,M];exact {kp:=U.kp,ra:=U.ra,rb:=U.rb,sep:=U.sep,lc:=fun _ _=>⟨au.new w _ _,D.kp.size⟩,lo:=U.lo,c4:=fun _=>rfl,c9:=U.c9}
  ·obtain⟨O,H,G,f⟩:=SB
   obtain rfl:=same H rfl;have I:(listed.setIfInBounds 4 true).getD 3 false=listed.getD 3 false:=by rw[aa A,if_neg (by decide)]
   have J:(listed.setIfInBounds 4 true).getD 4 false=true:=by rw[aa A,if_pos rfl]
   have L:(listed.setIfInBounds 4 true).getD 8 false=listed.getD 8 false:=by rw[aa A,if_neg (by decide)]
   have M:(listed.setIfInBounds 4 true).getD 9 false=listed.getD 9 false:=by rw[aa A,if_neg (by decide)]
   have x0:a.eval (.tmp 68)=v6:=(h.get N R (i:=0) (d:=68) (by kernel_rfl) rfl)
   have x1:a.eval (.tmp 71)=.slice (some ⟨γ.bc,0,none⟩) 1 1:=(h.get N R (i:=3) (d:=71) (by kernel_rfl) rfl)
   have ll:listed.getD 3 false=true:=bW N R (by kernel_rfl);have ZE:=D.ra;rw[l]at ZE;have OD:w.ownsRow B 9 1 v6 lh.length (dA lh):=ZE;obtain⟨l1,l2⟩:=D.lc ll l;have p:=D.sep;rw[l]at p
   have NH:∀k,k=10→listed.getD k false=true→False:=fun k hk hl=>by
    subst hk;have:=hA hl;rw[l]at this
    cases this
   refine Jj _ _ G B v6 lh x0 OD γ.bc 1 ld x1 l1 (by omega) (Nat.le_trans hB D.kp.size) (fun v' w' h1 W u=>⟨{γ with va:=v'},fun i hi=>Su _ _ _ _ _ _ _ ⟨cX i hi,fun e=>NH i e hi⟩,rfl,?_,X (fun h=>by omega),Y (fun h=>by omega),Z (fun _=>bW N R (by kernel_rfl)),c (fun h=>by omega)⟩);rw[I,J,L,M];have hK:Kept (fun b=>v6.ownBlock=some b) w w':=(Kept.refl _ w).grown W (fun k hk=>.inr hk);have xF:=World.ownsRow.lt OD;have D5:=World.ownsRow.lt D.rb
   exact {kp:=D.kp.trans (hK.mono (fun k hk=>.inl hk)),ra:=h1,rb:=bh D.rb hK (fun k hk e=>p k e hk),sep:=fun k hk e=>by
           rcases u k hk with h5|h5
           ·exact p k h5 e
           ·have:=(D5 k e).2
            omega
          lc:=fun _ E=>(by cases E),lo:=fun h6 y=>⟨uQ (D.lo h6 y).1 W (fun e=>by
           have h9:=(D.lo h6 y).2;have V:γ.bd<w1.heap.size:=(World.ownsRow.lt Bl _ e).2
           omega),(D.lo h6 y).2⟩
          c4:=fun _=>ll,c9:=D.c9}
  ·obtain⟨O,H,G,f⟩:=SC
   obtain rfl:=same H rfl;have I:(listed.setIfInBounds 5 true).getD 3 false=listed.getD 3 false:=by rw[aa A,if_neg (by decide)]
   have J:(listed.setIfInBounds 5 true).getD 4 false=listed.getD 4 false:=by rw[aa A,if_neg (by decide)]
   have L:(listed.setIfInBounds 5 true).getD 8 false=listed.getD 8 false:=by rw[aa A,if_neg (by decide)]
   have M:(listed.setIfInBounds 5 true).getD 9 false=listed.getD 9 false:=by rw[aa A,if_neg (by decide)]
   have bH:zH w1 B v6 v7 lh fst ld pt γ ((listed.setIfInBounds 5 true).getD 3 false) ((listed.setIfInBounds 5 true).getD 4 false) ((listed.setIfInBounds 5 true).getD 8 false) ((listed.setIfInBounds 5 true).getD 9 false) w:=by rw[I,J,L,M];exact D
   have e0:a.eval (.tmp 7)=v7:=(h.same 7 (fun j' o'' h1 W=>by
    obtain⟨o7,z,_,Y2⟩:=CR;obtain rfl:=((iV oG 11 o7 z).2.2 7 Y2).2 j' o'' h1 W
    cases E:listed.getD 11 false with
    |false=>rfl
    |true=>
     have T:=hD E;have:=h.wd.2.2.2.2 T
     exact absurd this (by rw[l];decide))).trans h7
   exact wp_move _ _ (Or.inl G) e0 ⟨γ,fun _ _=>rfl,rfl,bH,X (fun h=>by omega),Y (fun h=>by omega),Z (fun h=>by omega),c (fun h=>by omega)⟩
  ·obtain⟨O,H,G,f⟩:=SD
   obtain rfl:=same H rfl;have I:(listed.setIfInBounds 6 true).getD 3 false=listed.getD 3 false:=by rw[aa A,if_neg (by decide)]
   have J:(listed.setIfInBounds 6 true).getD 4 false=listed.getD 4 false:=by rw[aa A,if_neg (by decide)]
   have L:(listed.setIfInBounds 6 true).getD 8 false=listed.getD 8 false:=by rw[aa A,if_neg (by decide)]
   have M:(listed.setIfInBounds 6 true).getD 9 false=listed.getD 9 false:=by rw[aa A,if_neg (by decide)]
   have bH:zH w1 B v6 v7 lh fst ld pt γ ((listed.setIfInBounds 6 true).getD 3 false) ((listed.setIfInBounds 6 true).getD 4 false) ((listed.setIfInBounds 6 true).getD 8 false) ((listed.setIfInBounds 6 true).getD 9 false) w:=by rw[I,J,L,M];exact D
   have e:a.eval (.tmp 9)=.pointer (some ⟨gx,0,none⟩):=(h.old (t:=9) (by kernel_rfl)).trans h9;refine cE _ ?_ ⟨γ,fun _ _=>rfl,rfl,bH,X (fun h=>by omega),Y (fun h=>by omega),Z (fun h=>by omega),c (fun h=>by omega)⟩;generalize a.eval=ev at e⊢;simp[go_sem,execOp,G,e,mR]
  ·obtain⟨O,H,G,f⟩:=SE
   obtain rfl:=same H rfl;have I:(listed.setIfInBounds 7 true).getD 3 false=listed.getD 3 false:=by rw[aa A,if_neg (by decide)]
   have J:(listed.setIfInBounds 7 true).getD 4 false=listed.getD 4 false:=by rw[aa A,if_neg (by decide)]
   have L:(listed.setIfInBounds 7 true).getD 8 false=listed.getD 8 false:=by rw[aa A,if_neg (by decide)]
   have M:(listed.setIfInBounds 7 true).getD 9 false=listed.getD 9 false:=by rw[aa A,if_neg (by decide)]
   have bH:zH w1 B v6 v7 lh fst ld pt γ ((listed.setIfInBounds 7 true).getD 3 false) ((listed.setIfInBounds 7 true).getD 4 false) ((listed.setIfInBounds 7 true).getD 8 false) ((listed.setIfInBounds 7 true).getD 9 false) w:=by rw[I,J,L,M];exact D
   have e:a.eval (.tmp 74)=.pointer (some ⟨gx,0,none⟩):=(h.get N R (i:=6) (d:=74) (by kernel_rfl) rfl)
   have q:w.cell? ⟨gx,0,none⟩=some (.string (str pt)):=by
    rw[(N9.bV D.kp hgx).cell];exact Oa
   refine cE _ ?_ ⟨γ,fun _ _=>rfl,rfl,bH,X (fun h=>by omega),Y (fun h=>by omega),Z (fun h=>by omega),c (fun h=>by omega)⟩;generalize a.eval=ev at e⊢;simp[go_sem,execOp,G,e,q,mR]
  ·obtain⟨O,H,G,f⟩:=SF
   obtain rfl:=same H rfl;have I:(listed.setIfInBounds 8 true).getD 3 false=listed.getD 3 false:=by rw[aa A,if_neg (by decide)]
   have J:(listed.setIfInBounds 8 true).getD 4 false=listed.getD 4 false:=by rw[aa A,if_neg (by decide)]
   have L:(listed.setIfInBounds 8 true).getD 8 false=true:=by rw[aa A,if_pos rfl]
   have M:(listed.setIfInBounds 8 true).getD 9 false=listed.getD 9 false:=by rw[aa A,if_neg (by decide)]
   have x0:a.eval (.tmp 75)=.string (str pt):=(h.get N R (i:=7) (d:=75) (by kernel_rfl) rfl)
   have q:=Hz w (str pt);have hr:(execOp a.eval O).run Tryz.prog w=.ok (.value (.slice (some ⟨w.heap.size,0,none⟩) 1 1)) (w.alloc (.cells #[.string (str pt)] 9)):=by simp[execOp,G,x0,q,Result.andThen]
   have kW:Below w.heap.size w (w.alloc (.cells #[.string (str pt)] 9)):=(Below.refl _ w).alloc (Qk _) _;have U:=D.grow kW;unfold Oper.wp;rw[hr,Oper.upon_value];refine⟨{γ with bd:=w.heap.size},fun i hi=>Ss _ _ _ _ _ _ _ (cX i hi),rfl,?_,X (fun h=>by omega),Y (fun h=>by omega),Z (fun h=>by omega),c (fun h=>by omega)⟩;rw[I,J,L,M];exact {kp:=U.kp,ra:=U.ra,rb:=U.rb,sep:=U.sep,lo:=fun _ _=>⟨au.new w _ _,D.kp.size⟩,lc:=U.lc,c9:=fun _=>rfl,c4:=U.c4}
  ·obtain⟨O,H,G,f⟩:=SG
   obtain rfl:=same H rfl;have I:(listed.setIfInBounds 9 true).getD 3 false=listed.getD 3 false:=by rw[aa A,if_neg (by decide)]
   have J:(listed.setIfInBounds 9 true).getD 4 false=listed.getD 4 false:=by rw[aa A,if_neg (by decide)]
   have L:(listed.setIfInBounds 9 true).getD 8 false=listed.getD 8 false:=by rw[aa A,if_neg (by decide)]
   have M:(listed.setIfInBounds 9 true).getD 9 false=true:=by rw[aa A,if_pos rfl]
   have x0:a.eval (.tmp 73)=v7:=(h.get N R (i:=5) (d:=73) (by kernel_rfl) rfl)
   have x1:a.eval (.tmp 76)=.slice (some ⟨γ.bd,0,none⟩) 1 1:=(h.get N R (i:=8) (d:=76) (by kernel_rfl) rfl)
   have ll:listed.getD 8 false=true:=bW N R (by kernel_rfl);have ZE:=D.rb;rw[l]at ZE;have OD:w.ownsRow B 9 1 v7 fst.length (dA fst):=ZE;obtain⟨l1,l2⟩:=D.lo ll l;have p:=D.sep;rw[l]at p
   have NH:∀k,k=11→listed.getD k false=true→False:=fun k hk hl=>by
    subst hk;have:=hD hl;rw[l]at this
    cases this
   refine Jj _ _ G B v7 fst x0 OD γ.bd 1 pt x1 l1 (by omega) (Nat.le_trans hB D.kp.size) (fun v' w' h1 W u=>⟨{γ with vb:=v'},fun i hi=>Sw _ _ _ _ _ _ _ ⟨cX i hi,fun e=>NH i e hi⟩,rfl,?_,X (fun h=>by omega),Y (fun h=>by omega),Z (fun h=>by omega),c (fun _=>bW N R (by kernel_rfl))⟩);rw[I,J,L,M];have hK:Kept (fun b=>v7.ownBlock=some b) w w':=(Kept.refl _ w).grown W (fun k hk=>.inr hk);have xF:=World.ownsRow.lt OD;have D5:=World.ownsRow.lt D.ra
   exact {kp:=D.kp.trans (hK.mono (fun k hk=>.inr hk)),rb:=h1,ra:=bh D.ra hK (fun k hk e=>p k hk e),sep:=fun k hk e=>by
           rcases u k e with h5|h5
           ·exact p k hk h5
           ·have:=(D5 k hk).2
            omega
          lo:=fun _ E=>(by cases E),lc:=fun h6 y=>⟨uQ (D.lc h6 y).1 W (fun e=>by
           have h9:=(D.lc h6 y).2;have V:γ.bc<w1.heap.size:=(World.ownsRow.lt tP _ e).2
           omega),(D.lc h6 y).2⟩
          c9:=fun _=>ll,c4:=D.c4}
  ·obtain⟨O,H,G,f⟩:=CQ
   obtain rfl:=same H rfl;have I:(listed.setIfInBounds 10 true).getD 3 false=listed.getD 3 false:=by rw[aa A,if_neg (by decide)]
   have J:(listed.setIfInBounds 10 true).getD 4 false=listed.getD 4 false:=by rw[aa A,if_neg (by decide)]
   have L:(listed.setIfInBounds 10 true).getD 8 false=listed.getD 8 false:=by rw[aa A,if_neg (by decide)]
   have M:(listed.setIfInBounds 10 true).getD 9 false=listed.getD 9 false:=by rw[aa A,if_neg (by decide)]
   have bH:zH w1 B v6 v7 lh fst ld pt γ ((listed.setIfInBounds 10 true).getD 3 false) ((listed.setIfInBounds 10 true).getD 4 false) ((listed.setIfInBounds 10 true).getD 8 false) ((listed.setIfInBounds 10 true).getD 9 false) w:=by rw[I,J,L,M];exact D
   exact wp_move _ _ (Or.inr G) (h.get N R (i:=4) (d:=72) (by kernel_rfl) rfl) ⟨γ,fun _ _=>rfl,rfl,bH,X (fun _=>bW N R (by kernel_rfl)),Y (fun h=>by omega),Z (fun h=>by omega),c (fun h=>by omega)⟩
  ·obtain⟨O,H,G,f⟩:=CR
   obtain rfl:=same H rfl;have I:(listed.setIfInBounds 11 true).getD 3 false=listed.getD 3 false:=by rw[aa A,if_neg (by decide)]
   have J:(listed.setIfInBounds 11 true).getD 4 false=listed.getD 4 false:=by rw[aa A,if_neg (by decide)]
   have L:(listed.setIfInBounds 11 true).getD 8 false=listed.getD 8 false:=by rw[aa A,if_neg (by decide)]
   have M:(listed.setIfInBounds 11 true).getD 9 false=listed.getD 9 false:=by rw[aa A,if_neg (by decide)]
   have bH:zH w1 B v6 v7 lh fst ld pt γ ((listed.setIfInBounds 11 true).getD 3 false) ((listed.setIfInBounds 11 true).getD 4 false) ((listed.setIfInBounds 11 true).getD 8 false) ((listed.setIfInBounds 11 true).getD 9 false) w:=by rw[I,J,L,M];exact D
   exact wp_move _ _ (Or.inr G) (h.get N R (i:=9) (d:=77) (by kernel_rfl) rfl) ⟨γ,fun _ _=>rfl,rfl,bH,X (fun h=>by omega),Y (fun _=>bW N R (by kernel_rfl)),Z (fun h=>by omega),c (fun h=>by omega)⟩
 ·intro γ listed a w h m
  have all:∀j,j<12→listed.getD j false=true:=fun j hj=>m j (by rw[vY];exact hj)
  have D:=h.wd.1;rw[gI 83 oG hsz h m,vY];simp only[gh,O6,O7,O8,O9,Pa,Pb,Pc,Pd,Pe,Pf,Ld,Le,mR];have h1:=D.ra;have W:=D.rb;have u:=D.sep;rw[all 4 (by omega)]at h1 u;rw[all 9 (by omega)]at W u;exact hQ γ w D.kp h1 W u
 ·exact⟨{kp:=(Kept.refl _ w1).drew,ra:=by rw[no];exact Bl,rb:=by rw[no];exact tP,sep:=by rw[no,no];exact ag9,lc:=fun E=>(by rw[no]at E;cases E),lo:=fun E=>(by rw[no]at E;cases E),c4:=fun E=>(by rw[no]at E;cases E),c9:=fun E=>(by rw[no]at E;cases E)},fun E=>(by rw[no]at E;cases E),fun E=>(by rw[no]at E;cases E),fun E=>(by rw[no]at E;cases E),fun E=>(by rw[no]at E;cases E)⟩
end p8
namespace Ea
open cN Bk Mem Tre Go.Lib
def yi (w:World) (n:Nat) (e:Ending) (w':World):Prop:=∃b:Bool,e=.returned (.bool b)∧(b=true→n≤60)∧Below w.heap.size w w'
theorem CK (p:Option Addr) (n c:Nat) (xs:List NP) (w:World) (hM:aV w p n xs) (hc:n≤c) (hm:c≤maxLen) (hR:∀x∈xs,x.m.path.length≤140737488351232∧x.m.target.length≤140737488351232∧x.m.ag.length≤140737488351232∧x.m.body.length≤140737488351232):
 Calls Tryz.prog 8 #[.slice p n c] w (yi w n):=by
 have V:n≤9223372036854775807:=by unfold maxLen at hm;omega
 have N:=Qh hM;have M:=Qh hM.1;have O:=Qh hR;clear hM hR hm
 go_enter Tryz.func8,Tryz.ntmps8
 go_wp2_with fail
 go_loopw [3,4] (fun s i wr=>∃(k:Nat) (S:Int),k≤n∧i=.int .i64 (k:Int)∧s=.int .i64 S∧Hid (Below w.heap.size w wr)) (fun _ i _=>n - (RowKit.intOf i).toNat)
 case atStart=>exact⟨0,0,Nat.zero_le _,rfl,rfl,Qh (Below.refl _ _)⟩
 case round=>
  obtain⟨k,S,hk,rfl,rfl,B⟩:=hrel
  by_cases H:k<n
  ·have G:k<xs.length:=by rw[M.out];exact H
   have A:=O.out _ (nh xs k G);obtain⟨b,o,rfl,T,U,hc⟩:=(N.out.below B.out).dF H;obtain⟨y,hy⟩:∃y,xs.getD k aD=y:=⟨_,rfl⟩
   rw[hy]at A hc;obtain⟨c0,c1,c2,c3,c4,c5,c6,c7,R⟩:=hc;have X:(k:Int)<(n:Int):=by omega
   have s0:(str y.m.path).size=y.m.path.length:=ak _;have s1:(str y.m.target).size=y.m.target.length:=ak _;obtain⟨pl,J⟩:∃pl,y.m.path.length=pl:=⟨_,rfl⟩
   obtain⟨tl,L⟩:∃tl,y.m.target.length=tl:=⟨_,rfl⟩
   obtain⟨bl,I⟩:∃bl,y.m.body.length=bl:=⟨_,rfl⟩
   rw[J]at s0 A;rw[L]at s1 A;rw[I]at R A;clear A U T hy G c2 c3 c4 c5 c6 c7 J L I;go_wp2_with fail
   go_quiet (fail)
   go_wp2;go_roundw
   case rel=>exact⟨k+1,_,by omega,by go_num,rfl,Qh (below_drewN B.out _)⟩
   case measure=>simp[RowKit.intOf];omega
  ·have Y:¬((k:Int)<(n:Int)):=by omega
   by_cases E:n≤60
   ·have D:(n:Int)≤(60:Int):=by omega
    by_cases W:S≤(200000:Int)
    ·go_wp2
     go_ret;exact⟨true,rfl,fun _=>E,B.out⟩
    ·go_wp2
     go_ret;exact⟨false,rfl,(fun h=>by cases h),B.out⟩
   ·have D:¬((n:Int)≤(60:Int)):=by omega
    go_wp2;go_ret;exact⟨false,rfl,(fun h=>by cases h),B.out⟩
end Ea
end Go.Proofs.YtdhibldkldlfpaaGreatDoor
